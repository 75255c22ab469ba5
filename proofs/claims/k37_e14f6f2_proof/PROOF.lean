import PyProof.Rows.All
import Wide.All
import OpenK.AllK
import Wide.FinOn
import Lean
import PyProof.EqAt
import PyProof.EqKinds
import PyProof.TupleCall
import KE.KIntText
import PySem.Challenge.RW_commonform_k37_papers_walked
-- CHANGE: your row's module here, as the last of these rows
set_option Elab.async false
set_option linter.all false
set_option maxRecDepth 100000
/-! THE HAND LAYER, for ints, bools, texts, own classes, LISTS and tuples (index, slices, in, append, pop ..), calls, loops. Paste it whole ahead of your own text; what your proof does not reach may be deleted. -/
namespace L2
open PySem PySem.Spec PyProof.Rows

/-- a key: an int or a str -/
abbrev Key := Sum Int Str
def keyIs : Key → Value → Bool
  | .inl k, v => Value.isInt k v
  | .inr x, v => Value.isStrOf x v
def keyH (w : World) : Key → Int
  | .inl k => hashInt k
  | .inr x => hashStr w x
theorem keyIs_shape : ∀ {k : Key} {v : Value}, keyIs k v = true → (∃ i t, k = Sum.inl i ∧ v = Value.int i t) ∨ (∃ x t, k = Sum.inr x ∧ v = Value.str x t)
  | .inl i, v, h => by
    obtain ⟨t, e⟩ := Value.isInt_shape (k := i) (v := v) h
    exact .inl ⟨i, t, rfl, e⟩
  | .inr x, v, h => by
    obtain ⟨t, e⟩ := Value.isStrOf_shape (x := x) (v := v) h
    exact .inr ⟨x, t, rfl, e⟩
theorem keyIs_int (i : Int) (t : Tok) : keyIs (.inl i) (.int i t) = true := by simp [keyIs, Value.isInt]
theorem keyIs_str (x : Str) (t : Tok) : keyIs (.inr x) (.str x t) = true := by simp [keyIs, Value.isStrOf]
theorem key_ll (a b : Int) : decide ((Sum.inl a : Key) = Sum.inl b) = (a == b) := by
  by_cases e : a = b
  · subst e; simp
  · have h : ¬ (Sum.inl a : Key) = Sum.inl b := fun q => e (Sum.inl.inj q)
    rw [decide_eq_false h]
    exact (beq_eq_false_iff_ne.mpr e).symm
theorem key_rr (a b : Str) : decide ((Sum.inr a : Key) = Sum.inr b) = decide (a = b) := by
  by_cases e : a = b
  · subst e; simp
  · have h : ¬ (Sum.inr a : Key) = Sum.inr b := fun q => e (Sum.inr.inj q)
    rw [decide_eq_false h, decide_eq_false e]
theorem key_lr (a : Int) (b : Str) : decide ((Sum.inl a : Key) = Sum.inr b) = false := decide_eq_false (fun q => nomatch q)
theorem key_rl (a : Str) (b : Int) : decide ((Sum.inr a : Key) = Sum.inl b) = false := decide_eq_false (fun q => nomatch q)

def mixKind (prog : Program) (w : World) : PySem.KeyKind prog w Key where
  is := keyIs
  hash := keyH w
  inj := fun v a b ha hb => by
    rcases keyIs_shape ha with ⟨i, t, rfl, rfl⟩ | ⟨x, t, rfl, rfl⟩
    · rcases keyIs_shape hb with ⟨j, u, rfl, e⟩ | ⟨y, u, rfl, e⟩
      · injection e with e1 _; rw [e1]
      · exact nomatch e
    · rcases keyIs_shape hb with ⟨j, u, rfl, e⟩ | ⟨y, u, rfl, e⟩
      · exact nomatch e
      · injection e with e1 _; rw [e1]
  byValue := fun k v h => by
    rcases keyIs_shape h with ⟨i, t, rfl, rfl⟩ | ⟨x, t, rfl, rfl⟩ <;> rfl
  pyHash := fun hv h => by
    rcases keyIs_shape hv with ⟨i, t, rfl, rfl⟩ | ⟨x, t, rfl, rfl⟩
    · exact wpAny_pyHash_int h
    · exact wpAny_pyHash_str h
  eqBool := fun hu hv h => by
    rcases keyIs_shape hu with ⟨i, t, rfl, rfl⟩ | ⟨x, t, rfl, rfl⟩
    · rcases keyIs_shape hv with ⟨j, u, rfl, rfl⟩ | ⟨y, u, rfl, rfl⟩
      · rw [key_ll] at h; exact wpAny_eqBool_int h
      · rw [key_lr] at h; exact SeqAt.EqAt.int_str i t y u _ _ _ _ h
    · rcases keyIs_shape hv with ⟨j, u, rfl, rfl⟩ | ⟨y, u, rfl, rfl⟩
      · rw [key_rl] at h; exact SeqAt.EqAt.str_int x t j u _ _ _ _ h
      · rw [key_rr] at h; exact wpAny_eqBool_str h
  «strs» := fun k x t v h => by
    rcases keyIs_shape h with ⟨i, u, rfl, e⟩ | ⟨y, u, rfl, e⟩
    · exact nomatch e
    · injection e with e1 _
      subst e1
      cases v <;> rfl

theorem mixKind_int (prog : Program) (w : World) (i : Int) (t : Tok) : (mixKind prog w).is (.inl i) (.int i t) = true := keyIs_int i t
theorem mixKind_str (prog : Program) (w : World) (x : Str) (t : Tok) : (mixKind prog w).is (.inr x) (.str x t) = true := keyIs_str x t
end L2

namespace L2
open PySem PySem.Spec PyProof.Rows

/-- a value, without the heap -/
inductive V where
  | non | bl (b : Bool) | int (i : Int) | str (x : Str) | byt (b : Array UInt8) | flt (b : UInt64) | ref (a : Addr) | ty (n : String)
  deriving DecidableEq

def RelV : V → Value → Prop
  | .non, u => u = Value.none
  | .bl b, u => u = Value.bool b
  | .int i, u => ∃ t, u = Value.int i t
  | .str x, u => ∃ t, u = Value.str x t
  | .byt b, u => ∃ t, u = Value.bytes b t
  | .flt b, u => ∃ t, u = Value.float b t
  | .ref a, u => u = Value.ref a
  | .ty n, u => u = Value.type n

abbrev Vals : List V → List Value → Prop := Paired RelV
theorem Vals.length {xs : List V} {us : List Value} (r : Vals xs us) : xs.length = us.length := Paired.length r
theorem Vals.get : ∀ {xs : List V} {us : List Value} {i : Nat} {x : V}, Vals xs us → xs[i]? = some x → ∃ u, us[i]? = some u ∧ RelV x u
  | _, _, _, _, .nil, e => by simp at e
  | _, _, 0, _, .cons r _, e => by simp at e; subst e; exact ⟨_, rfl, r⟩
  | _, _, i + 1, x, .cons _ t, e => by
    obtain ⟨u, h1, h2⟩ := Vals.get (i := i) (x := x) t (by simpa using e)
    exact ⟨u, by simpa using h1, h2⟩
theorem Vals.set {x : V} {u : Value} (r : RelV x u) : ∀ {xs : List V} {us : List Value} (i : Nat), Vals xs us → Vals (xs.set i x) (us.set i u)
  | _, _, _, .nil => .nil
  | _, _, 0, .cons _ t => .cons r t
  | _, _, i + 1, .cons q t => .cons q (Vals.set r i t)
theorem Vals.append {xs ys : List V} {us ws : List Value} (h : Vals xs us) (s : Vals ys ws) : Vals (xs ++ ys) (us ++ ws) := by
  induction h with
  | nil => exact s
  | cons r t ih => exact .cons r ih
theorem Vals.take {xs : List V} {us : List Value} (n : Nat) (h : Vals xs us) : Vals (xs.take n) (us.take n) := by
  induction h generalizing n with
  | nil => cases n <;> exact .nil
  | cons r t ih => cases n with
    | zero => exact .nil
    | succ n => exact .cons r (ih n)
theorem Vals.drop {xs : List V} {us : List Value} (n : Nat) (h : Vals xs us) : Vals (xs.drop n) (us.drop n) := by
  induction h generalizing n with
  | nil => cases n <;> exact .nil
  | cons r t ih => cases n with
    | zero => exact .cons r t
    | succ n => exact ih n
def RelO : Option V → Option Value → Prop
  | some v, some u => RelV v u
  | none, none => True
  | _, _ => False
def KV {κ : Type} : List (κ × V) → List (κ × Value) → Prop := Paired fun (p : κ × V) (q : κ × Value) => p.1 = q.1 ∧ RelV p.2 q.2

/-- a key of a dict (00_mix): an int or a text -/
def kV : Key → V
  | .inl i => .int i
  | .inr x => .str x

/-- what stands at a tracked address -/
inductive HO where
  /-- a list -/
  | lst (xs : List V)
  /-- a tuple (never changes) -/
  | tup (xs : List V)
  /-- a dict whose keys are ints and texts; one whose keys are tuples of ints and texts (the empty one is both) -/
  | dK (kvs : List (Key × V)) | dT (kvs : List (List Key × V))
  /-- a set of ints: its members, its size -/
  | set (S : Int → Bool) (n : Nat)
  /-- an instance of the class at C, its dict at dx, its attributes -/
  | ins (C dx : Addr) (fs : List (Str × V))
  /-- the dict of the instance at x -/
  | own (x : Addr)
  /-- the dict of an exception -/
  | xd (fs : List (Str × V))
  /-- a bound method, f of x -/
  | met (f x : Addr)
  /-- a range object lo, lo + 1, .. below hi -/
  | rng (lo hi : Int)
  /-- a thing that is known to the object (the script; a dict while a loop walks it): read, never written while it is so -/
  | frz (o : Obj) (u : HO)
  /-- a code object's table -/
  | tbl (ps : Array Value)
  /-- any other thing, by what is true of its one object (a def of one's own: SetO a S n := HO.ext fun h => ..) -/
  | ext (φ : Heap → Prop)

abbrev Hp := Addr → Option HO
def upd (H : Hp) (a : Addr) (o : HO) : Hp := fun b => if b = a then some o else H b
theorem upd_same {H : Hp} {a : Addr} {o : HO} : upd H a o a = some o := by unfold upd; rw [if_pos rfl]
theorem upd_ne {H : Hp} {a b : Addr} {o : HO} (h : b ≠ a) : upd H a o b = H b := by unfold upd; rw [if_neg h]
/-- two objects of different content stand apart -/
theorem ne_of {H : Hp} {a b : Addr} {o u : HO} (h : H a = some o) (h' : H b = some u) (d : o ≠ u) : a ≠ b := by
  intro e; subst e; rw [h] at h'; exact d (Option.some.inj h')
theorem ne_of_none {H : Hp} {a b : Addr} {o : HO} (h : H a = some o) (h' : H b = none) : a ≠ b := by
  intro e; subst e; rw [h] at h'; cases h'

section
variable (P : Program) (w : World)
def ObjOk (H : Hp) (h : Heap) (a : Addr) : HO → Prop
  | .lst xs => xs.length ≤ sizeLine ∧ ∃ (its : List Value) (n : Nat), Vals xs its ∧ h.get? a = some { cls := .type "list", data := .seq its.toArray n }
  | .tup xs => xs.length ≤ sizeLine ∧ ∃ its : List Value, Vals xs its ∧ IsTup h a its.toArray
  | .dK kvs => kvs.length ≤ sizeLine ∧ (a == sysModules) = false ∧ ∃ vs, KV kvs vs ∧ h.DictOf (mixKind P w) a vs
  | .dT kvs => kvs.length ≤ sizeLine ∧ (a == sysModules) = false ∧ ∃ xs : List (List Key × Addr × Value),
      Paired (fun (p : List Key × V) (q : List Key × Addr × Value) => p.1 = q.1 ∧ H q.2.1 = some (.tup (p.1.map kV)) ∧ RelV p.2 q.2.2) kvs xs ∧
      ∃ o es ep, h.get? a = some o ∧ o.ExactDict ∧ o.data = .dict es ep ∧ es.toList = xs.map (entryOfKey (tupleKind (mixKind P w))) ∧ (xs.map (·.1)).Nodup
  | .set S n => h.SetOf (intKind P w) a S n
  | .ins C dx fs => H dx = some (.own a) ∧ fs.length ≤ 1000 ∧ dx ≠ a ∧ h.get? a = some (PySem.W.instObj C dx) ∧
      ∃ mA, h.Ns1 dx mA ∧ (∀ f, RelO (fs.lookup f) (mA f)) ∧ PySem.Within mA (fs.map (·.1))
  | .own _ => ∃ o, h.get? a = some o
  | .xd fs => ∃ mA, h.Ns1 a mA ∧ ∀ f, RelO (fs.lookup f) (mA f)
  | .rng lo hi => ∃ t u v, h.get? a = some { cls := .type "range", data := .fields #[.int lo t, .int hi u, .int 1 v] }
  | .frz o u => h.get? a = some o ∧ ObjOk H h a u
  | .tbl ps => h.get? a = some { cls := .none, data := .fields ps }
  | .met f x => h.get? a = some (PySem.W.methodObj (.ref f) (.ref x))
  | .ext φ => φ h ∧ (∃ o, h.get? a = some o) ∧ ∀ h1 h2 : Heap, φ h1 → (∀ o, h1.get? a = some o → h2.get? a = some o) → φ h2
/-- the abstract heap is held -/
def HOk (H : Hp) (h : Heap) : Prop := ∀ a o, H a = some o → ObjOk P w H h a o
end

section
variable {P : Program} {w : World} {H H' : Hp} {h h' : Heap} {a : Addr} {o : HO}
theorem ObjOk.lt (x : ObjOk P w H h a o) : a < h.objs.size := by
  cases o with
  | lst xs => obtain ⟨_, _, _, _, e⟩ := x; exact Heap.lt_size e
  | tup xs => obtain ⟨_, _, _, p⟩ := x; exact p.lt
  | dK kvs => obtain ⟨_, _, _, _, o, _, _, e, _⟩ := x; exact Heap.lt_size e
  | dT kvs => obtain ⟨_, _, _, _, o, _, _, e, _⟩ := x; exact Heap.lt_size e
  | set S n => obtain ⟨o, _, _, _, e, _⟩ := x; exact Heap.lt_size e
  | ins C dx fs => obtain ⟨_, _, _, e, _⟩ := x; exact Heap.lt_size e
  | own y => obtain ⟨_, e⟩ := x; exact Heap.lt_size e
  | xd fs => obtain ⟨_, ⟨_, _, _, e, _⟩, _⟩ := x; exact Heap.lt_size e
  | rng lo hi => obtain ⟨_, _, _, e⟩ := x; exact Heap.lt_size e
  | frz ob u => obtain ⟨e, _⟩ := x; exact Heap.lt_size e
  | tbl ps => exact Heap.lt_size (show h.get? a = some _ from x)
  | met f y => exact Heap.lt_size (show h.get? a = some _ from x)
  | ext φ => obtain ⟨_, ⟨_, e⟩, _⟩ := x; exact Heap.lt_size e
theorem Paired.mapP {α β : Type} {F G : α → β → Prop} {l₁ : List α} {l₂ : List β} (h : Paired F l₁ l₂) (f : ∀ a b, F a b → G a b) : Paired G l₁ l₂ := by
  induction h with
  | nil => exact .nil
  | cons r t ih => exact .cons (f _ _ r) ih
/-- what an object's description leans on: its own object, its own dict, the tuples -/
theorem ObjOk.stay (x : ObjOk P w H h a o) (k : ∀ b u, (b = a ∨ H b = some (.own a)) → h.get? b = some u → h'.get? b = some u)
    (ho : ∀ b, H b = some (.own a) → H' b = some (.own a)) (ht : ∀ b xs, H b = some (.tup xs) → H' b = some (.tup xs)) : ObjOk P w H' h' a o := by
  induction o with
  | lst xs => obtain ⟨z, its, n, r, e⟩ := x; exact ⟨z, its, n, r, k _ _ (.inl rfl) e⟩
  | tup xs => obtain ⟨z, its, r, ob, e, c⟩ := x; exact ⟨z, its, r, ob, k _ _ (.inl rfl) e, c⟩
  | dK kvs => obtain ⟨z, y, vs, r, ob, es, ep, e, c⟩ := x; exact ⟨z, y, vs, r, ob, es, ep, k _ _ (.inl rfl) e, c⟩
  | dT kvs =>
    obtain ⟨z, y, xs, r, ob, es, ep, e, c⟩ := x
    exact ⟨z, y, xs, Paired.mapP r fun p q z => ⟨z.1, ht _ _ z.2.1, z.2.2⟩, ob, es, ep, k _ _ (.inl rfl) e, c⟩
  | set S n => obtain ⟨ob, es, ep, t, e, c⟩ := x; exact ⟨ob, es, ep, t, k _ _ (.inl rfl) e, c⟩
  | ins C dx fs =>
    obtain ⟨d, z, ne, e, mA, ⟨od, es, ep, e2, c⟩, r⟩ := x
    exact ⟨ho _ d, z, ne, k _ _ (.inl rfl) e, mA, ⟨od, es, ep, k _ _ (.inr d) e2, c⟩, r⟩
  | own y => obtain ⟨ob, e⟩ := x; exact ⟨ob, k _ _ (.inl rfl) e⟩
  | xd fs => obtain ⟨mA, ⟨od, es, ep, e, c⟩, r⟩ := x; exact ⟨mA, ⟨od, es, ep, k _ _ (.inl rfl) e, c⟩, r⟩
  | rng lo hi => obtain ⟨t, u, v, e⟩ := x; exact ⟨t, u, v, k _ _ (.inl rfl) e⟩
  | frz ob u ih => obtain ⟨e, q⟩ := x; exact ⟨k _ _ (.inl rfl) e, ih q⟩
  | tbl ps =>
    have e : h.get? a = some { cls := .none, data := .fields ps } := x
    show h'.get? a = some { cls := .none, data := .fields ps }
    exact k a _ (.inl rfl) e
  | met f y =>
    have e : h.get? a = some (PySem.W.methodObj (.ref f) (.ref y)) := x
    show h'.get? a = some (PySem.W.methodObj (.ref f) (.ref y))
    exact k a _ (.inl rfl) e
  | ext φ => obtain ⟨p, ⟨o, e⟩, st⟩ := x; exact ⟨st _ _ p fun o q => k _ _ (.inl rfl) q, ⟨o, k _ _ (.inl rfl) e⟩, st⟩
theorem HOk.lt (x : HOk P w H h) (e : H a = some o) : a < h.objs.size := (x a o e).lt
theorem HOk.fresh (x : HOk P w H h) (e : h.objs.size ≤ a) : H a = none := by
  cases q : H a with
  | none => rfl
  | some u => exact absurd (Nat.lt_of_lt_of_le (x.lt q) e) (Nat.lt_irrefl _)
/-- every object of the heap is kept -/
theorem HOk.kept (x : HOk P w H h) (k : ∀ b u, h.get? b = some u → h'.get? b = some u) : HOk P w H h' := fun a o e =>
  (x a o e).stay (fun b u _ q => k b u q) (fun _ q => q) fun _ _ q => q
/-- a new object is laid and tracked -/
theorem HOk.laid (x : HOk P w H h) (k : ∀ b u, h.get? b = some u → h'.get? b = some u) (hp : h.objs.size ≤ a) (new : ObjOk P w (upd H a o) h' a o) : HOk P w (upd H a o) h' := fun b u e => by
  have hn := x.fresh hp
  by_cases hb : b = a
  · subst hb; rw [upd_same] at e; cases e; exact new
  · rw [upd_ne hb] at e
    exact (x b u e).stay (fun c v _ q => k c v q) (fun c q => by rw [upd_ne (ne_of_none q hn)]; exact q) fun c xs q => by rw [upd_ne (ne_of_none q hn)]; exact q
end

/-- what may be read as u: it is u, or a known u -/
def Rd (H : Hp) (a : Addr) (u : HO) : Prop := H a = some u ∨ ∃ o, H a = some (.frz o u)
theorem Rd.of {H : Hp} {a : Addr} {u : HO} (h : H a = some u) : Rd H a u := .inl h
theorem Rd.ok {P : Program} {w : World} {H : Hp} {h : Heap} {a : Addr} {u : HO} (r : Rd H a u) (x : HOk P w H h) : ObjOk P w H h a u := by
  rcases r with r | ⟨o, r⟩
  · exact x a u r
  · obtain ⟨_, q⟩ := x a _ r
    exact q
/-- what may be written -/
def Mut : Option HO → Prop
  | some (.lst _) => True
  | some (.dK _) => True
  | some (.dT _) => True
  | some (.set _ _) => True
  | some (.ins _ _ _) => True
  | some (.ext _) => True
  | _ => False
section
variable {P : Program} {w : World} {H : Hp} {h h' : Heap} {x e : Addr} {o' : HO}
/-- the object at e is changed: x itself, or the dict of the instance x -/
theorem HOk.write (ok : HOk P w H h) (mu : Mut (H x)) (he : e = x ∨ H e = some (.own x)) (k : ∀ b u, b ≠ e → h.get? b = some u → h'.get? b = some u) (heo : ∃ u, h'.get? e = some u)
    (new : ObjOk P w (upd H x o') h' x o') : HOk P w (upd H x o') h' := fun b u q => by
  have nown : ∀ c y, H c = some (.own y) → c ≠ x := fun c y r z => by subst z; rw [r] at mu; exact mu
  have ntup : ∀ c xs, H c = some (.tup xs) → c ≠ x := fun c xs r z => by subst z; rw [r] at mu; exact mu
  by_cases hb : b = x
  · subst hb; rw [upd_same] at q; cases q; exact new
  · rw [upd_ne hb] at q
    by_cases hbe : b = e
    · have q' : H b = some (.own x) := by
        rcases he with z | z
        · exact absurd (hbe.trans z) hb
        · rw [hbe]; exact z
      rw [q] at q'; cases q'
      obtain ⟨v, hv⟩ := heo
      exact ⟨v, by rw [hbe]; exact hv⟩
    · refine (ok b u q).stay (fun c v hc r => k c v ?_ r) (fun c r => by rw [upd_ne (nown c b r)]; exact r) fun c xs r => by rw [upd_ne (ntup c xs r)]; exact r
      rcases hc with rfl | hc
      · exact hbe
      · rintro rfl
        rcases he with z | z
        · exact nown c b hc z
        · rw [hc] at z; cases z; exact hb rfl
end

/-! ### kept unless tracked; of the frames at fs (the callers') the slots may change (an exception that passes writes there); of the records at ex (iterators) nothing is said -/
structure Un (fs ex : List Addr) (H H' : Hp) (h h' : Heap) : Prop where
  keep : ∀ b o, h.get? b = some o → H b = none → b ∉ fs → b ∉ ex → h'.get? b = some o
  slot : ∀ b o, h.get? b = some o → H b = none → b ∈ fs → b ∉ ex → ∃ sl, h'.get? b = some { o with slots := sl }
  free : ∀ b o, h.get? b = some o → H b = none → b ∉ ex → H' b = none
  there : ∀ b o, h.get? b = some o → b ∉ ex → ∃ o', h'.get? b = some o'
  tups : ∀ b xs, H b = some (.tup xs) → H' b = some (.tup xs)
  frzs : ∀ b o u, H b = some (.frz o u) → H' b = some (.frz o u)
  tbls : ∀ b ps, H b = some (.tbl ps) → ∃ more, H' b = some (.tbl (ps ++ more))
section
variable {fs fs' ex ex' : List Addr} {H H1 H2 : Hp} {h h1 h2 h' : Heap} {a x e : Addr} {o : HO}
theorem Un.any (u : Un fs ex H H1 h h1) {b : Addr} {ob : Obj} (q : h.get? b = some ob) (n : H b = none) (hx : b ∉ ex) : ∃ sl, h1.get? b = some { ob with slots := sl } := by
  by_cases hb : b ∈ fs
  · exact u.slot b ob q n hb hx
  · exact ⟨ob.slots, u.keep b ob q n hb hx⟩
theorem Un.trans (a : Un fs ex H H1 h h1) (b : Un fs ex H1 H2 h1 h2) : Un fs ex H H2 h h2 where
  keep := fun c ob q n hc hx => b.keep c ob (a.keep c ob q n hc hx) (a.free c ob q n hx) hc hx
  slot := fun c ob q n hc hx => by
    obtain ⟨sl, e1⟩ := a.slot c ob q n hc hx
    obtain ⟨sl', e2⟩ := b.slot c _ e1 (a.free c ob q n hx) hc hx
    exact ⟨sl', e2⟩
  free := fun c ob q n hx => by
    obtain ⟨o', e1⟩ := a.there c ob q hx
    exact b.free c o' e1 (a.free c ob q n hx) hx
  there := fun c ob q hx => by
    obtain ⟨o', e1⟩ := a.there c ob q hx
    exact b.there c o' e1 hx
  tups := fun c xs q => b.tups c xs (a.tups c xs q)
  frzs := fun c ob xs q => b.frzs c ob xs (a.frzs c ob xs q)
  tbls := fun c ps q => by
    obtain ⟨m1, e1⟩ := a.tbls c ps q
    obtain ⟨m2, e2⟩ := b.tbls c _ e1
    exact ⟨m1 ++ m2, by rw [e2, Array.append_assoc]⟩
theorem Un.kept (k : ∀ b u, h.get? b = some u → h'.get? b = some u) : Un fs ex H H h h' :=
  ⟨fun b ob q _ _ _ => k b ob q, fun b ob q _ _ _ => ⟨ob.slots, k b ob q⟩, fun _ _ _ n _ => n, fun b ob q _ => ⟨ob, k b ob q⟩, fun _ _ q => q, fun _ _ _ q => q, fun _ ps q => ⟨#[], by rw [q]; simp⟩⟩
theorem Un.refl : Un fs ex H H h h := Un.kept fun _ _ q => q
theorem Un.laid (k : ∀ b u, h.get? b = some u → h'.get? b = some u) (hp : h.objs.size ≤ a) (hn : H a = none) : Un fs ex H (upd H a o) h h' where
  keep := fun b u q _ _ _ => k b u q
  slot := fun b u q _ _ _ => ⟨u.slots, k b u q⟩
  free := fun b u q n _ => by rw [upd_ne (Nat.ne_of_lt (Nat.lt_of_lt_of_le (Heap.lt_size q) hp))]; exact n
  there := fun b u q _ => ⟨u, k b u q⟩
  tups := fun b xs q => by rw [upd_ne (ne_of_none q hn)]; exact q
  frzs := fun b u xs q => by rw [upd_ne (ne_of_none q hn)]; exact q
  tbls := fun b ps q => ⟨#[], by rw [upd_ne (ne_of_none q hn), q]; simp⟩
theorem Un.write (mu : Mut (H x)) (he : e = x ∨ H e = some (.own x)) (k : ∀ b u, b ≠ e → h.get? b = some u → h'.get? b = some u) (heo : ∃ u, h'.get? e = some u) : Un fs ex H (upd H x o) h h' := by
  have hx : ∀ b, H b = none → b ≠ x := fun b n z => by subst z; rw [n] at mu; exact mu
  have hb : ∀ b, H b = none → b ≠ e := fun b n z => by
    subst z
    rcases he with r | r
    · exact hx b n r
    · rw [n] at r; cases r
  have hm : ∀ b u, H b = some u → ¬ Mut (some u) → b ≠ x := fun b u q nm z => by subst z; rw [q] at mu; exact nm mu
  refine ⟨fun b u q n _ _ => k b u (hb b n) q, fun b u q n _ _ => ⟨u.slots, k b u (hb b n) q⟩, fun b u q n _ => by rw [upd_ne (hx b n)]; exact n, fun b u q _ => ?_,
    fun b xs q => by rw [upd_ne (hm b _ q fun z => z)]; exact q, fun b u xs q => by rw [upd_ne (hm b _ q fun z => z)]; exact q, fun b ps q => ⟨#[], by rw [upd_ne (hm b _ q fun z => z), q]; simp⟩⟩
  by_cases hbe : b = e
  · subst hbe; exact heo
  · exact ⟨u, k b u hbe q⟩
theorem Un.mono (u : Un fs ex H H1 h h1) (hs : ∀ b ∈ fs, b ∈ fs') (hx : ∀ b ∈ ex, b ∈ ex') : Un fs' ex' H H1 h h1 :=
  ⟨fun b ob q n hb he => u.keep b ob q n (fun z => hb (hs b z)) fun z => he (hx b z), fun _ _ q n _ he => u.any q n fun z => he (hx _ z), fun b ob q n he => u.free b ob q n fun z => he (hx b z), fun b ob q he => u.there b ob q fun z => he (hx b z), u.tups, u.frzs, u.tbls⟩
end

/-! ### the heap without what is tracked -/
def trk (h : Heap) (H : Hp) : List Addr := (List.range h.objs.size).filter fun a => (H a).isSome
def hidT (h : Heap) (H : Hp) : Heap := PySem.W.hideAll h (trk h H)
theorem hidT_size (h : Heap) (H : Hp) : (hidT h H).objs.size = h.objs.size := PySem.W.hideAll_size _ _
theorem hidT_get {h : Heap} {H : Hp} {b : Addr} {o : Obj} (e : h.get? b = some o) (n : H b = none) : (hidT h H).get? b = some o :=
  PySem.W.hideAll_get _ e fun hm => by
    have q : (H b).isSome = true := (List.mem_filter.mp hm).2
    rw [n] at q; simp at q
theorem of_hidT {h : Heap} {H : Hp} {b : Addr} {o : Obj} (e : (hidT h H).get? b = some o) : h.get? b = some o ∧ H b = none := by
  have e' : h.get? b = some o := PySem.W.of_hideAll (trk h H) e
  refine ⟨e', ?_⟩
  cases q : H b with
  | none => rfl
  | some x =>
    have hm : b ∈ trk h H := List.mem_filter.mpr ⟨List.mem_range.mpr (Heap.lt_size e'), by simp [q]⟩
    have z : (hidT h H).get? b = none := PySem.W.hideAll_none (trk h H) hm
    rw [z] at e; cases e

/-! ### OpenK's ledger, filled with every new object but one -/
def allNews (g h : Heap) (L : Addr) : List (Addr × Obj) := (List.range h.objs.size).filterMap fun a => if a = L ∨ (g.get? a).isSome = true then none else (h.get? a).map fun o => (a, o)
def rest (g h : Heap) (L d : Addr) : List (Addr × Obj) := (allNews g h L).filter fun p => decide (p.1 ≠ d)
end L2

namespace L2
open PySem PySem.Spec PyProof.Rows

/-- the module's facts, over the base: the heap at the law's entry without what is tracked there -/
structure Mod (K : PySem.W.Frag) (mg : Str → Option Value) (base : Heap) : Prop where
  kin : K.In base
  glob : base.Ns mainGlobals mg
  blt : ∃ mb, base.Ns builtinsNs mb ∧ ∀ x : Str, x ≠ "__name__" → mb x = bootBuiltins x
  nolimit : base.NoLimit

/-- the context: a def's body (or a comprehension's block) running. base: fixed through the whole law; s₀, H₀: the entry; outer: the frames whose slots others may change (a def's callers); stack: all frames that run;
   ex: iterators that were made ahead of the entry and are walked here (a comprehension's); fn: the names whose cells were made at the entry (a def: all; a comprehension's block: its own); calm: not within an except suite; pn: pins that every state bears; xe: what is wanted of an exception that leaves the code -/
structure Cx where
  prog : Program
  w : World
  K : PySem.W.Frag
  mg : Str → Option Value
  base : Heap
  A : Around
  N : List Str
  s₀ : Shared
  H₀ : Hp
  env : Env
  outer : List Env
  stack : List Env
  ex : List Addr
  fn : Str → Bool
  calm : Bool
  pn : List (Addr × Obj)
  xe : Value → Shared → Prop
/-- the callers' frames -/
def frs (l : List Env) : List Addr := l.filterMap (·.frame)
abbrev Cx.fs (X : Cx) : List Addr := frs X.outer

def Vis (sc : Scope) (x : Str) : Prop := sc.names.lookup x = some .local ∨ sc.names.lookup x = some .cell ∨ sc.names.lookup x = some .free
def Loc (sc : Scope) (x : Str) : Prop := sc.names.lookup x = some .local ∨ sc.names.lookup x = some .cell
def Look (env : Env) (h : Heap) (m : Str → Option Value) (x : Str) (u : Value) : Prop :=
  (env.kindOf x = some .local ∧ m x = some u) ∨ ((env.kindOf x = some .cell ∨ env.kindOf x = some .free) ∧ ∃ c, env.cells.lookup x = some c ∧ h.IsCell c (some u))

structure Cx.Ok (X : Cx) : Prop where
  mod : Mod X.K X.mg X.base
  kind : X.env.scope.kind = .function
  glob : X.env.globals = mainGlobals
  blt : X.env.builtins = builtinsNs
  above : X.s₀.heap.objs.size ≤ X.env.locals
  inj : ∀ x y c, X.env.cells.lookup x = some c → X.env.cells.lookup y = some c → x = y
  has : ∀ x, (X.env.kindOf x = some .cell ∨ X.env.kindOf x = some .free) → ∃ c, X.env.cells.lookup x = some c
  cab : ∀ x c, X.fn x = true → X.env.cells.lookup x = some c → X.s₀.heap.objs.size ≤ c
  hd : X.calm = true → X.A.handled = none
  frames : X.A.frames = some X.stack
  stk : X.stack = X.outer ∨ (X.stack = X.env :: X.outer ∧ X.env.frame = some X.env.locals)
  exf : ∀ b ∈ X.ex, b ≠ X.env.locals ∧ ∀ x c, X.env.cells.lookup x = some c → c ≠ b
  bs : ∀ b o, X.base.get? b = some o → X.s₀.heap.get? b = some o ∧ X.H₀ b = none
  bsz : X.base.objs.size ≤ X.s₀.heap.objs.size
  noex : ∀ b o, X.base.get? b = some o → b ∉ X.ex
  exfs : ∀ b ∈ X.ex, b ∉ X.fs
  funs : X.s₀.heap.FunFrames X.base X.outer
  frf : ∀ b ∈ X.fs, X.H₀ b = none

structure Inv (X : Cx) (pins : List (Addr × Obj)) (σ : List (Option V)) (H : Hp) (s : Shared) : Prop where
  ok : X.Ok
  os : s.os = X.s₀.os
  bare : AllBare s.gens
  base : Un X.fs X.ex X.H₀ H X.s₀.heap s.heap
  loc : ∃ m, s.heap.Ns X.env.locals m ∧ ∀ (i : Nat) (x : Str) (v : V), X.N[i]? = some x → σ[i]? = some (some v) → Vis X.env.scope x → ∃ u, RelV v u ∧ Look X.env s.heap m x u
  cell : ∀ x c, X.env.cells.lookup x = some c → ∃ v, s.heap.IsCell c v
  free : H X.env.locals = none
  freeC : ∀ x c, X.env.cells.lookup x = some c → H c = none
  pin : ∀ p ∈ X.pn ++ pins, s.heap.get? p.1 = some p.2 ∧ H p.1 = none ∧ p.1 ≠ X.env.locals ∧ p.1 ∉ X.fs ∧ ∀ v, p.2.data ≠ .cell v
  hok : HOk X.prog X.w H s.heap
  len : σ.length = X.N.length

section
variable {X : Cx} {pins : List (Addr × Obj)} {σ : List (Option V)} {H H' : Hp} {s : Shared} {h' : Heap}

theorem Cx.Ok.nofr (ok : X.Ok) {b : Addr} {o : Obj} (e : X.base.get? b = some o) : b ∉ X.fs := fun hb => by
  have := (ok.funs.mem hb).1
  rw [e] at this; cases this
theorem Inv.bs (I : Inv X pins σ H s) : ∀ b o, X.base.get? b = some o → s.heap.get? b = some o ∧ H b = none := fun b o e =>
  ⟨I.base.keep b o (I.ok.bs b o e).1 (I.ok.bs b o e).2 (I.ok.nofr e) (I.ok.noex b o e), I.base.free b o (I.ok.bs b o e).1 (I.ok.bs b o e).2 (I.ok.noex b o e)⟩
theorem Inv.bk (I : Inv X pins σ H s) : ∀ b o, X.base.get? b = some o → s.heap.get? b = some o := fun b o e => (I.bs b o e).1
theorem Inv.mod (I : Inv X pins σ H s) : Mod X.K X.mg X.base := I.ok.mod
theorem Inv.kIn (I : Inv X pins σ H s) : X.K.In s.heap := I.ok.mod.kin.keeps I.bk
theorem Inv.nolimit (I : Inv X pins σ H s) : s.heap.NoLimit := I.ok.mod.nolimit.keeps I.bk
/-- the frame over the base: for OpenK's rules (K.In X.base is I.mod.kin) -/
theorem Inv.fr (I : Inv X pins σ H s) : ∃ m, Fr X.base X.env.locals s.heap m :=
  let ⟨m, hn, _⟩ := I.loc
  ⟨m, hn, I.bk, Nat.le_trans I.ok.bsz I.ok.above⟩
theorem Inv.lt (I : Inv X pins σ H s) : X.env.locals < s.heap.objs.size := let ⟨_, hn, _⟩ := I.loc; hn.lt
theorem Inv.sz (I : Inv X pins σ H s) : X.s₀.heap.objs.size ≤ s.heap.objs.size := Nat.le_trans I.ok.above (Nat.le_of_lt I.lt)
theorem Inv.nofs (I : Inv X pins σ H s) {a : Addr} (h : s.heap.objs.size ≤ a) : a ∉ X.fs := fun hb => by
  obtain ⟨_, o, ho, _⟩ := I.ok.funs.mem hb
  exact absurd (Nat.lt_of_lt_of_le (Heap.lt_size ho) (Nat.le_trans I.sz h)) (Nat.lt_irrefl _)
theorem Inv.cne (I : Inv X pins σ H s) : ∀ x c, X.env.cells.lookup x = some c → c ≠ X.env.locals := fun x c e z => by
  obtain ⟨v, o, ho, hd⟩ := I.cell x c e
  obtain ⟨m, ⟨o', es, ep, ho', hd', _⟩, _⟩ := I.loc
  rw [z, ho'] at ho; cases ho; rw [hd'] at hd; cases hd
theorem Inv.funs (I : Inv X pins σ H s) : s.heap.FunFrames X.base X.outer := by
  have all : ∀ (l : List Env), (∀ b ∈ frs l, b ∈ X.fs) → X.s₀.heap.FunFrames X.base l → s.heap.FunFrames X.base l := by
    intro l
    induction l with
    | nil => intro _ _; trivial
    | cons env r ih =>
      intro hs hl
      obtain ⟨hk, ⟨L, o, hf, hn, ho, hd⟩, hr⟩ := hl
      have hL : L ∈ X.fs := hs L (by unfold frs; rw [List.filterMap_cons, hf]; exact List.mem_cons_self)
      obtain ⟨sl, e⟩ := I.base.slot L o ho (I.ok.frf L hL) hL fun z => I.ok.exfs L z hL
      exact ⟨hk, ⟨L, _, hf, hn, e, hd⟩, ih (fun b hb => hs b (by unfold frs; rw [List.filterMap_cons, hf]; exact List.mem_cons_of_mem _ hb)) hr⟩
  exact all X.outer (fun _ hb => hb) I.ok.funs

/-- the frames that run, for a call -/
theorem Inv.stack (I : Inv X pins σ H s) : s.heap.FunFrames X.base X.stack := by
  rcases I.ok.stk with e | ⟨e, hf⟩
  · rw [e]; exact I.funs
  · rw [e]
    obtain ⟨m, hn, _⟩ := I.loc
    refine .cons (by rw [I.ok.kind]; decide) hf hn ?_ I.funs
    exact Heap.get?_none_of_le (Nat.le_trans I.ok.bsz I.ok.above)
theorem Inv.stkSub (I : Inv X pins σ H s) : ∀ b ∈ frs X.stack, b ∈ X.env.locals :: X.fs := fun b hb => by
  rcases I.ok.stk with e | ⟨e, hf⟩
  · rw [e] at hb; exact List.mem_cons_of_mem _ hb
  · rw [e] at hb
    unfold frs at hb
    rw [List.filterMap_cons, hf] at hb
    exact hb
theorem Inv.stkFree (I : Inv X pins σ H s) : ∀ b ∈ frs X.stack, H b = none := fun b hb => by
  rcases List.mem_cons.mp (I.stkSub b hb) with e | hb
  · rw [e]; exact I.free
  · obtain ⟨_, o, ho, _⟩ := I.ok.funs.mem hb
    exact I.base.free b o ho (I.ok.frf b hb) fun z => I.ok.exfs b z hb

/-- THE STEP: the untracked objects but the frame and the records at ch are kept (the callers' frames up to slots), the frame's map is kept, the new abstract heap is held -/
theorem Inv.step {g' : Array GenState} {t' : Nat} {d' : Drawn} {ch : List Addr} (I : Inv X pins σ H s)
    (hch : ∀ b ∈ ch, (b ∈ X.ex ∨ X.s₀.heap.objs.size ≤ b) ∧ b ≠ X.env.locals ∧ (∀ x c, X.env.cells.lookup x = some c → c ≠ b) ∧ ∀ p ∈ X.pn ++ pins, p.1 ≠ b)
    (keep : ∀ b o, b ≠ X.env.locals → b ∉ X.fs → b ∉ ch → s.heap.get? b = some o → H b = none → h'.get? b = some o)
    (slot : ∀ b o, b ≠ X.env.locals → b ∈ X.fs → b ∉ ch → s.heap.get? b = some o → H b = none → ∃ sl, h'.get? b = some { o with slots := sl }) (free : ∀ b o, b ∉ ch → s.heap.get? b = some o → H b = none → H' b = none)
    (there : ∀ b o, b ∉ ch → s.heap.get? b = some o → ∃ o', h'.get? b = some o')
    (tups : ∀ b xs, H b = some (.tup xs) → H' b = some (.tup xs)) (frzs : ∀ b o u, H b = some (.frz o u) → H' b = some (.frz o u)) (tbls : ∀ b ps, H b = some (.tbl ps) → ∃ more, H' b = some (.tbl (ps ++ more)))
    (ns : ∀ m, s.heap.Ns X.env.locals m → h'.Ns X.env.locals m) (hok : HOk X.prog X.w H' h') (hg : AllBare g') :
    Inv X pins σ H' { s with heap := h', gens := g', drawn := d', toks := t' } := by
  have neL : ∀ b o, X.s₀.heap.get? b = some o → b ≠ X.env.locals := fun b o e => Nat.ne_of_lt (Nat.lt_of_lt_of_le (Heap.lt_size e) I.ok.above)
  have neC : ∀ b o, X.s₀.heap.get? b = some o → b ∉ X.ex → b ∉ ch := fun b o e hx hb => by
    rcases (hch b hb).1 with z | z
    · exact hx z
    · exact absurd (Nat.lt_of_lt_of_le (Heap.lt_size e) z) (Nat.lt_irrefl _)
  have cellK : ∀ x c, X.env.cells.lookup x = some c → ∀ v, s.heap.IsCell c v → h'.IsCell c v := fun x c e v ⟨o, ho, hd⟩ => by
    have nch : c ∉ ch := fun z => (hch c z).2.2.1 x c e rfl
    by_cases hc : c ∈ X.fs
    · obtain ⟨sl, q⟩ := slot c o (I.cne x c e) hc nch ho (I.freeC x c e)
      exact ⟨_, q, hd⟩
    · exact ⟨o, keep c o (I.cne x c e) hc nch ho (I.freeC x c e), hd⟩
  refine ⟨I.ok, I.os, hg, ⟨fun b o e n hb hx => ?_, fun b o e n hb hx => ?_, fun b o e n hx => ?_, fun b o e hx => ?_, fun b xs e => tups b xs (I.base.tups b xs e), fun b o xs e => frzs b o xs (I.base.frzs b o xs e), fun b ps e => ?_⟩, ?_, fun x c e => ?_, ?_, fun x c e => ?_, fun p hp => ?_, hok, I.len⟩
  · exact keep b o (neL b o e) hb (neC b o e hx) (I.base.keep b o e n hb hx) (I.base.free b o e n hx)
  · obtain ⟨sl, e1⟩ := I.base.slot b o e n hb hx
    obtain ⟨sl', e2⟩ := slot b _ (neL b o e) hb (neC b o e hx) e1 (I.base.free b o e n hx)
    exact ⟨sl', e2⟩
  · obtain ⟨o', e1⟩ := I.base.there b o e hx
    exact free b o' (neC b o e hx) e1 (I.base.free b o e n hx)
  · obtain ⟨o', e1⟩ := I.base.there b o e hx
    exact there b o' (neC b o e hx) e1
  · obtain ⟨m1, e1⟩ := I.base.tbls b ps e
    obtain ⟨m2, e2⟩ := tbls b _ e1
    exact ⟨m1 ++ m2, by rw [e2, Array.append_assoc]⟩
  · obtain ⟨m, hn, hl⟩ := I.loc
    refine ⟨m, ns m hn, fun i x v e1 e2 e3 => ?_⟩
    obtain ⟨u, r, l⟩ := hl i x v e1 e2 e3
    refine ⟨u, r, ?_⟩
    rcases l with l | ⟨k, c, e, z⟩
    · exact .inl l
    · exact .inr ⟨k, c, e, cellK x c e _ z⟩
  · obtain ⟨v, z⟩ := I.cell x c e
    exact ⟨v, cellK x c e v z⟩
  · obtain ⟨m, ⟨o, _, _, ho, _⟩, _⟩ := I.loc
    exact free _ o (fun z => (hch _ z).2.1 rfl) ho I.free
  · obtain ⟨v, o, ho, hd⟩ := I.cell x c e
    exact free c o (fun z => (hch c z).2.2.1 x c e rfl) ho (I.freeC x c e)
  · obtain ⟨e, n, ne, nf, d⟩ := I.pin p hp
    have nch : p.1 ∉ ch := fun z => (hch p.1 z).2.2.2 p hp rfl
    exact ⟨keep p.1 p.2 ne nf nch e n, free p.1 p.2 nch e n, ne, nf, d⟩
/-- .. where the frame's own object is kept too -/
theorem Inv.un {t' : Nat} (I : Inv X pins σ H s) (u : Un X.fs [] H H' s.heap h') (hok : HOk X.prog X.w H' h') : Inv X pins σ H' { s with heap := h', toks := t' } := by
  obtain ⟨m, ⟨o, es, ep, ho, r⟩, _⟩ := id I.loc
  obtain ⟨sl, hL⟩ := u.any ho I.free (by simp)
  exact I.step (g' := s.gens) (d' := s.drawn) (ch := []) (fun _ z => nomatch z) (fun b o _ hb _ e n => u.keep b o e n hb (by simp)) (fun b o _ hb _ e n => u.slot b o e n hb (by simp)) (fun b o _ e n => u.free b o e n (by simp)) (fun b o _ e => u.there b o e (by simp)) u.tups u.frzs u.tbls (fun m' hm => by
    obtain ⟨o', es', ep', ho', r'⟩ := hm
    rw [ho] at ho'; cases ho'
    exact ⟨_, es', ep', hL, r'⟩) hok I.bare
/-- behind a call (or a comprehension's block): the slots of this frame may have changed too, the records at ch may have turned -/
theorem Inv.call {g' : Array GenState} {t' : Nat} {d' : Drawn} {ch : List Addr} (I : Inv X pins σ H s) (u : Un (frs X.stack) ch H H' s.heap h') (hok : HOk X.prog X.w H' h') (hg : AllBare g')
    (hch : ∀ b ∈ ch, (b ∈ X.ex ∨ X.s₀.heap.objs.size ≤ b) ∧ b ≠ X.env.locals ∧ (∀ x c, X.env.cells.lookup x = some c → c ≠ b) ∧ ∀ p ∈ X.pn ++ pins, p.1 ≠ b) :
    Inv X pins σ H' { s with heap := h', gens := g', drawn := d', toks := t' } := by
  obtain ⟨m, ⟨o, es, ep, ho, r⟩, _⟩ := id I.loc
  obtain ⟨sl, hL⟩ := u.any ho I.free fun z => (hch _ z).2.1 rfl
  exact I.step (ch := ch) hch (fun b o hL hb hc e n => u.keep b o e n (fun z => (List.mem_cons.mp (I.stkSub b z)).elim hL hb) hc) (fun b o _ _ hc e n => u.any e n hc) (fun b o hc e n => u.free b o e n hc) (fun b o hc e => u.there b o e hc) u.tups u.frzs u.tbls (fun m' hm => by
    obtain ⟨o', es', ep', ho', r'⟩ := hm
    rw [ho] at ho'; cases ho'
    exact ⟨_, es', ep', hL, r'⟩) hok hg
/-- an untracked record of ours (an iterator) has turned -/
theorem Inv.turned {t' : Nat} {it : Addr} (I : Inv X pins σ H s) (k : ∀ b o, b ≠ it → s.heap.get? b = some o → h'.get? b = some o) (hn : H it = none) (hL : it ≠ X.env.locals)
    (h1 : it ∈ X.ex ∨ X.s₀.heap.objs.size ≤ it) (h2 : ∀ x c, X.env.cells.lookup x = some c → c ≠ it) (h3 : ∀ p ∈ X.pn ++ pins, p.1 ≠ it) : Inv X pins σ H { s with heap := h', toks := t' } := by
  have nit : ∀ b u, H b = some u → b ≠ it := fun b u e z => by rw [z, hn] at e; cases e
  refine I.step (g' := s.gens) (d' := s.drawn) (ch := [it]) (fun b hb => ?_) (fun b o _ _ hc e _ => k b o (fun z => hc (by simp [z])) e) (fun b o _ _ hc e _ => ⟨o.slots, k b o (fun z => hc (by simp [z])) e⟩) (fun _ _ _ _ n => n)
    (fun b o hc e => ⟨o, k b o (fun z => hc (by simp [z])) e⟩) (fun _ _ e => e) (fun _ _ _ e => e) (fun b ps e => ⟨#[], by rw [e]; simp⟩) (fun m hm => ?_) (fun b u e => ?_) I.bare
  · have e : b = it := by simpa using hb
    subst e
    exact ⟨h1, hL, h2, h3⟩
  · obtain ⟨o, es, ep, ho, r⟩ := hm
    exact ⟨o, es, ep, k _ o (Ne.symm hL) ho, r⟩
  · refine (I.hok b u e).stay (fun c v hc q => k c v ?_ q) (fun _ q => q) fun _ _ q => q
    rcases hc with z | z
    · rw [z]; exact nit b u e
    · exact nit c _ z
theorem Inv.tok (I : Inv X pins σ H s) (t : Nat) : Inv X pins σ H { s with toks := t } := I.un (h' := s.heap) (t' := t) Un.refl I.hok
/-- all objects kept -/
theorem Inv.kept {t' : Nat} (I : Inv X pins σ H s) (k : ∀ b u, s.heap.get? b = some u → h'.get? b = some u) : Inv X pins σ H { s with heap := h', toks := t' } := I.un (Un.kept k) (I.hok.kept k)
/-- a new object laid and tracked -/
theorem Inv.laid {a : Addr} {o : HO} {t' : Nat} (I : Inv X pins σ H s) (k : ∀ b u, s.heap.get? b = some u → h'.get? b = some u) (hp : s.heap.objs.size ≤ a) (new : ObjOk X.prog X.w (upd H a o) h' a o) :
    Inv X pins σ (upd H a o) { s with heap := h', toks := t' } := I.un (Un.laid k hp (I.hok.fresh hp)) (I.hok.laid k hp new)
/-- an object written -/
theorem Inv.write {x e : Addr} {o : HO} {t' : Nat} (I : Inv X pins σ H s) (mu : Mut (H x)) (he : e = x ∨ H e = some (.own x)) (k : ∀ b u, b ≠ e → s.heap.get? b = some u → h'.get? b = some u) (heo : ∃ u, h'.get? e = some u)
    (new : ObjOk X.prog X.w (upd H x o) h' x o) : Inv X pins σ (upd H x o) { s with heap := h', toks := t' } := I.un (Un.write mu he k heo) (I.hok.write mu he k heo new)
theorem Inv.pins_of {pins' : List (Addr × Obj)} (I : Inv X pins σ H s) (h : ∀ p ∈ pins', s.heap.get? p.1 = some p.2 ∧ H p.1 = none ∧ p.1 ≠ X.env.locals ∧ p.1 ∉ X.fs ∧ ∀ v, p.2.data ≠ .cell v) : Inv X pins' σ H s :=
  ⟨I.ok, I.os, I.bare, I.base, I.loc, I.cell, I.free, I.freeC, fun p hp => (List.mem_append.mp hp).elim (fun z => I.pin p (List.mem_append_left _ z)) (h p), I.hok, I.len⟩

theorem nodup_ix {N : List Str} (hN : N.Nodup) {i j : Nat} {x : Str} (a : N[i]? = some x) (b : N[j]? = some x) : i = j := by
  obtain ⟨h1, e1⟩ := List.getElem?_eq_some_iff.mp a
  obtain ⟨h2, e2⟩ := List.getElem?_eq_some_iff.mp b
  exact (List.getElem_inj hN).mp (e1.trans e2.symm)

/-- a name is stored; what changed -/
theorem store_ok2 {M : Model} {A : Around} {E : Value → Shared → Prop} {i : Nat} {x : Str} {v : V} {u : Value} {Q : Unit → Shared → Prop} (I : Inv X pins σ H s) (hN : X.N.Nodup) (hi : X.N[i]? = some x) (hx : Loc X.env.scope x) (r : RelV v u)
    (h : ∀ s', Inv X pins (σ.set i (some v)) H s' → (∃ a, Heap.SameBut a s.heap s'.heap ∧ (a = X.env.locals ∨ X.env.cells.lookup x = some a)) → Q () s') (hf : X.fn x = true ∨ X.env.scope.names.lookup x = some .local := by first | exact .inl rfl | exact .inr rfl | assumption) : wpAny M A (storeName X.env x u) Q E s := by
  obtain ⟨m, hn, hl⟩ := id I.loc
  have hcls : (X.env.scope.kind == .class || (X.env.scope.kind == .module && X.env.locals != X.env.globals)) = false := by rw [I.ok.kind]; rfl
  have hiσ : i < σ.length := by rw [I.len]; exact (List.getElem?_eq_some_iff.mp hi).1
  have cne := I.cne
  have tracked : ∀ {a : Addr} {h' : Heap}, (∃ o, s.heap.get? a = some o ∧ H a = none) → Heap.SameBut a s.heap h' → HOk X.prog X.w H h' := fun {a h'} ha hs b ob e => by
    obtain ⟨_, _, hfree⟩ := ha
    refine (I.hok b ob e).stay (fun c w' hc q => (hs.2 c ?_).trans q) (fun _ q => q) fun _ _ q => q
    rintro rfl
    rcases hc with rfl | hc
    · rw [hfree] at e; cases e
    · rw [hfree] at hc; cases hc
  rcases hx with hk | hk
  · refine wpAny_storeName_local hk hn (fun h' hn' hs => ?_) hcls
    obtain ⟨oL, _, _, hoL, _⟩ := id hn
    refine h _ ⟨I.ok, I.os, I.bare, ⟨fun b o e n hb hx => ?_, fun b o e n hb hx => ?_, I.base.free, fun b o e hx => ?_, I.base.tups, I.base.frzs, I.base.tbls⟩, ⟨_, hn', fun j y v' e1 e2 e3 => ?_⟩, fun y c e => ?_, I.free, I.freeC, fun p hp => ?_, tracked ⟨oL, hoL, I.free⟩ hs, by simpa using I.len⟩ ⟨_, hs, .inl rfl⟩
    · exact (hs.2 b (Nat.ne_of_lt (Nat.lt_of_lt_of_le (Heap.lt_size e) I.ok.above))).trans (I.base.keep b o e n hb hx)
    · obtain ⟨sl, e1⟩ := I.base.slot b o e n hb hx
      exact ⟨sl, (hs.2 b (Nat.ne_of_lt (Nat.lt_of_lt_of_le (Heap.lt_size e) I.ok.above))).trans e1⟩
    · obtain ⟨o', e1⟩ := I.base.there b o e hx
      exact ⟨o', (hs.2 b (Nat.ne_of_lt (Nat.lt_of_lt_of_le (Heap.lt_size e) I.ok.above))).trans e1⟩
    · by_cases hj : j = i
      · subst hj
        rw [hi] at e1; cases e1
        rw [List.getElem?_set_self hiσ] at e2
        cases e2
        exact ⟨u, r, .inl ⟨hk, by simp⟩⟩
      · rw [List.getElem?_set_ne (Ne.symm hj)] at e2
        obtain ⟨u', r', q⟩ := hl j y v' e1 e2 e3
        refine ⟨u', r', ?_⟩
        rcases q with ⟨k, e⟩ | ⟨k, c, e, z⟩
        · refine .inl ⟨k, ?_⟩
          have : y ≠ x := fun e => hj (nodup_ix hN e1 (e ▸ hi))
          simp [this, e]
        · exact .inr ⟨k, c, e, z.sameBut hs (cne y c e)⟩
    · obtain ⟨w', z⟩ := I.cell y c e
      exact ⟨w', z.sameBut hs (cne y c e)⟩
    · obtain ⟨e, n, ne, nf, d⟩ := I.pin p hp
      exact ⟨(hs.2 p.1 ne).trans e, n, ne, nf, d⟩
  · have hfn : X.fn x = true := by
      rcases hf with z | z
      · exact z
      · rw [z] at hk; cases hk
    obtain ⟨c, hc⟩ := I.ok.has x (.inl hk)
    obtain ⟨w', z⟩ := I.cell x c hc
    refine wpAny_storeName_cell I.ok.kind hk hc z (fun h' hc' hs => ?_)
    obtain ⟨oc, hoc, hocd⟩ := id z
    refine h { s with heap := h' } ⟨I.ok, I.os, I.bare, ⟨fun b o e n hb hx => ?_, fun b o e n hb hx => ?_, I.base.free, fun b o e hx => ?_, I.base.tups, I.base.frzs, I.base.tbls⟩, ⟨m, hn.sameBut hs (Ne.symm (cne x c hc)), fun j y v' e1 e2 e3 => ?_⟩, fun y c' e => ?_, I.free, I.freeC, fun p hp => ?_, tracked ⟨oc, hoc, I.freeC x c hc⟩ hs, by simpa using I.len⟩ ⟨c, hs, .inr hc⟩
    · exact (hs.2 b (Nat.ne_of_lt (Nat.lt_of_lt_of_le (Heap.lt_size e) (I.ok.cab x c hfn hc)))).trans (I.base.keep b o e n hb hx)
    · obtain ⟨sl, e1⟩ := I.base.slot b o e n hb hx
      exact ⟨sl, (hs.2 b (Nat.ne_of_lt (Nat.lt_of_lt_of_le (Heap.lt_size e) (I.ok.cab x c hfn hc)))).trans e1⟩
    · obtain ⟨o', e1⟩ := I.base.there b o e hx
      exact ⟨o', (hs.2 b (Nat.ne_of_lt (Nat.lt_of_lt_of_le (Heap.lt_size e) (I.ok.cab x c hfn hc)))).trans e1⟩
    · by_cases hj : j = i
      · subst hj
        rw [hi] at e1; cases e1
        rw [List.getElem?_set_self hiσ] at e2
        cases e2
        exact ⟨u, r, .inr ⟨.inl hk, c, hc, hc'⟩⟩
      · rw [List.getElem?_set_ne (Ne.symm hj)] at e2
        obtain ⟨u', r', q⟩ := hl j y v' e1 e2 e3
        refine ⟨u', r', ?_⟩
        rcases q with q | ⟨k, c', e, z'⟩
        · exact .inl q
        · refine .inr ⟨k, c', e, z'.sameBut hs ?_⟩
          rintro rfl
          exact hj (nodup_ix hN e1 (I.ok.inj _ _ _ e hc ▸ hi))
    · by_cases hcc : c' = c
      · subst hcc; exact ⟨_, hc'⟩
      · obtain ⟨w2, z2⟩ := I.cell y c' e
        exact ⟨w2, z2.sameBut hs hcc⟩
    · obtain ⟨e, n, ne, nf, d⟩ := I.pin p hp
      refine ⟨(hs.2 p.1 ?_).trans e, n, ne, nf, d⟩
      intro q
      rw [q, hoc] at e
      have q' : oc = p.2 := Option.some.inj e
      exact d w' (by rw [← q']; exact hocd)
theorem store_ok {M : Model} {A : Around} {E : Value → Shared → Prop} {i : Nat} {x : Str} {v : V} {u : Value} {Q : Unit → Shared → Prop} (I : Inv X pins σ H s) (hN : X.N.Nodup) (hi : X.N[i]? = some x) (hx : Loc X.env.scope x) (r : RelV v u)
    (h : ∀ s', Inv X pins (σ.set i (some v)) H s' → Q () s') (hf : X.fn x = true ∨ X.env.scope.names.lookup x = some .local := by first | exact .inl rfl | exact .inr rfl | assumption) : wpAny M A (storeName X.env x u) Q E s :=
  store_ok2 I hN hi hx r (fun s' I' _ => h s' I') hf
/-- behind a call or a block, the state as it is -/
theorem Inv.call' {s' : Shared} {ch : List Addr} (I : Inv X pins σ H s) (ho : s'.os = s.os) (u : Un (frs X.stack) ch H H' s.heap s'.heap) (hok : HOk X.prog X.w H' s'.heap) (hg : AllBare s'.gens)
    (hch : ∀ b ∈ ch, (b ∈ X.ex ∨ X.s₀.heap.objs.size ≤ b) ∧ b ≠ X.env.locals ∧ (∀ x c, X.env.cells.lookup x = some c → c ≠ b) ∧ ∀ p ∈ X.pn ++ pins, p.1 ≠ b) : Inv X pins σ H' s' := by
  obtain ⟨h', g', d', t', o'⟩ := s'
  have e : o' = s.os := ho
  subst e
  exact I.call (g' := g') (t' := t') (d' := d') u hok hg hch
end

/-! ### the judgements -/
/-- an exception: its class, its own dict's address (where it has one), the abstract heap behind it -/
abbrev XK := Value → Option Addr → Hp → Prop
abbrev St := List (Option V)
abbrev VK := V → Hp → Prop
/-- an expression's reading; a test's; an argument list's -/
abbrev TE := St → Hp → VK → Prop
abbrev TT := St → Hp → (Bool → Hp → Prop) → Prop
abbrev TA := St → Hp → (List V → Hp → Prop) → Prop
/-- what is wanted behind a statement -/
structure Ends where
  nx : St → Hp → Prop
  rt : VK
  bk : St → Hp → Prop := fun _ _ => False
  ct : St → Hp → Prop := fun _ _ => False
abbrev TS := Ends → St → Hp → Prop

def EP (X : Cx) (pins : List (Addr × Obj)) (σ : St) (Q : VK) (u : Value) (s' : Shared) : Prop := ∃ v H', Inv X pins σ H' s' ∧ RelV v u ∧ Q v H'
def TP (X : Cx) (pins : List (Addr × Obj)) (σ : St) (Q : Bool → Hp → Prop) (b : Bool) (s' : Shared) : Prop := ∃ H', Inv X pins σ H' s' ∧ Q b H'
def AP (X : Cx) (pins : List (Addr × Obj)) (σ : St) (Q : List V → Hp → Prop) (us : List Value) (s' : Shared) : Prop := ∃ vs H', Inv X pins σ H' s' ∧ Vals vs us ∧ Q vs H'
def SP (X : Cx) (pins : List (Addr × Obj)) (D : Ends) (f : Flow) (s' : Shared) : Prop :=
  match f with
  | .next => ∃ σ' H', Inv X pins σ' H' s' ∧ D.nx σ' H'
  | .brk => ∃ σ' H', Inv X pins σ' H' s' ∧ D.bk σ' H'
  | .cont => ∃ σ' H', Inv X pins σ' H' s' ∧ D.ct σ' H'
  | .ret u => ∃ v σ' H', Inv X pins σ' H' s' ∧ RelV v u ∧ D.rt v H'

def PE (X : Cx) (e : Expr) (t : TE) : Prop :=
  ∀ (pins : List (Addr × Obj)) (s : Shared) (σ : St) (H : Hp) (Q : VK), Inv X pins σ H s → t σ H Q → wpAny (model X.prog X.w) X.A (eval e X.env) (EP X pins σ Q) X.xe s
def PT (X : Cx) (e : Expr) (t : TT) : Prop :=
  ∀ (pins : List (Addr × Obj)) (s : Shared) (σ : St) (H : Hp) (Q : Bool → Hp → Prop), Inv X pins σ H s → t σ H Q → wpAny (model X.prog X.w) X.A (isTrue e X.env (eval e X.env)) (TP X pins σ Q) X.xe s
/-- a test whatever its 'whole' is (and, or) -/
def PW (X : Cx) (e : Expr) (t : TT) : Prop :=
  ∀ (whole : Sem Value) (pins : List (Addr × Obj)) (s : Shared) (σ : St) (H : Hp) (Q : Bool → Hp → Prop), Inv X pins σ H s → t σ H Q → wpAny (model X.prog X.w) X.A (isTrue e X.env whole) (TP X pins σ Q) X.xe s
theorem PW.pt {X : Cx} {e : Expr} {t : TT} (h : PW X e t) : PT X e t := h _
/-- an argument list (no star), from the left -/
def PA (X : Cx) (es : List Expr) (t : TA) : Prop :=
  ∀ (pos : Pos) (pins : List (Addr × Obj)) (s : Shared) (σ : St) (H : Hp) (Q : List V → Hp → Prop), Inv X pins σ H s → t σ H Q → wpAny (model X.prog X.w) X.A (spliced (backTo pos (starEach es X.env))) (AP X pins σ Q) X.xe s
def PS (X : Cx) (st : Stmt) (t : TS) : Prop :=
  ∀ (pins : List (Addr × Obj)) (s : Shared) (σ : St) (H : Hp) (D : Ends), Inv X pins σ H s → t D σ H → wpAny (model X.prog X.w) X.A (exec st X.env) (SP X pins D) X.xe s
def PSs (X : Cx) (st : List Stmt) (t : TS) : Prop :=
  ∀ (pins : List (Addr × Obj)) (s : Shared) (σ : St) (H : Hp) (D : Ends), Inv X pins σ H s → t D σ H → wpAny (model X.prog X.w) X.A (execs st X.env) (SP X pins D) X.xe s
/-- weaken the end -/
theorem thn {α : Type} {t : Sem α} {Q Q' : α → Shared → Prop} {M : Model} {A : Around} {E : Value → Shared → Prop} {s : Shared} (h : wpAny M A t Q E s) (hQ : ∀ a s, Q a s → Q' a s) : wpAny M A t Q' E s := wpAny_mono h hQ fun _ _ x => x
end L2

namespace L2
open PySem PySem.Spec PyProof.Rows
section
variable {X : Cx}

/-! ### names and constants -/
def tVar (i : Nat) : TE := fun σ H Q => ∃ v, σ[i]? = some (some v) ∧ Q v H
def tC (v : V) : TE := fun _ H Q => Q v H
theorem pe_var {i : Nat} {x : Str} {pos : Pos} (hN : X.N[i]? = some x) (hv : Vis X.env.scope x) (hd : (x == ("__debug__" : Str)) = false := by decide) (hcd : (x == ("__classdict__" : Str)) = false := by decide) : PE X (.Name x pos) (tVar i) := by
  intro pins s σ H Q I h
  obtain ⟨v, e, h⟩ := h
  obtain ⟨m, hn, hl⟩ := I.loc
  obtain ⟨u, r, l⟩ := hl i x v hN e hv
  have fin : EP X pins σ Q u s := ⟨v, H, I, r, h⟩
  rcases l with ⟨hk, hm⟩ | ⟨hk, c, hc, hcell⟩
  · exact wpAny_Name (wpAny_loadName_local I.ok.kind hk hn hm fin) hd
  · rcases hk with hk | hk
    · exact wpAny_Name (wpAny_loadName_cell I.ok.kind hk hc hcell fin) hd
    · exact wpAny_Name (wpAny_loadName_free I.ok.kind hk hc hcell fin hcd) hd
theorem pe_int {i j pos} : PE X (.Constant (.int i) j pos) (tC (.int i)) := fun _ _ _ H _ I h => wpAny_Constant_int ⟨.int i, H, I.tok _, ⟨_, rfl⟩, h⟩
theorem pe_bl {b j pos} : PE X (.Constant (.bool b) j pos) (tC (.bl b)) := fun _ _ _ H _ I h => Constant_bool ⟨.bl b, H, I, rfl, h⟩
theorem pe_str {x j pos} : PE X (.Constant (.str x) j pos) (tC (.str x)) := fun _ _ _ H _ I h => Calls.Constant_str ⟨.str x, H, I.tok _, ⟨_, rfl⟩, h⟩

/-- a global name of the def -/
def Gl (X : Cx) (x : Str) : Prop := X.env.kindOf x = some .globalImplicit
theorem ld_glob {E : Value → Shared → Prop} {pins : List (Addr × Obj)} {s : Shared} {σ : St} {H : Hp} {x : Str} {u : Value} {pos : Pos} {Q : Value → Shared → Prop} (I : Inv X pins σ H s) (hg : Gl X x) (hm : X.mg x = some u) (h : Q u s)
    (hd : (x == ("__debug__" : Str)) = false := by decide) : wpAny (model X.prog X.w) X.A (eval (.Name x pos) X.env) Q E s :=
  Calls.Name_function_global I.ok.kind hg (Calls.loadGlobal_global (by rw [I.ok.glob]; exact I.mod.glob.keeps I.bk) hm h) hd
theorem ld_blt {E : Value → Shared → Prop} {pins : List (Addr × Obj)} {s : Shared} {σ : St} {H : Hp} {x : Str} {u : Value} {pos : Pos} {Q : Value → Shared → Prop} (I : Inv X pins σ H s) (hg : Gl X x) (hm : X.mg x = none) (hv : bootBuiltins x = some u) (h : Q u s)
    (hn : x ≠ "__name__" := by decide) (hd : (x == ("__debug__" : Str)) = false := by decide) : wpAny (model X.prog X.w) X.A (eval (.Name x pos) X.env) Q E s := by
  obtain ⟨mb, h1, h2⟩ := I.mod.blt
  exact Calls.Name_function_global I.ok.kind hg (Calls.loadGlobal_builtin (by rw [I.ok.glob]; exact I.mod.glob.keeps I.bk) hm (by rw [I.ok.blt]; exact h1.keeps I.bk) ((h2 x hn).trans hv) h) hd
/-- a module's constant, a class, a function, as a value -/
theorem pe_glob {x : Str} {v : V} {u : Value} {pos : Pos} (hg : Gl X x) (hm : X.mg x = some u) (r : RelV v u) (hd : (x == ("__debug__" : Str)) = false := by decide) : PE X (.Name x pos) (tC v) :=
  fun _ _ _ H _ I h => ld_glob I hg hm ⟨v, H, I, r, h⟩ hd
theorem pe_bltn {x : Str} {v : V} {u : Value} {pos : Pos} (hg : Gl X x) (hm : X.mg x = none) (hv : bootBuiltins x = some u) (r : RelV v u) (hn : x ≠ "__name__" := by decide) (hd : (x == ("__debug__" : Str)) = false := by decide) : PE X (.Name x pos) (tC v) :=
  fun _ _ _ H _ I h => ld_blt I hg hm hv ⟨v, H, I, r, h⟩ hn hd

/-! ### arithmetic -/
variable {a b : Expr} {ta tb : TE} {pos : Pos}
/-! ### comparisons -/
/-- a comparison as a value, as a test -/
def tB (t : TE) : TT := fun σ H Q => t σ H fun x H1 => ∃ c, x = .bl c ∧ Q c H1
/-! ### and, or, not -/
variable {tA tB' : TT} {rest : List Expr}
def tAnd (t u : TT) : TT := fun σ H Q => t σ H fun c H1 => if c = true then u σ H1 Q else Q false H1
def tOr (t u : TT) : TT := fun σ H Q => t σ H fun c H1 => if c = true then Q true H1 else u σ H1 Q
def tNot (t : TT) : TT := fun σ H Q => t σ H fun c H1 => Q (!c) H1
theorem pw_and1 (ha : PT X a tA) : PW X (.BoolOp .And [a] pos) tA := by
  intro wh pins s σ H Q I h
  refine isTrue_and (thn (ha pins s σ H Q I h) fun c s1 e => ?_)
  cases c with
  | true => exact isTrue_and_nil e
  | false => exact e
theorem pw_or1 (ha : PT X a tA) : PW X (.BoolOp .Or [a] pos) tA := by
  intro wh pins s σ H Q I h
  refine isTrue_or (thn (ha pins s σ H Q I h) fun c s1 e => ?_)
  cases c with
  | false => exact isTrue_or_nil e
  | true => exact e
theorem pw_and (ha : PT X a tA) (hb : PW X (.BoolOp .And (b :: rest) pos) tB') : PW X (.BoolOp .And (a :: b :: rest) pos) (tAnd tA tB') := by
  intro wh pins s σ H Q I h
  refine isTrue_and (thn (ha pins s σ H _ I h) fun c s1 ⟨H1, I1, q1⟩ => ?_)
  cases c with
  | true => exact hb wh pins s1 σ H1 Q I1 q1
  | false => exact ⟨H1, I1, q1⟩
theorem pw_or (ha : PT X a tA) (hb : PW X (.BoolOp .Or (b :: rest) pos) tB') : PW X (.BoolOp .Or (a :: b :: rest) pos) (tOr tA tB') := by
  intro wh pins s σ H Q I h
  refine isTrue_or (thn (ha pins s σ H _ I h) fun c s1 ⟨H1, I1, q1⟩ => ?_)
  cases c with
  | true => exact ⟨H1, I1, q1⟩
  | false => exact hb wh pins s1 σ H1 Q I1 q1
theorem pt_not (ha : PT X a tA) : PT X (.UnaryOp .Not a pos) (tNot tA) := by
  intro pins s σ H Q I h
  exact isTrue_not (ha pins s σ H (fun c H1 => Q (!c) H1) I h)
/-- .. as values (bools) -/
def tAndV (ta tb : TE) : TE := fun σ H Q => ta σ H fun x H1 => ∃ c, x = .bl c ∧ if c = true then tb σ H1 Q else Q (.bl false) H1
def tOrV (ta tb : TE) : TE := fun σ H Q => ta σ H fun x H1 => ∃ c, x = .bl c ∧ if c = true then Q (.bl true) H1 else tb σ H1 Q
def tNotV (ta : TE) : TE := fun σ H Q => ta σ H fun x H1 => ∃ c, x = .bl c ∧ Q (.bl (!c)) H1
theorem pe_one {op} {t : TE} (h : PE X a t) : PE X (.BoolOp op [a] pos) t := fun pins s σ H Q I hw => BoolOp_one (h pins s σ H Q I hw)
theorem pe_and (ha : PE X a ta) (hb : PE X (.BoolOp .And (b :: rest) pos) tb) : PE X (.BoolOp .And (a :: b :: rest) pos) (tAndV ta tb) := by
  intro pins s σ H Q I h
  refine BoolOp_and (thn (ha pins s σ H _ I h) fun v s1 ⟨x, H1, I1, r1, q1⟩ => ?_)
  obtain ⟨c, rfl, q1⟩ := q1
  cases r1
  refine wpAny_truthy_bool ?_
  cases c with
  | true => exact hb pins s1 σ H1 Q I1 q1
  | false => exact ⟨.bl false, H1, I1, rfl, q1⟩
theorem pe_or (ha : PE X a ta) (hb : PE X (.BoolOp .Or (b :: rest) pos) tb) : PE X (.BoolOp .Or (a :: b :: rest) pos) (tOrV ta tb) := by
  intro pins s σ H Q I h
  refine BoolOp_or (thn (ha pins s σ H _ I h) fun v s1 ⟨x, H1, I1, r1, q1⟩ => ?_)
  obtain ⟨c, rfl, q1⟩ := q1
  cases r1
  refine wpAny_truthy_bool ?_
  cases c with
  | false => exact hb pins s1 σ H1 Q I1 q1
  | true => exact ⟨.bl true, H1, I1, rfl, q1⟩
theorem pe_not (ha : PE X a ta) : PE X (.UnaryOp .Not a pos) (tNotV ta) := by
  intro pins s σ H Q I h
  refine UnaryOp_ (thn (ha pins s σ H _ I h) fun v s1 ⟨x, H1, I1, r1, q1⟩ => ?_)
  obtain ⟨c, rfl, q1⟩ := q1
  cases r1
  exact not_of (wpAny_truthy_bool ⟨.bl (!c), H1, I1, rfl, q1⟩)
/-- a if t else b -/
def tIf (t : TT) (ta tb : TE) : TE := fun σ H Q => t σ H fun c H1 => if c = true then ta σ H1 Q else tb σ H1 Q
theorem pe_ifExp {c : Expr} (hc : PT X c tA) (ha : PE X a ta) (hb : PE X b tb) : PE X (.IfExp c a b pos) (tIf tA ta tb) := by
  intro pins s σ H Q I h
  refine wpAny_IfExp (thn (hc pins s σ H _ I h) fun d s1 ⟨H1, I1, q1⟩ => ?_)
  cases d with
  | true => exact ha pins s1 σ H1 Q I1 q1
  | false => exact hb pins s1 σ H1 Q I1 q1
end
end L2

namespace L2
open PySem PySem.Spec PyProof.Rows

/-! ### a list, a tuple that is read: tracked, frozen, or an object of the module -/
def SqL (K : PySem.W.Frag) (H : Hp) (a : Addr) (xs : List V) : Prop :=
  Rd H a (.lst xs) ∨
    ∃ (o : Obj) (its : Array Value) (n : Nat), K.lookup a = some o ∧ o.cls = .type "list" ∧ o.dict = none ∧ o.data = .seq its n ∧ its.size ≤ sizeLine ∧ Vals xs its.toList
def SqT (K : PySem.W.Frag) (H : Hp) (a : Addr) (xs : List V) : Prop :=
  Rd H a (.tup xs) ∨
    ∃ (o : Obj) (its : Array Value) (n : Nat), K.lookup a = some o ∧ o.cls = .type "tuple" ∧ o.data = .seq its n ∧ its.size ≤ sizeLine ∧ Vals xs its.toList
def absV : Value → Option V
  | .none => some .non
  | .bool b => some (.bl b)
  | .int i _ => some (.int i)
  | .str x _ => some (.str x)
  | .bytes b _ => some (.byt b)
  | .float b _ => some (.flt b)
  | .ref a => some (.ref a)
  | .type n => some (.ty n)
  | _ => none
theorem RelV.abs {x : V} {u : Value} (r : RelV x u) : absV u = some x := by
  cases x with
  | non => cases r; rfl
  | bl _ => cases r; rfl
  | int _ => obtain ⟨t, rfl⟩ := r; rfl
  | str _ => obtain ⟨t, rfl⟩ := r; rfl
  | byt _ => obtain ⟨t, rfl⟩ := r; rfl
  | flt _ => obtain ⟨t, rfl⟩ := r; rfl
  | ref _ => cases r; rfl
  | ty _ => cases r; rfl
theorem RelV.inj {x y : V} {u : Value} (r : RelV x u) (q : RelV y u) : x = y := Option.some.inj (r.abs.symm.trans q.abs)
theorem Vals.inj {xs ys : List V} {us : List Value} (h : Vals xs us) (h' : Vals ys us) : xs = ys := by
  induction h generalizing ys with
  | nil => cases h'; rfl
  | cons r t ih => cases h' with
    | cons r' t' => rw [r.inj r', ih t']
section
variable {X : Cx} {pins : List (Addr × Obj)} {σ : St} {H : Hp} {s : Shared} {a : Addr} {xs ys : List V}
theorem SqL.of {K : PySem.W.Frag} (h : H a = some (.lst xs)) : SqL K H a xs := .inl (.inl h)
theorem SqT.of {K : PySem.W.Frag} (h : H a = some (.tup xs)) : SqT K H a xs := .inl (.inl h)
theorem Inv.list (I : Inv X pins σ H s) (h : SqL X.K H a xs) : ∃ its : List Value, Vals xs its ∧ PlainL s.heap a its.toArray ∧ xs.length ≤ sizeLine := by
  rcases h with h | ⟨o, its, n, hk, hc, hd, hs, hz, r⟩
  · obtain ⟨z, its, n, r, e⟩ := h.ok I.hok
    exact ⟨its, r, ⟨_, n, e, rfl, rfl, rfl⟩, z⟩
  · refine ⟨its.toList, r, ⟨o, n, I.kIn a o hk, hc, hd, by simpa using hs⟩, ?_⟩
    have e := r.length
    simp only [Array.length_toList] at e
    omega
theorem Inv.tuple (I : Inv X pins σ H s) (h : SqT X.K H a xs) : ∃ its : List Value, Vals xs its ∧ IsTup s.heap a its.toArray ∧ xs.length ≤ sizeLine := by
  rcases h with h | ⟨o, its, n, hk, hc, hs, hz, r⟩
  · obtain ⟨z, its, r, p⟩ := h.ok I.hok
    exact ⟨its, r, p, z⟩
  · refine ⟨its.toList, r, ⟨o, I.kIn a o hk, hc, n, by simpa using hs⟩, ?_⟩
    have e := r.length
    simp only [Array.length_toList] at e
    omega
theorem Inv.list_inj (I : Inv X pins σ H s) (h : SqL X.K H a xs) (h' : SqL X.K H a ys) : xs = ys := by
  obtain ⟨its, r, ⟨o, n, e, _, _, d⟩, _⟩ := I.list h
  obtain ⟨its', r', ⟨o', n', e', _, _, d'⟩, _⟩ := I.list h'
  rw [e] at e'; cases e'
  rw [d] at d'
  injection d' with d1 _
  have : its = its' := by simpa using congrArg Array.toList d1
  subst this
  exact r.inj r'
theorem Inv.tuple_inj (I : Inv X pins σ H s) (h : SqT X.K H a xs) (h' : SqT X.K H a ys) : xs = ys := by
  obtain ⟨its, r, ⟨o, e, _, n, d⟩, _⟩ := I.tuple h
  obtain ⟨its', r', ⟨o', e', _, n', d'⟩, _⟩ := I.tuple h'
  rw [e] at e'; cases e'
  rw [d] at d'
  injection d' with d1 _
  have : its = its' := by simpa using congrArg Array.toList d1
  subst this
  exact r.inj r'
end

/-! ### another wish about exceptions -/
abbrev Cx.wish (X : Cx) (E : Value → Shared → Prop) : Cx := { X with xe := E }
/-- no exception leaves -/
abbrev Cx.nox (X : Cx) : Cx := X.wish fun _ _ => False
theorem Cx.Ok.wish {X : Cx} (ok : X.Ok) (E : Value → Shared → Prop) : (X.wish E).Ok :=
  ⟨ok.mod, ok.kind, ok.glob, ok.blt, ok.above, ok.inj, ok.has, ok.cab, ok.hd, ok.frames, ok.stk, ok.exf, ok.bs, ok.bsz, ok.noex, ok.exfs, ok.funs, ok.frf⟩
theorem Cx.Ok.unwish {X : Cx} {E : Value → Shared → Prop} (ok : (X.wish E).Ok) : X.Ok :=
  ⟨ok.mod, ok.kind, ok.glob, ok.blt, ok.above, ok.inj, ok.has, ok.cab, ok.hd, ok.frames, ok.stk, ok.exf, ok.bs, ok.bsz, ok.noex, ok.exfs, ok.funs, ok.frf⟩
section
variable {X : Cx} {pins : List (Addr × Obj)} {σ : St} {H : Hp} {s : Shared} {E : Value → Shared → Prop}
theorem Inv.wish (I : Inv X pins σ H s) (E : Value → Shared → Prop) : Inv (X.wish E) pins σ H s := ⟨I.ok.wish E, I.os, I.bare, I.base, I.loc, I.cell, I.free, I.freeC, I.pin, I.hok, I.len⟩
theorem Inv.unwish (I : Inv (X.wish E) pins σ H s) : Inv X pins σ H s := ⟨I.ok.unwish, I.os, I.bare, I.base, I.loc, I.cell, I.free, I.freeC, I.pin, I.hok, I.len⟩
theorem SP.unwish {D : Ends} {f : Flow} {s' : Shared} (h : SP (X.wish E) pins D f s') : SP X pins D f s' := by
  cases f with
  | next => obtain ⟨σ', H', I, q⟩ := h; exact ⟨σ', H', I.unwish, q⟩
  | brk => obtain ⟨σ', H', I, q⟩ := h; exact ⟨σ', H', I.unwish, q⟩
  | cont => obtain ⟨σ', H', I, q⟩ := h; exact ⟨σ', H', I.unwish, q⟩
  | ret u => obtain ⟨v, σ', H', I, r, q⟩ := h; exact ⟨v, σ', H', I.unwish, r, q⟩
theorem PE.nox {e : Expr} {t : TE} (h : PE X.nox e t) : PE X e t := fun pins s σ H Q I hw =>
  wpAny_mono (h pins s σ H Q (I.wish _) hw) (fun _ _ ⟨v, H', I', r, q⟩ => ⟨v, H', I'.unwish, r, q⟩) fun _ _ z => False.elim z
theorem PT.nox {e : Expr} {t : TT} (h : PT X.nox e t) : PT X e t := fun pins s σ H Q I hw =>
  wpAny_mono (h pins s σ H Q (I.wish _) hw) (fun _ _ ⟨H', I', q⟩ => ⟨H', I'.unwish, q⟩) fun _ _ z => False.elim z
theorem PSs.nox {st : List Stmt} {t : TS} (h : PSs X.nox st t) : PSs X st t := fun pins s σ H D I hw =>
  wpAny_mono (h pins s σ H D (I.wish _) hw) (fun _ _ q => q.unwish) fun _ _ z => False.elim z
end

/-! ### blocks and small statements -/
section
variable {X : Cx} {st : Stmt} {rest : List Stmt} {t u : TS} {e : Expr} {te : TE} {pos : Pos}
def tNext : TS := fun D σ H => D.nx σ H
def tSeq (t u : TS) : TS := fun D σ H => t { D with nx := u D } σ H
theorem pss_nil : PSs X [] tNext := fun _ _ σ H _ I h => wpAny_execs_nil ⟨σ, H, I, h⟩
theorem pss_cons (h1 : PS X st t) (h2 : PSs X rest u) : PSs X (st :: rest) (tSeq t u) := by
  intro pins s σ H D I h
  refine wpAny_execs_cons (thn (h1 pins s σ H { D with nx := u D } I h) fun f s1 q => ?_)
  cases f with
  | next =>
    obtain ⟨σ', H', I', q⟩ := q
    exact h2 pins s1 σ' H' D I' q
  | ret v => exact q
  | brk => exact q
  | cont => exact q
theorem pss_one (h1 : PS X st t) : PSs X [st] t := by
  intro pins s σ H D I h
  refine wpAny_execs_cons (thn (h1 pins s σ H D I h) fun f s1 q => ?_)
  cases f with
  | next => exact wpAny_execs_nil q
  | ret v => exact q
  | brk => exact q
  | cont => exact q
/-- in a def's body nothing is shown -/
theorem Inv.quiet {pins : List (Addr × Obj)} {σ : St} {H : Hp} {s : Shared} (I : Inv X pins σ H s) : interactive X.env = false := by simp [interactive, I.ok.kind]
/-- an expression whose value is dropped -/
def tDrop (te : TE) : TS := fun D σ H => te σ H fun _ H1 => D.nx σ H1
theorem ps_expr (he : PE X e te) (hs : swapsWith e none pos.line X.env = pure false := by rfl) : PS X (.Expr e pos) (tDrop te) := by
  intro pins s σ H D I h
  exact wpAny_Expr_any (thn (he pins s σ H _ I h) fun v s1 ⟨x, H1, I1, r1, q1⟩ => ⟨σ, H1, I1, q1⟩) I.quiet hs
def tRet (te : TE) : TS := fun D σ H => te σ H D.rt
theorem ps_ret (he : PE X e te) : PS X (.Return (some e) pos) (tRet te) := by
  intro pins s σ H D I h
  exact wpAny_Return_some (thn (he pins s σ H _ I h) fun v s1 ⟨x, H1, I1, r1, q1⟩ => ⟨x, σ, H1, I1, r1, q1⟩)
def tIfS (c : TT) (t u : TS) : TS := fun D σ H => c σ H fun b H1 => if b = true then t D σ H1 else u D σ H1
theorem ps_if {c : Expr} {a b : List Stmt} {tc : TT} (hc : PT X c tc) (ha : PSs X a t) (hb : PSs X b u) : PS X (.If c a b pos) (tIfS tc t u) := by
  intro pins s σ H D I h
  refine wpAny_If (thn (hc pins s σ H _ I h) fun d s1 ⟨H1, I1, q1⟩ => ?_)
  cases d with
  | true => exact ha pins s1 σ H1 D I1 q1
  | false => exact hb pins s1 σ H1 D I1 q1
end

/-! ### targets -/
abbrev TG := V → St → Hp → (St → Hp → Prop) → Prop
abbrev TGs := List V → St → Hp → (St → Hp → Prop) → Prop
def PG (X : Cx) (target : Expr) (t : TG) : Prop :=
  ∀ (pins : List (Addr × Obj)) (s : Shared) (σ : St) (H : Hp) (v : V) (u : Value) (Q : St → Hp → Prop), Inv X pins σ H s → RelV v u → t v σ H Q →
    wpAny (model X.prog X.w) X.A (assign target X.env u) (fun _ s' => ∃ σ' H', Inv X pins σ' H' s' ∧ Q σ' H') X.xe s
/-- several targets, one after another -/
def PGs (X : Cx) (ts : List Expr) (t : TGs) : Prop :=
  ∀ (pins : List (Addr × Obj)) (s : Shared) (σ : St) (H : Hp) (vs : List V) (us : List Value) (Q : St → Hp → Prop), Inv X pins σ H s → Vals vs us → t vs σ H Q →
    wpAny (model X.prog X.w) X.A (assignInOrder ((assignEach ts X.env).map (·.2)) us) (fun _ s' => ∃ σ' H', Inv X pins σ' H' s' ∧ Q σ' H') X.xe s
/-- o[i] = v, by values -/
abbrev TSet := V → V → V → Hp → (Hp → Prop) → Prop
def PSet (X : Cx) (t : TSet) : Prop :=
  ∀ (pins : List (Addr × Obj)) (s : Shared) (σ : St) (H : Hp) (o i v : V) (ov iv u : Value) (Q : Hp → Prop), Inv X pins σ H s → RelV o ov → RelV i iv → RelV v u → t o i v H Q →
    wpAny (model X.prog X.w) X.A (setItem ov iv u) (fun _ s' => ∃ H', Inv X pins σ H' s' ∧ Q H') X.xe s
section
variable {X : Cx} {pos : Pos}
def gName (i : Nat) : TG := fun v σ H Q => Q (σ.set i (some v)) H
theorem pg_name {i : Nat} {x : Str} (hN : X.N.Nodup) (hi : X.N[i]? = some x) (hx : Loc X.env.scope x) (hf : X.fn x = true ∨ X.env.scope.names.lookup x = some .local := by first | exact .inl rfl | exact .inr rfl | assumption) : PG X (.Name x pos) (gName i) := by
  intro pins s σ H v u Q I r h
  exact wpAny_assign_Name (store_ok I hN hi hx r (fun s' I' => ⟨_, H, I', h⟩) hf)
def gNil : TGs := fun vs σ H Q => vs = [] ∧ Q σ H
def gCons (t : TG) (u : TGs) : TGs := fun vs σ H Q => ∃ v r, vs = v :: r ∧ t v σ H fun σ' H' => u r σ' H' Q
theorem pgs_nil : PGs X [] gNil := by
  intro pins s σ H vs us Q I r h
  obtain ⟨e, h⟩ := h
  subst e
  cases r
  exact assignInOrder_nil ⟨σ, H, I, h⟩
theorem pgs_cons {e : Expr} {es : List Expr} {t : TG} {u : TGs} (h1 : PG X e t) (h2 : PGs X es u)
    (hs : (assignEach (e :: es) X.env).map (·.2) = assign e X.env :: (assignEach es X.env).map (·.2) := by rfl) : PGs X (e :: es) (gCons t u) := by
  intro pins s σ H vs us Q I r h
  obtain ⟨v, vr, e1, h⟩ := h
  subst e1
  cases r with
  | cons r rr =>
    rw [hs]
    refine assignInOrder_cons (thn (h1 pins s σ H _ _ _ I r h) fun _ s1 ⟨σ1, H1, I1, q1⟩ => ?_)
    exact h2 pins s1 σ1 H1 _ _ Q I1 rr q1
/-- (a, b, ..) = a tuple of that length -/
def gTup (K : PySem.W.Frag) (n : Nat) (t : TGs) : TG := fun v σ H Q => ∃ a xs, v = .ref a ∧ SqT K H a xs ∧ xs.length = n ∧ t xs σ H Q
theorem pg_tup {es : List Expr} {k : Nat} {t : TGs} {n : Nat} (hc : X.calm = true) (h : PGs X es t)
    (hn : (assignEach es X.env).length = n := by rfl) (hst : (assignEach es X.env).findIdx? (·.1) = none := by rfl) : PG X (.Tuple es k pos) (gTup X.K n t) := by
  intro pins s σ H v u Q I r hw
  obtain ⟨a, xs, e1, hq, hl, hw⟩ := hw
  subst e1
  cases r
  obtain ⟨its, rv, ht, hz⟩ := I.tuple hq
  refine assign_Tuple_tuple (I.ok.hd hc) ht (by simp [hn, ← hl, rv.length]) hst fun h' hx => ?_
  have I1 : Inv X pins σ H { s with heap := h' } := I.kept (t' := s.toks) fun b o e => hx b o (Nat.ne_of_lt (Heap.lt_size e)) e
  exact h pins _ σ H xs _ Q I1 (by simpa using rv) hw
/-- o[i] = .. -/
def gSub (to ti : TE) (t : TSet) : TG := fun v σ H Q => to σ H fun o H1 => ti σ H1 fun i H2 => t o i v H2 fun H3 => Q σ H3
theorem pg_sub {o i : Expr} {to ti : TE} {t : TSet} (ho : PE X o to) (hi : PE X i ti) (hs : PSet X t)
    (ha : ∀ v, assign (.Subscript o i pos) X.env v = (do
      let ov ← holding [v] (eval o X.env)
      let iv ← holding [v, ov] (eval i X.env)
      standAt pos
      holding [v, ov, iv] (setItem ov iv v)
      release [v, ov, iv] []) := by intro _; rfl) : PG X (.Subscript o i pos) (gSub to ti t) := by
  intro pins s σ H v u Q I r h
  rw [ha]
  refine wpAny_bind (wpAny_holding (thn (ho pins s σ H _ I h) fun ov s1 ⟨x, H1, I1, r1, q1⟩ => ?_))
  refine wpAny_bind (wpAny_holding (thn (hi pins s1 σ H1 _ I1 q1) fun iv s2 ⟨y, H2, I2, r2, q2⟩ => ?_))
  refine wpAny_bind (wpAny_standAt (wpAny_bind (wpAny_holding (thn (hs pins s2 σ H2 x y v ov iv u _ I2 r1 r2 r q2) fun _ s3 ⟨H3, I3, q3⟩ => ?_))))
  exact wpAny_release ⟨σ, H3, I3, q3⟩
/-- target = value -/
def tAsg (te : TE) (g : TG) : TS := fun D σ H => te σ H fun x H1 => g x σ H1 D.nx
theorem ps_asg {tg e : Expr} {te : TE} {g : TG} (he : PE X e te) (hg : PG X tg g) (hs : swapsWithSole [tg] e pos.line X.env = pure false := by rfl) (hw : swappedStores [tg] e X.env = pure none := by rfl)
    (h1 : (assignEach [tg] X.env).map (·.2) = [assign tg X.env] := by rfl) : PS X (.Assign [tg] e pos) (tAsg te g) := by
  intro pins s σ H D I h
  refine wpAny_Assign_stores (thn (he pins s σ H _ I h) fun v s1 ⟨x, H1, I1, r1, q1⟩ => ?_) hs hw
  rw [h1]
  exact thn (hg pins s1 σ H1 x v _ I1 r1 q1) fun _ s2 q => q
/-- name = value -/
theorem ps_set {i : Nat} {x : Str} {e : Expr} {te : TE} {pos' : Pos} (hN : X.N.Nodup) (hi : X.N[i]? = some x) (hx : Loc X.env.scope x) (he : PE X e te) (hs : swapsWith e (some (.Name x pos')) pos.line X.env = pure false := by rfl) (hf : X.fn x = true ∨ X.env.scope.names.lookup x = some .local := by first | exact .inl rfl | exact .inr rfl | assumption) :
    PS X (.Assign [.Name x pos'] e pos) (tAsg te (gName i)) := by
  intro pins s σ H D I h
  refine wpAny_Assign_Name (thn (he pins s σ H _ I h) fun v s1 ⟨y, H1, I1, r1, q1⟩ => ?_) hs
  exact store_ok I1 hN hi hx r1 (fun s2 I2 => ⟨_, H1, I2, q1⟩) hf
end

/-! ### while -/
section
variable {X : Cx} {pos : Pos}
end

/-! ### what a loop or a comprehension walks -/
/-- at turn i: it yields x (the heap may grow), or it stops -/
structure It where
  go : Nat → Hp → Prop
  yld : Nat → Hp → V → Hp → Prop
  stop : Nat → Hp → Prop
/-- the iterator's own objects may turn: they are not the frame's, not pinned, younger than the entry (or a comprehension's own) -/
def FpOk (X : Cx) (pins : List (Addr × Obj)) (H : Hp) (b : Addr) : Prop :=
  H b = none ∧ b ≠ X.env.locals ∧ b ∉ X.fs ∧ (b ∈ X.ex ∨ X.s₀.heap.objs.size ≤ b) ∧ (∀ x c, X.env.cells.lookup x = some c → c ≠ b) ∧ ∀ p ∈ X.pn ++ pins, p.1 ≠ b
theorem Inv.fpOk {X : Cx} {pins : List (Addr × Obj)} {σ : St} {H H' : Hp} {s : Shared} {b : Addr} (I : Inv X pins σ H s) (hb : s.heap.objs.size ≤ b) (hn : H' b = none) : FpOk X pins H' b := by
  refine ⟨hn, Nat.ne_of_gt (Nat.lt_of_lt_of_le I.lt hb), I.nofs hb, .inr (Nat.le_trans I.sz hb), fun x c e z => ?_, fun p hp z => ?_⟩
  · obtain ⟨v, q⟩ := I.cell x c e
    exact absurd (Nat.lt_of_lt_of_le q.lt (by rw [z]; exact hb)) (Nat.lt_irrefl _)
  · exact absurd (Nat.lt_of_lt_of_le (Heap.lt_size (I.pin p hp).1) (by rw [z]; exact hb)) (Nat.lt_irrefl _)
structure Turn (P : Program) (w : World) (K : PySem.W.Frag) (tg : Expr) (J : It) (fp : List Addr) (it : Addr) (tn : Nat → Heap → Prop) : Prop where
  mem : it ∈ fp
  obj : ∀ i h, tn i h → ∀ b ∈ fp, ∃ o, h.get? b = some o ∧ ∀ v, o.data ≠ .cell v
  keep : ∀ i h h', tn i h → (∀ b ∈ fp, ∀ o, h.get? b = some o → h'.get? b = some o) → tn i h'
  item : ∀ (X : Cx), X.prog = P → X.w = w → X.K = K → X.calm = true → ∀ (i : Nat) (pins : List (Addr × Obj)) (s : Shared) (σ : St) (H : Hp) (E : Value → Shared → Prop), Inv X pins σ H s → (∀ b ∈ fp, FpOk X pins H b) → tn i s.heap → J.go i H →
    wpAny (model P w) X.A (pyNext (.ref it)) (fun r s1 => ∃ u, r = some u ∧
      wpAny (model P w) X.A (letOwnedTupleGo tg (.ref it) u) (fun _ s2 => ∃ x H', Inv X pins σ H' s2 ∧ RelV x u ∧ J.yld i H x H' ∧ tn (i + 1) s2.heap ∧ ∀ b ∈ fp, H' b = none) E s1) E s
  done : ∀ (X : Cx), X.prog = P → X.w = w → X.K = K → X.calm = true → ∀ (i : Nat) (pins : List (Addr × Obj)) (s : Shared) (σ : St) (H : Hp) (E : Value → Shared → Prop), Inv X pins σ H s → (∀ b ∈ fp, FpOk X pins H b) → tn i s.heap → J.stop i H →
    wpAny (model P w) X.A (pyNext (.ref it)) (fun r s1 => r = none ∧ Inv X pins σ H s1) E s
  self : ∀ (A : Around) (i : Nat) (s : Shared) (Q : Value → Shared → Prop) (E : Value → Shared → Prop), tn i s.heap → Q (.ref it) s → wpAny (model P w) A (pyIter (.ref it)) Q E s
abbrev TI := St → Hp → (It → Hp → Prop) → Prop
/-- an iterator has come -/
def PIE (X : Cx) (pins : List (Addr × Obj)) (σ : St) (tg : Expr) (R : It → Hp → Prop) (itv : Value) (s2 : Shared) : Prop :=
  ∃ (it : Addr) (fp : List Addr) (tn : Nat → Heap → Prop) (J : It) (H' : Hp), itv = .ref it ∧ Inv X pins σ H' s2 ∧ Turn X.prog X.w X.K tg J fp it tn ∧ tn 0 s2.heap ∧ (∀ b ∈ fp, FpOk X pins H' b) ∧ R J H'
def PI (X : Cx) (tg iter : Expr) (wi : TI) : Prop :=
  ∀ (pins : List (Addr × Obj)) (s : Shared) (σ : St) (H : Hp) (R : It → Hp → Prop), Inv X pins σ H s → wi σ H R →
    wpAny (model X.prog X.w) X.A (eval iter X.env) (fun v s1 => wpAny (model X.prog X.w) X.A (pyIter v) (PIE X pins σ tg R) X.xe s1) X.xe s

/-- the step ahead of the store is nothing for an iterator that keeps no tuple -/
theorem go_of {M : Model} {A : Around} {E : Value → Shared → Prop} {s : Shared} {tg : Expr} {it : Addr} {u : Value} {o : Obj} {n : String} {vs : Array Value} {Q : Unit → Shared → Prop} (ho : s.heap.get? it = some o) (hc : o.cls = .type n) (hd : o.data = .fields vs)
    (hn : ["enumerate", "zip", "dict_itemiterator", "dict_reverseitemiterator", "odict_iterator", "itertools.zip_longest", "itertools.pairwise"].contains n = false) (hQ : Q () s) : wpAny M A (letOwnedTupleGo tg (.ref it) u) Q E s := by
  unfold letOwnedTupleGo
  cases tg <;> first
    | exact wpAny_pure hQ
    | (cases u <;> first
        | exact wpAny_pure hQ
        | (refine wpAny_bind (wpAny_load ho ?_)
           rw [hc, hd]
           show wpAny M A (if (["enumerate", "zip", "dict_itemiterator", "dict_reverseitemiterator", "odict_iterator", "itertools.zip_longest", "itertools.pairwise"].contains n && vs[0]? == some (rawInt _)) = true then _ else _) Q E s
           rw [if_neg (by intro h; rw [hn, Bool.false_and] at h; cases h)]
           exact wpAny_pure hQ))

/-- the list at a, as it stands at each turn (a loop may append to it) -/
def Itl (K : PySem.W.Frag) (a : Addr) : It :=
  ⟨fun i H => ∃ xs x, SqL K H a xs ∧ xs[i]? = some x, fun i H x H' => H' = H ∧ ∀ xs, SqL K H a xs → xs[i]? = some x, fun i H => ∃ xs, SqL K H a xs ∧ xs.length ≤ i⟩
def Itt (K : PySem.W.Frag) (a : Addr) : It :=
  ⟨fun i H => ∃ xs x, SqT K H a xs ∧ xs[i]? = some x, fun i H x H' => H' = H ∧ ∀ xs, SqT K H a xs → xs[i]? = some x, fun i H => ∃ xs, SqT K H a xs ∧ xs.length ≤ i⟩
/-- lo, lo + 1, .. (n of them) -/
def Itr (lo : Int) (n : Nat) : It := ⟨fun i _ => i < n, fun i H x H' => H' = H ∧ x = .int (lo + i), fun i _ => n ≤ i⟩
theorem turn_list {P : Program} {w : World} {K : PySem.W.Frag} {tg : Expr} (a it : Addr) : Turn P w K tg (Itl K a) [it] it (fun i h => h.IsListIter it a i) where
  mem := by simp
  obj := fun i h st b hb => by
    have e : b = it := by simpa using hb
    subst e
    obtain ⟨o, e, c, d⟩ := st
    exact ⟨o, e, fun v z => by rw [d] at z; cases z⟩
  keep := fun i h h' st k => st.at fun o e => k it (by simp) o e
  item := by
    intro X hP hw hK hc i pins s σ H E I hf st hg
    subst hP hw hK
    obtain ⟨xs, x, hq, hx⟩ := hg
    obtain ⟨its, rv, p, hz⟩ := I.list hq
    obtain ⟨u, hu, ru⟩ := rv.get hx
    obtain ⟨f0, f1, f2, f3, f4, f5⟩ := hf it (by simp)
    refine wpAny_pyNext_list_item st p.isList (x := u) (by simpa using hu) fun h' st' sb => ?_
    have I1 : Inv X pins σ H { s with heap := h' } := I.turned (t' := s.toks) (fun b o hb e => (sb.2 b hb).trans e) f0 f1 f3 f4 f5
    obtain ⟨o, e, c, d⟩ := id st'
    exact ⟨u, rfl, go_of (s := { s with heap := h' }) e c d (by decide) ⟨x, H, I1, ru, ⟨rfl, fun ys hy => by rw [I.list_inj hy hq]; exact hx⟩, st', fun b hb => (hf b hb).1⟩⟩
  done := by
    intro X hP hw hK hc i pins s σ H E I hf st hg
    subst hP hw hK
    obtain ⟨xs, hq, hx⟩ := hg
    obtain ⟨its, rv, p, hz⟩ := I.list hq
    obtain ⟨f0, f1, f2, f3, f4, f5⟩ := hf it (by simp)
    have hl := rv.length
    exact wpAny_pyNext_list_end (I.ok.hd hc) st p.isList (by simp; omega) fun h' eb => ⟨rfl, I.turned (t' := s.toks) (fun b o hb e => eb b o hb e) f0 f1 f3 f4 f5⟩
  self := fun _ _ _ _ _ st h => wpAny_pyIter_listiter st h
theorem turn_tuple {P : Program} {w : World} {K : PySem.W.Frag} {tg : Expr} (a it : Addr) : Turn P w K tg (Itt K a) [it] it (fun i h => h.IsTupleIter it a i) where
  mem := by simp
  obj := fun i h st b hb => by
    have e : b = it := by simpa using hb
    subst e
    obtain ⟨o, e, c, d⟩ := st
    exact ⟨o, e, fun v z => by rw [d] at z; cases z⟩
  keep := fun i h h' st k => st.at fun o e => k it (by simp) o e
  item := by
    intro X hP hw hK hc i pins s σ H E I hf st hg
    subst hP hw hK
    obtain ⟨xs, x, hq, hx⟩ := hg
    obtain ⟨its, rv, p, hz⟩ := I.tuple hq
    obtain ⟨u, hu, ru⟩ := rv.get hx
    obtain ⟨f0, f1, f2, f3, f4, f5⟩ := hf it (by simp)
    refine wpAny_pyNext_tuple_item st (show s.heap.IsTuple a its.toArray from p) (x := u) (by simpa using hu) fun h' st' sb => ?_
    have I1 : Inv X pins σ H { s with heap := h' } := I.turned (t' := s.toks) (fun b o hb e => (sb.2 b hb).trans e) f0 f1 f3 f4 f5
    obtain ⟨o, e, c, d⟩ := id st'
    exact ⟨u, rfl, go_of (s := { s with heap := h' }) e c d (by decide) ⟨x, H, I1, ru, ⟨rfl, fun ys hy => by rw [I.tuple_inj hy hq]; exact hx⟩, st', fun b hb => (hf b hb).1⟩⟩
  done := by
    intro X hP hw hK hc i pins s σ H E I hf st hg
    subst hP hw hK
    obtain ⟨xs, hq, hx⟩ := hg
    obtain ⟨its, rv, p, hz⟩ := I.tuple hq
    obtain ⟨f0, f1, f2, f3, f4, f5⟩ := hf it (by simp)
    have hl := rv.length
    exact wpAny_pyNext_tuple_end (I.ok.hd hc) st (show s.heap.IsTuple a its.toArray from p) (by simp; omega) fun h' eb => ⟨rfl, I.turned (t' := s.toks) (fun b o hb e => eb b o hb e) f0 f1 f3 f4 f5⟩
  self := fun _ _ _ _ _ st h => wpAny_pyIter_tupleiter st h
theorem turn_range {P : Program} {w : World} {K : PySem.W.Frag} {tg : Expr} (it : Addr) (lo : Int) (n : Nat) : Turn P w K tg (Itr lo n) [it] it (fun i h => IsRangeIter h it (lo + (i : Nat) * 1) ((n : Int) - (i : Nat)) 1) where
  mem := by simp
  obj := fun i h st b hb => by
    have e : b = it := by simpa using hb
    subst e
    exact ⟨_, st, fun v z => by
      have z' : Data.fields _ = Data.cell v := z
      cases z'⟩
  keep := fun i h h' st k => k it (by simp) _ st
  item := by
    intro X hP hw hK hc i pins s σ H E I hf st hg
    subst hP hw hK
    obtain ⟨f0, f1, f2, f3, f4, f5⟩ := hf it (by simp)
    have W := Walks.range (prog := X.prog) (w := X.w) (I.ok.hd hc) it lo 1 n
    refine W.item i s _ _ hg st fun v h' tk hv st' kk => ?_
    obtain ⟨t, rfl⟩ := hv
    have I1 : Inv X pins σ H { s with heap := h', toks := tk } := I.turned (fun b o hb e => kk b o (by simpa using hb) e) f0 f1 f3 f4 f5
    refine ⟨_, rfl, go_of (s := { s with heap := h', toks := tk }) (n := "range_iterator") st' rfl rfl (by decide) ⟨.int (lo + i), H, I1, ⟨t, ?_⟩, ⟨rfl, rfl⟩, st', fun b hb => (hf b hb).1⟩⟩
    rw [Int.mul_one]
  done := by
    intro X hP hw hK hc i pins s σ H E I hf st hg
    subst hP hw hK
    obtain ⟨f0, f1, f2, f3, f4, f5⟩ := hf it (by simp)
    exact wpAny_pyNext_range_end (I.ok.hd hc) st (by have : n ≤ i := hg; omega) fun h' eb => ⟨rfl, I.turned (t' := s.toks) (fun b o hb e => eb b o hb e) f0 f1 f3 f4 f5⟩
  self := fun _ _ _ _ _ st h => wpAny_pyIter_rangeiter st h
end L2

namespace L2
open PySem PySem.Spec PyProof.Rows
section
variable {X : Cx} {tg : Expr}
/-- a range object just made, walked -/
theorem range_it {pins : List (Addr × Obj)} {σ : St} {H : Hp} {s : Shared} {R : It → Hp → Prop} {E : Value → Shared → Prop} {lo hi : Int} {t u v : Tok} {tk : Nat} (I : Inv X pins σ H s) (h1 : -(2 ^ 62) ≤ lo) (h2 : lo < 2 ^ 62) (h3 : -(2 ^ 62) ≤ hi) (h4 : hi < 2 ^ 62)
    (q : R (Itr lo (hi - lo).toNat) H) : wpAny (model X.prog X.w) X.A (pyIter (.ref s.heap.objs.size)) (PIE X pins σ tg R) E { s with heap := s.heap.push { cls := .type "range", data := .fields #[.int lo t, .int hi u, .int 1 v] }, toks := tk } := by
  refine wpAny_pyIter_range (IsRange.new ..) (small_one h1 h2 h3 h4) ?_
  have I1 : Inv X pins σ H { s with heap := s.heap.push { cls := .type "range", data := .fields #[.int lo t, .int hi u, .int 1 v] }, toks := tk } := I.kept fun b o e => Heap.get?_push_of_some _ e
  refine ⟨(s.heap.push { cls := .type "range", data := .fields #[.int lo t, .int hi u, .int 1 v] }).objs.size, [(s.heap.push { cls := .type "range", data := .fields #[.int lo t, .int hi u, .int 1 v] }).objs.size], _, _, H, rfl,
    I1.kept (t' := tk) fun b o e => Heap.get?_push_of_some _ e, turn_range _ lo (hi - lo).toNat, ?_, fun b hb => ?_, q⟩
  · have e1 : lo + ((0 : Nat) : Int) * 1 = lo := by simp
    have e2 : (((hi - lo).toNat : Nat) : Int) - ((0 : Nat) : Int) = Builtin.Range.rangeSize lo hi 1 := by rw [rangeSize_one]; split <;> omega
    show IsRangeIter _ _ (lo + ((0 : Nat) : Int) * 1) ((((hi - lo).toNat : Nat) : Int) - ((0 : Nat) : Int)) 1
    rw [e1, e2]
    exact Heap.get?_push_size _ rfl
  · have e : b = (s.heap.push { cls := .type "range", data := .fields #[.int lo t, .int hi u, .int 1 v] }).objs.size := by simpa using hb
    subst e
    exact I1.fpOk (Nat.le_refl _) (I1.hok.fresh (Nat.le_refl _))
def iRng1 (ta : TA) : TI := fun σ H R => ta σ H fun vs H1 => ∃ j : Int, vs = [.int j] ∧ -(2 ^ 62) ≤ j ∧ j < 2 ^ 62 ∧ R (Itr 0 j.toNat) H1
theorem pi_range1 {a : Expr} {ta : TA} {p pos : Pos} (hg : Gl X "range") (hm : X.mg "range" = none) (ha : PA X [a] ta) (hs : starEach [a] X.env = [(false, eval a X.env)] := by rfl) : PI X tg (.Call (.Name "range" p) [a] [] pos) (iRng1 ta) := by
  intro pins s σ H R I h
  refine Call_ (ld_blt I hg hm boot_range (PyProof.Rows.callWith_type1 (thn (ha pos pins s σ H _ I h) fun us s1 ⟨vs, H1, I1, r1, q1⟩ => ?_) hs rfl))
  obtain ⟨j, e, q1, q2, q⟩ := q1
  subst e
  cases r1 with
  | cons r rr =>
    cases rr
    obtain ⟨t, rfl⟩ := r
    exact call_range_1 (range_it I1 (by omega) (by omega) q1 q2 (by simpa using q))
/-! ### for -/
/-- W: the invariant by the turn and a measure; N: what the body is to reach -/
def tFor (wi : TI) (g : TG) (tb : TS) : TS := fun D σ H => wi σ H fun J H1 => ∃ W : Nat → Nat → St → Hp → Prop, (∃ m, W 0 m σ H1) ∧ ∀ i m σ H, W i m σ H →
  (J.stop i H ∧ D.nx σ H) ∨ (J.go i H ∧ ∃ N : St → Hp → Prop, (∀ σ' H', N σ' H' → ∃ m', m' < m ∧ W (i + 1) m' σ' H') ∧ ∀ x H', J.yld i H x H' → g x σ H' fun σ2 H2 => tb { D with nx := N, ct := N, bk := D.nx } σ2 H2)
/-- the records at fp as they stand -/
def pinsAt (fp : List Addr) (h : Heap) : List (Addr × Obj) := fp.filterMap fun b => (h.get? b).map fun o => (b, o)
theorem mem_pinsAt {fp : List Addr} {h : Heap} {b : Addr} {o : Obj} (hb : b ∈ fp) (e : h.get? b = some o) : (b, o) ∈ pinsAt fp h := List.mem_filterMap.mpr ⟨b, hb, by rw [e]; rfl⟩
theorem of_pinsAt {fp : List Addr} {h : Heap} {p : Addr × Obj} (hp : p ∈ pinsAt fp h) : p.1 ∈ fp ∧ h.get? p.1 = some p.2 := by
  obtain ⟨b, hb, e⟩ := List.mem_filterMap.mp hp
  cases q : h.get? b with
  | none => rw [q] at e; cases e
  | some o =>
    rw [q] at e
    have e' : (b, o) = p := Option.some.inj e
    subst e'
    exact ⟨hb, q⟩
theorem Inv.pinned {pins : List (Addr × Obj)} {σ : St} {H : Hp} {s : Shared} {fp : List Addr} (I : Inv X pins σ H s) (hf : ∀ b ∈ fp, FpOk X pins H b) (ho : ∀ b ∈ fp, ∃ o, s.heap.get? b = some o ∧ ∀ v, o.data ≠ .cell v) : Inv X (pins ++ pinsAt fp s.heap) σ H s :=
  I.pins_of fun p hp => (List.mem_append.mp hp).elim (fun z => I.pin p (List.mem_append_right _ z)) fun z => by
    obtain ⟨hb, e⟩ := of_pinsAt z
    obtain ⟨f0, f1, f2, _⟩ := hf p.1 hb
    obtain ⟨o, e', d⟩ := ho p.1 hb
    rw [e] at e'; cases e'
    exact ⟨e, f0, f1, f2, d⟩
theorem Inv.unpinned {pins pl : List (Addr × Obj)} {σ : St} {H : Hp} {s : Shared} (I : Inv X (pins ++ pl) σ H s) : Inv X pins σ H s := I.pins_of fun p hp => I.pin p (List.mem_append_right _ (List.mem_append_left _ hp))
theorem ps_for {iter : Expr} {body : List Stmt} {wi : TI} {g : TG} {tb : TS} {pos : Pos} (hp : PassesOwn (model X.prog X.w) X.A X.env X.xe) (hc : X.calm = true) (hi : PI X tg iter wi) (hg : PG X tg g) (hb : PSs X body tb)
    (hs : ∀ x, foldedSetIterable iter X.env x = pure x := by intro _; rfl) : PS X (.For tg iter body [] pos) (tFor wi g tb) := by
  intro pins s σ H D I h
  refine wpAny_For (thn (hi pins s σ H _ I h) fun v s1 h1 => thn h1 fun itv s2 h2 => ?_) hs
  obtain ⟨it, fp, tn, J, H2, e, I2, T, st2, f2, W, ⟨m0, w0⟩, turn⟩ := h2
  subst e
  -- what stays true of the iterator's objects through the loop
  have stat : ∀ {H' : Hp}, (∀ b ∈ fp, H' b = none) → ∀ b ∈ fp, FpOk X pins H' b := fun hn b hb => ⟨hn b hb, (f2 b hb).2⟩
  refine codeAny_forLoop_any (fun n s' => ∃ i σ' H', Inv X pins σ' H' s' ∧ tn i s'.heap ∧ (∀ b ∈ fp, H' b = none) ∧ W i n σ' H') ?_ m0 ⟨0, σ, H2, I2, st2, fun b hb => (f2 b hb).1, w0⟩
  rintro n s3 ⟨i, σ3, H3, I3, st3, fr3, w3⟩
  rcases turn i n σ3 H3 w3 with ⟨stop, qn⟩ | ⟨go, N, hN, step⟩
  · refine wpAny_passesOwn hp (thn (T.done X rfl rfl rfl hc i pins s3 σ3 H3 X.xe I3 (stat fr3) st3 stop) fun r s4 ⟨hr, I4⟩ => ?_)
    subst hr
    exact wpAny_execs_nil ⟨σ3, H3, I4, qn⟩
  · refine wpAny_passesOwn hp (thn (T.item X rfl rfl rfl hc i pins s3 σ3 H3 X.xe I3 (stat fr3) st3 go) fun r s4 ⟨u, hr, h4⟩ => ?_)
    subst hr
    refine wpAny_passesOwn hp (thn h4 fun _ s5 ⟨x, H5, I5, r5, y5, st5, fr5⟩ => ?_)
    have I5' := I5.pinned (stat fr5) (T.obj _ _ st5)
    refine wpAny_passesOwn hp (thn (hg _ s5 σ3 H5 x u _ I5' r5 (step x H5 y5)) fun _ s6 ⟨σ6, H6, I6, q6⟩ => ?_)
    refine wpAny_passesOwn hp (thn (hb _ s6 σ6 H6 _ I6 q6) fun f s7 q7 => ?_)
    have again : ∀ {σ7 : St} {H7 : Hp}, Inv X (pins ++ pinsAt fp s5.heap) σ7 H7 s7 → N σ7 H7 → ∃ m, m < n ∧ ∃ i σ' H', Inv X pins σ' H' s7 ∧ tn i s7.heap ∧ (∀ b ∈ fp, H' b = none) ∧ W i m σ' H' := fun {σ7 H7} I7 n7 => by
      obtain ⟨m', hm, w7⟩ := hN σ7 H7 n7
      refine ⟨m', hm, i + 1, σ7, H7, I7.unpinned, T.keep _ _ _ st5 fun b hb o e => (I7.pin (b, o) (List.mem_append_right _ (List.mem_append_right _ (mem_pinsAt hb e)))).1, fun b hb => ?_, w7⟩
      obtain ⟨o, e, d⟩ := T.obj _ _ st5 b hb
      exact (I7.pin (b, o) (List.mem_append_right _ (List.mem_append_right _ (mem_pinsAt hb e)))).2.1
    cases f with
    | next => obtain ⟨σ7, H7, I7, n7⟩ := q7; exact again I7 n7
    | cont => obtain ⟨σ7, H7, I7, n7⟩ := q7; exact again I7 n7
    | brk => obtain ⟨σ7, H7, I7, q7⟩ := q7; exact ⟨σ7, H7, I7.unpinned, q7⟩
    | ret v => obtain ⟨x7, σ7, H7, I7, r7, q7⟩ := q7; exact ⟨x7, σ7, H7, I7.unpinned, r7, q7⟩
end

/-! ### the forms one uses -/
theorem for_range {lo : Int} {n : Nat} {g : TG} {tb : TS} {D : Ends} {σ : St} {H : Hp} (Pv : Nat → St → Hp → Prop) (h0 : Pv 0 σ H)
    (hs : ∀ i σ H, i < n → Pv i σ H → g (.int (lo + i)) σ H fun σ2 H2 => tb { D with nx := Pv (i + 1), ct := Pv (i + 1), bk := D.nx } σ2 H2) (hd : ∀ σ H, Pv n σ H → D.nx σ H) :
    ∃ W : Nat → Nat → St → Hp → Prop, (∃ m, W 0 m σ H) ∧ ∀ i m σ H, W i m σ H →
      ((Itr lo n).stop i H ∧ D.nx σ H) ∨ ((Itr lo n).go i H ∧ ∃ N : St → Hp → Prop, (∀ σ' H', N σ' H' → ∃ m', m' < m ∧ W (i + 1) m' σ' H') ∧ ∀ x H', (Itr lo n).yld i H x H' → g x σ H' fun σ2 H2 => tb { D with nx := N, ct := N, bk := D.nx } σ2 H2) := by
  refine ⟨fun i m σ H => m = n - i ∧ i ≤ n ∧ Pv i σ H, ⟨n, by simp, Nat.zero_le _, h0⟩, ?_⟩
  rintro i m σ H ⟨rfl, hi, p⟩
  by_cases hlt : i < n
  · refine .inr ⟨hlt, Pv (i + 1), fun σ' H' p' => ⟨n - (i + 1), by omega, rfl, hlt, p'⟩, fun x H' y => ?_⟩
    obtain ⟨e, y⟩ := y
    subst e y
    exact hs i σ _ hlt p
  · have e : i = n := by omega
    subst e
    exact .inl ⟨Nat.le_refl _, hd σ H p⟩
end L2

namespace L2
open PySem PySem.Spec PyProof.Rows

abbrev R2 := V → V → Hp → VK → Prop
/-- a two-place operation on values: f is binaryOp op, inplaceOp op or compareOp op -/
def OpR (X : Cx) (f : Value → Value → Sem Value) (r : R2) : Prop :=
  ∀ (pins : List (Addr × Obj)) (s : Shared) (σ : St) (H : Hp) (x y : V) (v u : Value) (Q : VK), Inv X pins σ H s → RelV x v → RelV y u → r x y H Q →
    wpAny (model X.prog X.w) X.A (f v u) (EP X pins σ Q) X.xe s
/-- a one-place operation -/
def UnR (X : Cx) (f : Value → Sem Value) (r : V → Hp → VK → Prop) : Prop :=
  ∀ (pins : List (Addr × Obj)) (s : Shared) (σ : St) (H : Hp) (x : V) (v : Value) (Q : VK), Inv X pins σ H s → RelV x v → r x H Q →
    wpAny (model X.prog X.w) X.A (f v) (EP X pins σ Q) X.xe s
/-- a call of a value that is known (a builtin, a type) with values -/
def CallR (X : Cx) (f : Value) (r : List V → Hp → VK → Prop) : Prop :=
  ∀ (pins : List (Addr × Obj)) (s : Shared) (σ : St) (H : Hp) (xs : List V) (us : List Value) (Q : VK), Inv X pins σ H s → Vals xs us → r xs H Q →
    wpAny (model X.prog X.w) X.A (call f us) (EP X pins σ Q) X.xe s
/-- a value's truth -/
def TruR (X : Cx) (r : V → Hp → (Bool → Hp → Prop) → Prop) : Prop :=
  ∀ (pins : List (Addr × Obj)) (s : Shared) (σ : St) (H : Hp) (x : V) (v : Value) (Q : Bool → Hp → Prop), Inv X pins σ H s → RelV x v → r x H Q →
    wpAny (model X.prog X.w) X.A (truthy v) (TP X pins σ Q) X.xe s

def tOp (r : R2) (ta tb : TE) : TE := fun σ H Q => ta σ H fun x H1 => tb σ H1 fun y H2 => r x y H2 Q
def tUn (r : V → Hp → VK → Prop) (ta : TE) : TE := fun σ H Q => ta σ H fun x H1 => r x H1 Q
/-- ints in, under C, and a value out -/
def rI (C : Int → Int → Prop) (g : Int → Int → V) : R2 := fun x y H Q => ∃ i j, x = .int i ∧ y = .int j ∧ C i j ∧ Q (g i j) H
def rI0 (g : Int → Int → V) : R2 := fun x y H Q => ∃ i j, x = .int i ∧ y = .int j ∧ Q (g i j) H
def rU (g : Int → V) : V → Hp → VK → Prop := fun x H Q => ∃ i, x = .int i ∧ Q (g i) H

section
variable {X : Cx} {a b c : Expr} {ta tb tc : TE} {pos : Pos}

theorem binT (ha : PE X a ta) (hb : PE X b tb) {pins : List (Addr × Obj)} {s : Shared} {σ : St} {H : Hp} {R : V → V → Hp → Prop} (I : Inv X pins σ H s)
    (h : ta σ H fun x H1 => tb σ H1 fun y H2 => R x y H2) {Q : Value → Shared → Prop} {f : Value → Value → Sem Value}
    (hf : ∀ v u s2 x y H2, Inv X pins σ H2 s2 → RelV x v → RelV y u → R x y H2 → wpAny (model X.prog X.w) X.A (f v u) Q X.xe s2) :
    wpAny (model X.prog X.w) X.A (eval a X.env) (fun v s₁ => wpAny (model X.prog X.w) X.A (eval b X.env) (fun u s₂ => wpAny (model X.prog X.w) X.A (f v u) Q X.xe s₂) X.xe s₁) X.xe s := by
  refine thn (ha pins s σ H _ I h) fun v s1 ⟨x, H1, I1, r1, q1⟩ => ?_
  refine thn (hb pins s1 σ H1 _ I1 q1) fun u s2 ⟨y, H2, I2, r2, q2⟩ => ?_
  exact hf v u s2 x y H2 I2 r1 r2 q2

theorem pe_op {op : Operator} {r : R2} (ho : OpR X (binaryOp op) r) (ha : PE X a ta) (hb : PE X b tb) : PE X (.BinOp a op b pos) (tOp r ta tb) := by
  intro pins s σ H Q I h
  exact wpAny_BinOp (binT ha hb I h fun v u s2 x y H2 I2 rx ry q => ho pins s2 σ H2 x y v u Q I2 rx ry q)
theorem pe_un {op : UnaryOp} {r : V → Hp → VK → Prop} (ho : UnR X (unaryOp op) r) (ha : PE X a ta) : PE X (.UnaryOp op a pos) (tUn r ta) := by
  intro pins s σ H Q I h
  exact UnaryOp_ (thn (ha pins s σ H _ I h) fun v s1 ⟨x, H1, I1, r1, q1⟩ => ho pins s1 σ H1 x v Q I1 r1 q1)
/-! ### ints -/
theorem opI {f : Value → Value → Sem Value} {C : Int → Int → Prop} {g : Int → Int → Int}
    (rule : ∀ (i j : Int) (t u : Tok) (s : Shared) (Q : Value → Shared → Prop) (E : Value → Shared → Prop), C i j → Q (.int (g i j) s.toks) { s with toks := s.toks + 1 } → wpAny (model X.prog X.w) X.A (f (.int i t) (.int j u)) Q E s) :
    OpR X f (rI C fun i j => .int (g i j)) := by
  intro pins s σ H x y v u Q I rx ry h
  obtain ⟨i, j, rfl, rfl, hc, q⟩ := h
  obtain ⟨t, rfl⟩ := rx
  obtain ⟨t', rfl⟩ := ry
  exact rule i j t t' s _ _ hc ⟨.int (g i j), H, I.tok _, ⟨_, rfl⟩, q⟩
theorem opI0 {f : Value → Value → Sem Value} {g : Int → Int → Int}
    (rule : ∀ (i j : Int) (t u : Tok) (s : Shared) (Q : Value → Shared → Prop) (E : Value → Shared → Prop), Q (.int (g i j) s.toks) { s with toks := s.toks + 1 } → wpAny (model X.prog X.w) X.A (f (.int i t) (.int j u)) Q E s) :
    OpR X f (rI0 fun i j => .int (g i j)) := by
  intro pins s σ H x y v u Q I rx ry h
  obtain ⟨i, j, rfl, rfl, q⟩ := h
  obtain ⟨t, rfl⟩ := rx
  obtain ⟨t', rfl⟩ := ry
  exact rule i j t t' s _ _ ⟨.int (g i j), H, I.tok _, ⟨_, rfl⟩, q⟩
theorem opB0 {f : Value → Value → Sem Value} {g : Int → Int → Bool}
    (rule : ∀ (i j : Int) (t u : Tok) (s : Shared) (Q : Value → Shared → Prop) (E : Value → Shared → Prop), Q (.bool (g i j)) s → wpAny (model X.prog X.w) X.A (f (.int i t) (.int j u)) Q E s) :
    OpR X f (rI0 fun i j => .bl (g i j)) := by
  intro pins s σ H x y v u Q I rx ry h
  obtain ⟨i, j, rfl, rfl, q⟩ := h
  obtain ⟨t, rfl⟩ := rx
  obtain ⟨t', rfl⟩ := ry
  exact rule i j t t' s _ _ ⟨.bl (g i j), H, I, rfl, q⟩

def CDiv (i j : Int) : Prop := 0 < j ∧ j < 1073741824
def CPow (i j : Int) : Prop := 0 ≤ j ∧ j ≤ 1000000 ∧ i.natAbs < 2 ^ 64
def CMul (i j : Int) : Prop := (-(2 ^ 64) < i ∧ i < 2 ^ 64) ∨ (-(2 ^ 64) < j ∧ j < 2 ^ 64)
theorem CMul.ok {i j : Int} (h : CMul i j) : IntMulOk i j := by
  rcases h with ⟨h1, h2⟩ | ⟨h1, h2⟩
  · exact .of_left (intBits_le_64 h1 h2)
  · exact .of_right (intBits_le_64 h1 h2)
theorem op_add : OpR X (binaryOp .Add) (rI0 fun i j => .int (i + j)) := opI0 fun _ _ _ _ _ _ _ q => add_int q
theorem op_sub : OpR X (binaryOp .Sub) (rI0 fun i j => .int (i - j)) := opI0 fun _ _ _ _ _ _ _ q => sub_int q
theorem op_mul : OpR X (binaryOp .Mult) (rI CMul fun i j => .int (i * j)) := opI fun _ _ _ _ _ _ _ hc q => mul_int q hc.ok
/-- // by a positive divisor -/
theorem op_fdiv : OpR X (binaryOp .FloorDiv) (rI CDiv fun i j => .int (i / j)) := opI fun i j _ _ _ _ _ hc q => by
  have h1 : (0 : Int) < j := hc.1
  have h2 : j < 1073741824 := hc.2
  exact floordiv_int (by omega) (by rw [Int.fdiv_eq_ediv_of_nonneg i (by omega)]; exact q) (.inl (PyProof.noPylong_small (by omega)))
/-- % by a positive divisor of any size -/
theorem op_mod : OpR X (binaryOp .Mod) (rI (fun _ j => 0 < j) fun i j => .int (i % j)) := opI fun i j _ _ _ _ _ hc q => by
  have h1 : (0 : Int) < j := hc
  exact mod_int' (by omega) (by rw [Int.fmod_eq_emod_of_nonneg i (by omega)]; exact q)
theorem op_pow : OpR X (binaryOp .Pow) (rI CPow fun i j => .int (i ^ j.toNat)) := opI fun _ _ _ _ _ _ _ hc q => pow_int_small hc.1 hc.2.1 hc.2.2 q
theorem unI {f : Value → Sem Value} {g : Int → Int}
    (rule : ∀ (i : Int) (t : Tok) (s : Shared) (Q : Value → Shared → Prop) (E : Value → Shared → Prop), Q (.int (g i) s.toks) { s with toks := s.toks + 1 } → wpAny (model X.prog X.w) X.A (f (.int i t)) Q E s) :
    UnR X f (rU fun i => .int (g i)) := by
  intro pins s σ H x v Q I rx h
  obtain ⟨i, rfl, q⟩ := h
  obtain ⟨t, rfl⟩ := rx
  exact rule i t s _ _ ⟨.int (g i), H, I.tok _, ⟨_, rfl⟩, q⟩
theorem un_neg : UnR X (unaryOp .USub) (rU fun i => .int (-i)) := unI fun _ _ _ _ _ q => neg_int q
/-! ### bools among ints: n += (a < b) -/
end

/-! ### comparisons -/
/-- the scalars that == tells apart as data does -/
def scal : V → V → Bool
  | .non, .non => true | .non, .int _ => true | .int _, .non => true | .non, .bl _ => true | .bl _, .non => true | .non, .str _ => true | .str _, .non => true
  | .int _, .int _ => true | .bl _, .bl _ => true | .str _, .str _ => true | .byt _, .byt _ => true
  | .int _, .str _ => true | .str _, .int _ => true | .bl _, .str _ => true | .str _, .bl _ => true
  | _, _ => false
def rEq : R2 := fun x y H Q => scal x y = true ∧ Q (.bl (decide (x = y))) H
def rNe : R2 := fun x y H Q => scal x y = true ∧ Q (.bl (!decide (x = y))) H

theorem dec_int {i j : Int} : decide (V.int i = V.int j) = (i == j) := by
  rw [Bool.eq_iff_iff]
  simp
theorem dec_bl {i j : Bool} : decide (V.bl i = V.bl j) = (i == j) := by
  rw [Bool.eq_iff_iff]
  simp
theorem dec_str {i j : Str} : decide (V.str i = V.str j) = (i == j) := by
  rw [Bool.eq_iff_iff]
  simp
theorem dec_byt {i j : Array UInt8} : decide (V.byt i = V.byt j) = (i.toList == j.toList) := by
  rw [Bool.eq_iff_iff]
  cases i
  cases j
  simp

section
variable {X : Cx} {a b c : Expr} {ta tb tc : TE} {pos : Pos}
theorem fin_bl {pins : List (Addr × Obj)} {σ : St} {H : Hp} {s : Shared} {Q : VK} {k k' : Bool} (I : Inv X pins σ H s) (q : Q (.bl k) H) (e : k = k') : EP X pins σ Q (.bool k') s := by
  subst e
  exact ⟨.bl k, H, I, rfl, q⟩
theorem op_eq : OpR X (compareOp .Eq) rEq := by
  intro pins s σ H x y v u Q I rx ry h
  obtain ⟨hs, q⟩ := h
  cases x with
  | non =>
    cases rx
    cases y with
    | non => cases ry; exact PySem.EqNone.eq_none_none (fin_bl I q (by simp))
    | bl j => cases ry; exact PySem.EqNone.eq_none_bool (fin_bl I q (by simp))
    | int j => obtain ⟨t', rfl⟩ := ry; exact PySem.EqNone.eq_none_int (fin_bl I q (by simp))
    | str j => obtain ⟨t', rfl⟩ := ry; exact PySem.EqNone.eq_none_str (fin_bl I q (by simp))
    | _ => exact absurd (show false = true from hs) Bool.false_ne_true
  | bl i =>
    cases rx
    cases y with
    | non => cases ry; exact PySem.EqNone.eq_bool_none (fin_bl I q (by simp))
    | bl j => cases ry; exact eq_bool (fin_bl I q dec_bl)
    | str j => obtain ⟨t', rfl⟩ := ry; exact PySem.EqMixed.eq_bool_str (fin_bl I q (by simp))
    | _ => exact absurd (show false = true from hs) Bool.false_ne_true
  | int i =>
    obtain ⟨t, rfl⟩ := rx
    cases y with
    | non => cases ry; exact PySem.EqNone.eq_int_none (fin_bl I q (by simp))
    | int j => obtain ⟨t', rfl⟩ := ry; exact eq_int (fin_bl I q dec_int)
    | str j => obtain ⟨t', rfl⟩ := ry; exact PySem.EqMixed.eq_int_str (fin_bl I q (by simp))
    | _ => exact absurd (show false = true from hs) Bool.false_ne_true
  | str i =>
    obtain ⟨t, rfl⟩ := rx
    cases y with
    | non => cases ry; exact PySem.EqNone.eq_str_none (fin_bl I q (by simp))
    | bl j => cases ry; exact PySem.EqMixed.eq_str_bool (fin_bl I q (by simp))
    | int j => obtain ⟨t', rfl⟩ := ry; exact PySem.EqMixed.eq_str_int (fin_bl I q (by simp))
    | str j => obtain ⟨t', rfl⟩ := ry; exact eq_str (fin_bl I q dec_str)
    | _ => exact absurd (show false = true from hs) Bool.false_ne_true
  | byt i =>
    obtain ⟨t, rfl⟩ := rx
    cases y with
    | byt j => obtain ⟨t', rfl⟩ := ry; exact PySem.W.eq_bytes (fin_bl I q dec_byt)
    | _ => exact absurd (show false = true from hs) Bool.false_ne_true
  | _ => cases y <;> exact absurd (show false = true from hs) Bool.false_ne_true
theorem op_ne : OpR X (compareOp .NotEq) rNe := by
  intro pins s σ H x y v u Q I rx ry h
  obtain ⟨hs, q⟩ := h
  cases x with
  | non =>
    cases rx
    cases y with
    | non => cases ry; exact PySem.EqNone.ne_none_none (fin_bl I q (by simp))
    | bl j => cases ry; exact PySem.EqNone.ne_none_bool (fin_bl I q (by simp))
    | int j => obtain ⟨t', rfl⟩ := ry; exact PySem.EqNone.ne_none_int (fin_bl I q (by simp))
    | str j => obtain ⟨t', rfl⟩ := ry; exact PySem.EqNone.ne_none_str (fin_bl I q (by simp))
    | _ => exact absurd (show false = true from hs) Bool.false_ne_true
  | bl i =>
    cases rx
    cases y with
    | non => cases ry; exact PySem.EqNone.ne_bool_none (fin_bl I q (by simp))
    | bl j => cases ry; exact ne_bool (fin_bl I q (congrArg not dec_bl))
    | str j => obtain ⟨t', rfl⟩ := ry; exact PySem.EqMixed.ne_bool_str (fin_bl I q (by simp))
    | _ => exact absurd (show false = true from hs) Bool.false_ne_true
  | int i =>
    obtain ⟨t, rfl⟩ := rx
    cases y with
    | non => cases ry; exact PySem.EqNone.ne_int_none (fin_bl I q (by simp))
    | int j => obtain ⟨t', rfl⟩ := ry; exact ne_int (fin_bl I q (congrArg not dec_int))
    | str j => obtain ⟨t', rfl⟩ := ry; exact PySem.EqMixed.ne_int_str (fin_bl I q (by simp))
    | _ => exact absurd (show false = true from hs) Bool.false_ne_true
  | str i =>
    obtain ⟨t, rfl⟩ := rx
    cases y with
    | non => cases ry; exact PySem.EqNone.ne_str_none (fin_bl I q (by simp))
    | bl j => cases ry; exact PySem.EqMixed.ne_str_bool (fin_bl I q (by simp))
    | int j => obtain ⟨t', rfl⟩ := ry; exact PySem.EqMixed.ne_str_int (fin_bl I q (by simp))
    | str j => obtain ⟨t', rfl⟩ := ry; exact ne_str (fin_bl I q (congrArg not dec_str))
    | _ => exact absurd (show false = true from hs) Bool.false_ne_true
  | byt i =>
    obtain ⟨t, rfl⟩ := rx
    cases y with
    | byt j => obtain ⟨t', rfl⟩ := ry; exact PySem.W.ne_bytes (fin_bl I q (congrArg not dec_byt))
    | _ => exact absurd (show false = true from hs) Bool.false_ne_true
  | _ => cases y <;> exact absurd (show false = true from hs) Bool.false_ne_true

theorem op_lt : OpR X (compareOp .Lt) (rI0 fun i j => .bl (decide (i < j))) := opB0 fun _ _ _ _ _ _ _ q => lt_int q
theorem op_le : OpR X (compareOp .LtE) (rI0 fun i j => .bl (decide (i ≤ j))) := opB0 fun _ _ _ _ _ _ _ q => le_int q
theorem op_gt : OpR X (compareOp .Gt) (rI0 fun i j => .bl (decide (j < i))) := opB0 fun _ _ _ _ _ _ _ q => gt_int q
theorem op_ge : OpR X (compareOp .GtE) (rI0 fun i j => .bl (decide (j ≤ i))) := opB0 fun _ _ _ _ _ _ _ q => ge_int q
/-- the one string within the other -/
theorem op_in_str : OpR X (compareOp .In) (fun x y H Q => ∃ i j, x = .str i ∧ y = .str j ∧ Q (.bl (!(Builtin.Str.occurrences j i 0 j.length 1).isEmpty)) H) := by
  intro pins s σ H x y v u Q I rx ry h
  obtain ⟨i, j, rfl, rfl, q⟩ := h
  obtain ⟨t, rfl⟩ := rx
  obtain ⟨t', rfl⟩ := ry
  exact in_str (fin_bl I q rfl)

theorem op_notin_str : OpR X (compareOp .NotIn) (fun x y H Q => ∃ i j, x = .str i ∧ y = .str j ∧ Q (.bl (!(!(Builtin.Str.occurrences j i 0 j.length 1).isEmpty))) H) := by
  intro pins s σ H x y v u Q I rx ry h
  obtain ⟨i, j, rfl, rfl, q⟩ := h
  obtain ⟨t, rfl⟩ := rx
  obtain ⟨t', rfl⟩ := ry
  exact notIn_str (fin_bl I q rfl)
/-- two rules for one operation: by cases -/
theorem OpR.or {f : Value → Value → Sem Value} {r r' : R2} (h : OpR X f r) (h' : OpR X f r') : OpR X f (fun x y H Q => r x y H Q ∨ r' x y H Q) := by
  intro pins s σ H x y v u Q I rx ry q
  rcases q with q | q
  · exact h pins s σ H x y v u Q I rx ry q
  · exact h' pins s σ H x y v u Q I rx ry q

theorem nomark (b : Expr) {op : CmpOp} (h : op ≠ .In := by decide) (h2 : op ≠ .NotIn := by decide) : behindInMarks op b = false := by
  have e1 : (op == CmpOp.In) = false := by cases op <;> first | rfl | exact absurd rfl h
  have e2 : (op == CmpOp.NotIn) = false := by cases op <;> first | rfl | exact absurd rfl h2
  cases b <;> simp [behindInMarks, e1, e2]
/-- a comparison as a value; hm: nomark b, or (for in, not in) by with_unfolding_all rfl -/
theorem pe_cmpR {op : CmpOp} {r : R2} (ho : OpR X (compareOp op) r) (ha : PE X a ta) (hb : PE X b tb) (hm : behindInMarks op b = false) : PE X (.Compare a [op] [b] pos) (tOp r ta tb) := by
  intro pins s σ H Q I h
  exact wpAny_Compare1 (binT ha hb I h fun v u s2 x y H2 I2 rx ry q => ho pins s2 σ H2 x y v u Q I2 rx ry q) hm
/-- a reading of a value as a test -/
def tTest (t : TE) : TT := fun σ H Q => t σ H fun x H' => ∃ k, x = .bl k ∧ Q k H'
theorem pt_cmpR {op : CmpOp} {r : R2} (ho : OpR X (compareOp op) r) (ha : PE X a ta) (hb : PE X b tb) (hm : behindInMarks op b = false) : PT X (.Compare a [op] [b] pos) (tTest (tOp r ta tb)) := by
  intro pins s σ H Q I h
  refine wpAny_isTrue_Compare1 (thn (ha pins s σ H _ I h) fun v s1 ⟨x, H1, I1, r1, q1⟩ => thn (hb pins s1 σ H1 _ I1 q1) fun u s2 ⟨y, H2, I2, r2, q2⟩ =>
    thn (ho pins s2 σ H2 x y v u _ I2 r1 r2 q2) fun c s3 ⟨z, H3, I3, r3, k, e, q3⟩ => ?_) hm
  subst e
  cases r3
  exact wpAny_truthy_bool ⟨H3, I3, q3⟩
/-- a op1 b op2 c -/
def tChain (r r' : R2) (ta tb tc : TE) : TE := fun σ H Q => ta σ H fun x H1 => tb σ H1 fun y H2 => r x y H2 fun z H3 => ∃ k, z = .bl k ∧
  (if k = true then tc σ H3 fun w' H4 => r' y w' H4 Q else Q (.bl false) H3)
theorem pt_chain {op op' : CmpOp} {r r' : R2} (ho : OpR X (compareOp op) r) (ho' : OpR X (compareOp op') r') (ha : PE X a ta) (hb : PE X b tb) (hc : PE X c tc)
    (hm : lastMarks [op, op'] [b, c] = false := by with_unfolding_all rfl) : PT X (.Compare a [op, op'] [b, c] pos) (tTest (tChain r r' ta tb tc)) := by
  intro pins s σ H Q I h
  refine isTrue_chain (thn (ha pins s σ H _ I h) fun v s1 ⟨x, H1, I1, r1, q1⟩ => test_link (thn (hb pins s1 σ H1 _ I1 q1) fun u s2 ⟨y, H2, I2, r2, q2⟩ =>
    thn (ho pins s2 σ H2 x y v u _ I2 r1 r2 q2) fun d s3 ⟨z, H3, I3, r3, k, e, q3⟩ => ?_)) hm
  subst e
  cases r3
  refine wpAny_truthy_bool ?_
  cases k with
  | false =>
    obtain ⟨k', e', q'⟩ := q3
    cases e'
    exact ite_ff ⟨H3, I3, q'⟩
  | true =>
    refine ite_tt (test_last (thn (hc pins s3 σ H3 _ I3 q3) fun w' s4 ⟨z', H4, I4, r4, q4⟩ => thn (ho' pins s4 σ H4 y z' u w' _ I4 r2 r4 q4) fun d' s5 ⟨z2, H5, I5, r5, k2, e2, q5⟩ => ?_))
    subst e2
    cases r5
    exact wpAny_truthy_bool ⟨H5, I5, q5⟩

/-! ### truth -/
/-- a value's truth by the abstract heap -/
def TruV (K : PySem.W.Frag) (x : V) (H : Hp) (k : Bool) : Prop :=
  match x with
  | .non => k = false
  | .bl b => k = b
  | .int i => k = (i != 0)
  | .str y => y.length ≤ sizeLine ∧ k = ((y.length : Int) != 0)
  | .byt y => y.size ≤ sizeLine ∧ k = ((y.size : Int) != 0)
  | .ref p => (∃ xs, SqL K H p xs ∧ k = !xs.isEmpty) ∨ (∃ xs, SqT K H p xs ∧ k = !xs.isEmpty) ∨ ∃ kvs, H p = some (.dK kvs) ∧ k = !kvs.isEmpty
  | _ => False
theorem isEmpty_kv {κ : Type} {kvs : List (κ × V)} {vs : List (κ × Value)} (r : KV kvs vs) : (!vs.isEmpty) = !kvs.isEmpty := by
  cases r <;> rfl
theorem isEmpty_of {xs : List V} {its : List Value} (r : Vals xs its) : (!its.toArray.isEmpty) = !xs.isEmpty := by
  cases r <;> simp
theorem line63 : (sizeLine : Nat) < 2 ^ 63 := by rw [sizeLine_eq]; decide
theorem tru_ok : TruR X (fun x H Q => ∃ k, TruV X.K x H k ∧ Q k H) := by
  intro pins s σ H x v Q I rx h
  obtain ⟨k, e, q⟩ := h
  have hl := line63
  have hs : sizeLine = 16777216 := sizeLine_eq
  cases x with
  | non =>
    cases rx
    have e' : k = false := e
    subst e'
    exact truthy_none ⟨H, I, q⟩
  | bl b =>
    cases rx
    have e' : k = b := e
    subst e'
    exact wpAny_truthy_bool ⟨H, I, q⟩
  | int i =>
    obtain ⟨t, rfl⟩ := rx
    have e' : k = (i != 0) := e
    subst e'
    exact PySem.P.truthy_int ⟨H, I, q⟩
  | str y =>
    obtain ⟨t, rfl⟩ := rx
    obtain ⟨hy, e'⟩ : y.length ≤ sizeLine ∧ k = ((y.length : Int) != 0) := e
    subst e'
    exact PySem.P.truthy_str (by omega) ⟨H, I.tok _, q⟩
  | byt y =>
    obtain ⟨t, rfl⟩ := rx
    obtain ⟨hy, e'⟩ : y.size ≤ sizeLine ∧ k = ((y.size : Int) != 0) := e
    subst e'
    exact PySem.W.truthy_bytes (by omega) ⟨H, I.tok _, q⟩
  | ref p =>
    cases rx
    have e' : (∃ xs, SqL X.K H p xs ∧ k = !xs.isEmpty) ∨ (∃ xs, SqT X.K H p xs ∧ k = !xs.isEmpty) ∨ ∃ kvs, H p = some (.dK kvs) ∧ k = !kvs.isEmpty := e
    rcases e' with ⟨xs, hx, e'⟩ | ⟨xs, hx, e'⟩ | ⟨kvs, hx, e'⟩
    · subst e'
      obtain ⟨its, r, pl, hz⟩ := I.list hx
      have hlen := r.length
      exact wpAny_truthy_list pl.isList (by simp only [List.size_toArray]; omega) ⟨H, I.tok _, by rw [isEmpty_of r]; exact q⟩
    · subst e'
      obtain ⟨its, r, pl, hz⟩ := I.tuple hx
      have hlen := r.length
      exact truthy_tuple pl (by simp only [List.size_toArray]; omega) ⟨H, I.tok _, by rw [isEmpty_of r]; exact q⟩
    · subst e'
      obtain ⟨hz, hS, vs, r, m⟩ : kvs.length ≤ sizeLine ∧ (p == sysModules) = false ∧ ∃ vs, KV kvs vs ∧ s.heap.DictOf (mixKind X.prog X.w) p vs := I.hok p _ hx
      have hlen : kvs.length = vs.length := Paired.length r
      exact wpAny_truthy_dict hS m (by omega) ⟨H, I.tok _, by rw [isEmpty_kv r]; exact q⟩
  | _ => exact (show False from e).elim
/-- any expression whose test is its value's truth (a name, a call, a subscript, a field ..: he by fun _ => rfl) -/
theorem pt_truth (ha : PE X a ta) (he : ∀ whole, isTrue a X.env whole = (do let v ← whole; standAt a.pos; holding [v] (truthy v))) :
    PT X a (fun σ H Q => ta σ H fun x H' => ∃ k, TruV X.K x H' k ∧ Q k H') := by
  intro pins s σ H Q I h
  exact isTrue_plain (thn (ha pins s σ H _ I h) fun v s1 ⟨x, H1, I1, r1, q1⟩ => tru_ok pins s1 σ H1 x v Q I1 r1 q1) (he _)

/-! ### strs and bytes -/
theorem op_add_str : OpR X (binaryOp .Add) (fun x y H Q => ∃ i j, x = .str i ∧ y = .str j ∧ i.length + j.length ≤ sizeLine ∧ Q (.str (i ++ j)) H) := by
  intro pins s σ H x y v u Q I rx ry h
  obtain ⟨i, j, rfl, rfl, hz, q⟩ := h
  obtain ⟨t, rfl⟩ := rx
  obtain ⟨t', rfl⟩ := ry
  exact add_str (fun t' tk => ⟨.str (i ++ j), H, I.tok _, ⟨_, rfl⟩, q⟩) hz
/-! ### scalar builtins, by CallR -/
theorem vals1 {x : V} {us : List Value} (r : Vals [x] us) : ∃ u, us = [u] ∧ RelV x u := by
  cases r with
  | cons r1 r2 => cases r2; exact ⟨_, rfl, r1⟩
theorem vals2 {x y : V} {us : List Value} (r : Vals [x, y] us) : ∃ u w', us = [u, w'] ∧ RelV x u ∧ RelV y w' := by
  cases r with
  | cons r1 r2 =>
    cases r2 with
    | cons r3 r4 => cases r4; exact ⟨_, _, rfl, r1, r3⟩
theorem call_int1 : CallR X (.type "int") (fun xs H Q => (∃ i, xs = [.int i] ∧ Q (.int i) H) ∨ ∃ k, xs = [.bl k] ∧ Q (.int (if k then 1 else 0)) H) := by
  intro pins s σ H xs us Q I r h
  rcases h with ⟨i, rfl, q⟩ | ⟨k, rfl, q⟩
  · obtain ⟨u, rfl, t, rfl⟩ := vals1 r
    exact call_int_int ⟨.int i, H, I, ⟨_, rfl⟩, q⟩
  · obtain ⟨u, rfl, r1⟩ := vals1 r
    cases r1
    exact call_int_bool ⟨.int (if k then 1 else 0), H, I.tok _, ⟨_, rfl⟩, q⟩
end
end L2

namespace L2
open PySem PySem.Spec PyProof.Rows

/-! ### an instance, its attributes a map -/
structure ObjM (h : Heap) (x dx C : Addr) (mA : Str → Option Value) : Prop where
  obj : h.get? x = some (PySem.W.instObj C dx)
  ns : h.Ns1 dx mA
  ne : dx ≠ x

theorem lookIn_ns {h : Heap} {dx : Addr} {mA : Str → Option Value} (n : h.Ns1 dx mA) : ∃ od, h.get? dx = some od ∧ ∀ name, PySem.W.lookIn name od = some (mA name) := by
  obtain ⟨o, es, ep, ho, hd, hk, _, hm⟩ := n
  refine ⟨o, ho, fun name => ?_⟩
  have e := hm name
  unfold nsFind findBy at e
  rw [← Array.find?_toList] at e
  unfold PySem.W.lookIn
  rw [hd]
  dsimp only
  split
  · rename_i y q
    rw [q] at e
    exact congrArg some e
  · rename_i q
    rw [q] at e
    have a : es.toList.any (·.refKey) = false := by
      rw [List.any_eq_false]
      intro y hy
      obtain ⟨z, t, hkey⟩ := hk y (Array.mem_toList_iff.mp hy)
      simp [DictEntry.refKey, hkey]
    have a' : ¬ es.toList.any (·.refKey) = true := by rw [a]; exact Bool.false_ne_true
    rw [if_neg a']
    exact congrArg some e

theorem ObjM.look {h : Heap} {x dx C : Addr} {mA : Str → Option Value} (I : ObjM h x dx C mA) : ∃ od, PySem.W.InstAt h x (PySem.W.instObj C dx) C (some od) ∧ ∀ name, PySem.W.lookIn name od = some (mA name) :=
  let ⟨od, ho, hl⟩ := lookIn_ns I.ns
  ⟨od, ⟨I.obj, rfl, rfl, ho⟩, hl⟩

section
variable {prog : Program} {w : World} {A : Around} {E : Value → Shared → Prop} {s : Shared} {K : PySem.W.Frag} {x dx C f : Addr} {mA : Str → Option Value} {name : Str} {v : Value}

end

/-! ### the attributes as a list of pairs -/
section
variable {P : Program} {w : World} {H H' : Hp} {h h' : Heap} {a C dx : Addr} {fs fs' : List (Str × V)}
end

/-! ### what of the text a class must have -/
structure Cls (K : PySem.W.Frag) (C : Addr) : Prop where
  pg : PySem.W.plainGet K C Str.empty = true
  hd : PySem.W.hasDictIn K C = true
  po : PySem.W.plainOver K C = true
  sa : PySem.W.findIn K (.ref C) "__setattr__" = some (some (.builtin "object.__setattr__"))
theorem Cls.get {K : PySem.W.Frag} {C : Addr} (c : Cls K C) (f : Str) : PySem.W.plainGet K C f = true := c.pg
/-- a method: a plain def of the class or of one above it -/
structure Meth (K : PySem.W.Frag) (C : Addr) (m : Str) (f : Addr) : Prop where
  at_ : PySem.W.findIn K (.ref C) m = some (some (.ref f))
  fn : PySem.W.isFn K (.ref f) = true
  kp : PySem.W.keepIn K (.ref f) = true

section
variable {X : Cx} {pins : List (Addr × Obj)} {σ : St} {H : Hp} {s : Shared} {a C dx : Addr} {fs : List (Str × V)} {f : Str} {v : V} {A : Around} {E : Value → Shared → Prop}

/-- a new instance, tracked, without attributes -/
theorem Inv.made (I : Inv X pins σ H s) : Inv X pins σ (upd (upd H s.heap.objs.size (.own (s.heap.objs.size + 1))) (s.heap.objs.size + 1) (.ins C s.heap.objs.size []))
    { s with heap := (s.heap.push PySem.W.emptyDict).push (PySem.W.instObj C s.heap.objs.size) } := by
  have e1 : (s.heap.push PySem.W.emptyDict).get? s.heap.objs.size = some PySem.W.emptyDict := Heap.get?_push_size s.heap rfl
  have e2 : ((s.heap.push PySem.W.emptyDict).push (PySem.W.instObj C s.heap.objs.size)).get? (s.heap.objs.size + 1) = some (PySem.W.instObj C s.heap.objs.size) := by
    have := Heap.get?_push_size (s.heap.push PySem.W.emptyDict) (o := PySem.W.instObj C s.heap.objs.size) rfl
    rwa [Heap.size_push] at this
  have e3 : (s.heap.push PySem.W.emptyDict).Ns s.heap.objs.size (fun _ => none) := ⟨PySem.W.emptyDict, #[], _, e1, rfl, (fun e he => absurd he (by simp)), fun _ => rfl⟩
  have I1 := I.laid (a := s.heap.objs.size) (o := .own (s.heap.objs.size + 1)) (h' := s.heap.push PySem.W.emptyDict) (t' := s.toks) (fun b u q => Heap.get?_push_of_some _ q) (Nat.le_refl _) ⟨_, e1⟩
  refine I1.laid (a := s.heap.objs.size + 1) (o := .ins C s.heap.objs.size []) (t' := s.toks) (fun b u q => Heap.get?_push_of_some _ q) (Nat.le_of_eq (Heap.size_push _ _)) ?_
  have ne : s.heap.objs.size ≠ s.heap.objs.size + 1 := Nat.ne_of_lt (Nat.lt_succ_self _)
  refine ⟨by rw [upd_ne ne, upd_same], Nat.zero_le _, ne, e2, fun _ => none, (Heap.Ns1.of_empty e3).at fun o q => Heap.get?_push_of_some _ q, fun _ => True.intro, fun y hy => absurd rfl hy⟩

end

/-! ### readings and rules -/
section
variable {X : Cx} {o e value : Expr} {f : Str} {pos pos' tpos : Pos} {ta tv : TE}
end

/-! ### isinstance -/
section
variable {X : Cx} {pins : List (Addr × Obj)} {σ : St} {H : Hp} {s : Shared} {A : Around} {E : Value → Shared → Prop} {Q : Value → Shared → Prop} {c : Value} {b : Bool}
end
end L2

namespace L2
open PySem PySem.Spec PyProof.Rows

/-! ### room -/
structure Room (k : Nat) (A : Around) : Prop where
  hd : A.handled = none
  dp : A.depth + 3 * k + 5 < recursionLimit
  un : A.units + 16 * k + 200 < cLine
theorem Room.mono {j k : Nat} {A : Around} (r : Room k A) (h : j ≤ k) : Room j A := ⟨r.hd, by have := r.dp; omega, by have := r.un; omega⟩
theorem Room.deeper {k : Nat} {A : Around} (r : Room (k + 1) A) (env : Env) : Room k (A.deeper env) :=
  ⟨r.hd, by have := r.dp; show A.depth + 1 + 3 * k + 5 < _; omega, by have := r.un; show A.units + 3 + 16 * k + 200 < _; omega⟩
theorem Room.in1 {k : Nat} {A : Around} (r : Room (k + 1) A) : Room k A.in1 :=
  ⟨r.hd, by have := r.dp; show A.depth + 3 * k + 5 < _; omega, by have := r.un; show A.units + 1 + 16 * k + 200 < _; omega⟩
theorem make_depth {A : Around} {C : Addr} {us : List Value} {kw : List (Str × Value)} : (A.under (.builtin "type.__call__" ⟨.ref C :: us, kw⟩)).depth = A.depth + 1 := by
  first | rfl | simp [Around.under, Code.weight, Code.isCreation, Code.isGuard, Code.isCaller, Code.frames, Code.isFrame, guardIds]
theorem make_units {A : Around} {C : Addr} {us : List Value} {kw : List (Str × Value)} : (A.under (.builtin "type.__call__" ⟨.ref C :: us, kw⟩)).units = A.units + 1 := by
  first | rfl | simp [Around.under, Code.cUnits, Code.frames, Code.isFrame]
theorem Room.make {k : Nat} {A : Around} (r : Room (k + 1) A) (C : Addr) (us : List Value) (kw : List (Str × Value)) : Room k (A.under (.builtin "type.__call__" ⟨.ref C :: us, kw⟩)) :=
  ⟨r.hd, by have := r.dp; rw [make_depth]; omega, by have := r.un; rw [make_units]; omega⟩
theorem Room.depth {k : Nat} {A : Around} (r : Room k A) : A.depth < recursionLimit := by have := r.dp; omega
theorem Room.units {k : Nat} {A : Around} (r : Room k A) : A.units + 64 < cLine := by have := r.un; omega
/-! ### argument lists and displays -/
def tNil : TA := fun _ H Q => Q [] H
def tCons (ta : TE) (tr : TA) : TA := fun σ H Q => ta σ H fun x H1 => tr σ H1 fun xs H2 => Q (x :: xs) H2
section
variable {X : Cx} {e : Expr} {es : List Expr} {te : TE} {t : TA} {pos : Pos}
theorem pa_nil : PA X [] tNil := fun _ _ _ _ H Q I h => Calls.spliced_nil ⟨[], H, I, .nil, h⟩
theorem pa_cons (ha : PE X e te) (hr : PA X es t) (hs : starEach (e :: es) X.env = (false, eval e X.env) :: starEach es X.env := by rfl) : PA X (e :: es) (tCons te t) := by
  intro pos pins s σ H Q I h
  rw [hs]
  show wpAny _ _ (spliced ((false, eval e X.env) :: backTo pos (starEach es X.env))) _ _ s
  refine Calls.spliced_cons (thn (ha pins s σ H _ I h) fun u s1 ⟨x, H1, I1, r1, q1⟩ => ?_)
  exact thn (hr pos pins s1 σ H1 _ I1 q1) fun us s2 ⟨xs, H2, I2, r2, q2⟩ => ⟨x :: xs, H2, I2, .cons r1 r2, q2⟩

/-- a tuple, a list of written items -/
def tTup (t : TA) : TE := fun σ H Q => t σ H fun xs H1 => xs.length ≤ sizeLine ∧ ∀ p, H1 p = none → Q (.ref p) (upd H1 p (.tup xs))
def tLst (t : TA) : TE := fun σ H Q => t σ H fun xs H1 => xs.length ≤ sizeLine ∧ ∀ p, H1 p = none → Q (.ref p) (upd H1 p (.lst xs))
theorem pe_tup {x1} (h : PA X es t) : PE X (.Tuple es x1 pos) (tTup t) := by
  intro pins s σ H Q I hq
  refine wpAny_Tuple_spliced (thn (h pos pins s σ H _ I hq) fun us s1 ⟨xs, H1, I1, r, z, q⟩ => ⟨by rw [← r.length]; exact z, ?_⟩)
  have hf : H1 s1.heap.objs.size = none := I1.hok.fresh (Nat.le_refl _)
  refine ⟨.ref s1.heap.objs.size, upd H1 s1.heap.objs.size (.tup xs), I1.laid (t' := s1.toks) (fun b u e => Heap.get?_push_of_some _ e) (Nat.le_refl _) ?_, rfl, q _ hf⟩
  exact ⟨z, us, r, ⟨_, Heap.get?_push_size _ rfl, rfl, _, rfl⟩⟩
theorem pe_lst (h : PA X es t) : PE X (.List es pos) (tLst t) := by
  intro pins s σ H Q I hq
  refine wpAny_List_spliced (thn (h pos pins s σ H _ I hq) fun us s1 ⟨xs, H1, I1, r, z, q⟩ => ⟨by rw [← r.length]; exact z, ?_⟩)
  have hf : H1 s1.heap.objs.size = none := I1.hok.fresh (Nat.le_refl _)
  refine ⟨.ref s1.heap.objs.size, upd H1 s1.heap.objs.size (.lst xs), I1.laid (t' := s1.toks) (fun b u e => Heap.get?_push_of_some _ e) (Nat.le_refl _) ?_, rfl, q _ hf⟩
  exact ⟨z, us, 0, r, Heap.get?_push_size _ rfl⟩
end

/-! ### what a def promises -/
/-- a def's promise: the bound arguments in the parameters' order, the heap, the wanted end, the wanted exception -/
abbrev Sp := List V → Hp → VK → XK → Prop
/-- how an exception lies behind a call (file 08 gives it): the callers' frames, abstract heap and state ahead of the call, the wish, the exception, the state -/
abbrev CXT := List Env → Hp → Shared → XK → Value → Shared → Prop

/-- the state at a call -/
structure Env0 (P : Program) (w : World) (K : PySem.W.Frag) (mg : Str → Option Value) (base : Heap) (A : Around) (outer : List Env) (s : Shared) (H : Hp) : Prop where
  frames : A.frames = some outer
  mod : Mod K mg base
  bs : ∀ b o, base.get? b = some o → s.heap.get? b = some o ∧ H b = none
  bsz : base.objs.size ≤ s.heap.objs.size
  funs : s.heap.FunFrames base outer
  frf : ∀ b ∈ frs outer, H b = none
  hok : HOk P w H s.heap
  bare : AllBare s.gens
/-- a call's end -/
def CE (outer : List Env) (P : Program) (w : World) (H : Hp) (s : Shared) (Q : VK) (u : Value) (s' : Shared) : Prop :=
  ∃ v H', s'.os = s.os ∧ AllBare s'.gens ∧ Un (frs outer) [] H H' s.heap s'.heap ∧ HOk P w H' s'.heap ∧ RelV v u ∧ Q v H'
def CR (CX : CXT) (outer : List Env) (P : Program) (w : World) (H : Hp) (s : Shared) (Q : VK) (E : XK) (r : Result) (s' : Shared) : Prop :=
  match r with
  | .ok (.ret u) => CE outer P w H s Q u s'
  | .ok _ => False
  | .error e => CX outer H s E e s'
structure FnOk (P : Program) (w : World) (K : PySem.W.Frag) (mg : Str → Option Value) (base : Heap) (CX : CXT) (k : Nat) (f : Addr) (fd : FuncData) (ps : List Str) (sp : Sp) : Prop where
  len : ∀ vs H Q E, sp vs H Q E → vs.length = ps.length
  run : ∀ (A : Around) (outer : List Env) (s : Shared) (H : Hp) (args : Args) (us : List Value) (vs : List V) (Q : VK) (E : XK), Room k A → Env0 P w K mg base A outer s H → BindsTo s fd args (ps.zip us) → Vals vs us → sp vs H Q E →
    codeAny (model P w) A (.call (.ref f) args) (CR CX outer P w H s Q E) s
theorem FnOk.mono {P : Program} {w : World} {K : PySem.W.Frag} {mg : Str → Option Value} {base : Heap} {CX : CXT} {j k : Nat} {f : Addr} {fd : FuncData} {ps : List Str} {sp : Sp} (F : FnOk P w K mg base CX j f fd ps sp) (h : j ≤ k) :
    FnOk P w K mg base CX k f fd ps sp := ⟨F.len, fun A outer s H args us vs Q E hr => F.run A outer s H args us vs Q E (hr.mono h)⟩
/-- a weaker promise -/
theorem FnOk.imp {P : Program} {w : World} {K : PySem.W.Frag} {mg : Str → Option Value} {base : Heap} {CX : CXT} {k : Nat} {f : Addr} {fd : FuncData} {ps : List Str} {sp sp' : Sp} (F : FnOk P w K mg base CX k f fd ps sp)
    (h : ∀ vs H Q E, sp' vs H Q E → sp vs H Q E) : FnOk P w K mg base CX k f fd ps sp' :=
  ⟨fun vs H Q E q => F.len vs H Q E (h _ _ _ _ q), fun A outer s H args us vs Q E hr he hb hv hs => F.run A outer s H args us vs Q E hr he hb hv (h _ _ _ _ hs)⟩

theorem Env0.make {P : Program} {w : World} {K : PySem.W.Frag} {mg : Str → Option Value} {base : Heap} {A : Around} {outer : List Env} {s : Shared} {H : Hp} (e : Env0 P w K mg base A outer s H) (C : Addr) (us : List Value) (kw : List (Str × Value)) :
    Env0 P w K mg base (A.under (.builtin "type.__call__" ⟨.ref C :: us, kw⟩)) outer s H := ⟨by first | exact e.frames | (simpa [Around.under, Code.envs, Code.isFrame, pushEnvs] using e.frames), e.mod, e.bs, e.bsz, e.funs, e.frf, e.hok, e.bare⟩
theorem Env0.in1 {P : Program} {w : World} {K : PySem.W.Frag} {mg : Str → Option Value} {base : Heap} {A : Around} {outer : List Env} {s : Shared} {H : Hp} (e : Env0 P w K mg base A outer s H) :
    Env0 P w K mg base A.in1 outer s H := ⟨e.frames, e.mod, e.bs, e.bsz, e.funs, e.frf, e.hok, e.bare⟩

section
variable {X : Cx} {pins : List (Addr × Obj)} {σ : St} {H : Hp} {s s' : Shared}
/-- from a body: what a callee wants -/
theorem Inv.env0 (I : Inv X pins σ H s) : Env0 X.prog X.w X.K X.mg X.base X.A X.stack s H :=
  ⟨I.ok.frames, I.ok.mod, I.bs, Nat.le_trans I.ok.bsz I.sz, I.stack, I.stkFree, I.hok, I.bare⟩
/-- behind a call -/
theorem Inv.after {Q : VK} {u : Value} (I : Inv X pins σ H s) (h : CE X.stack X.prog X.w H s Q u s') : EP X pins σ Q u s' := by
  obtain ⟨v, H', os, bare, un, hok, r, q⟩ := h
  obtain ⟨hh, g, d, t, os'⟩ := s'
  obtain rfl : os' = s.os := os
  exact ⟨v, H', I.call (h' := hh) (g' := g) (d' := d) (t' := t) (ch := []) un hok bare (fun b z => absurd z (by simp)), r, q⟩
end

/-! ### calls -/
/-- f(..): the written arguments, then the defaults dvs; E: what is wanted of an exception -/
def tCall (sp : Sp) (dvs : List V) (E : XK) (t : TA) : TE := fun σ H Q => t σ H fun vs H1 => sp (vs ++ dvs) H1 Q E
/-- how the parameters are bound: us the positional arguments, kw the keywords' values by name, ds the defaults that fill up -/
def Binds (K : PySem.W.Frag) (fd : FuncData) (ps : List Str) (ds : List Value) : Prop :=
  ∀ (s : Shared) (us : List Value), K.In s.heap → (us ++ ds).length = ps.length → BindsTo s fd ⟨us, []⟩ (ps.zip (us ++ ds))
/-- every parameter is given -/
theorem Binds.all {K : PySem.W.Frag} {fd : FuncData} {ps : List Str} (h : ∀ us : List Value, us.length = ps.length → bindArgs fd ⟨us, []⟩ = pure (ps.zip us)) : Binds K fd ps [] := fun s us _ hl => by
  rw [List.append_nil] at hl ⊢
  exact .of_eq (h us hl)

/-- an exception of a callee reaches what this body wants of exceptions -/
def Passes (CX : CXT) (X : Cx) (E : XK) : Prop := ∀ (pins : List (Addr × Obj)) (σ : St) (H : Hp) (s : Shared) (e : Value) (s' : Shared), Inv X pins σ H s → CX X.stack H s E e s' → X.xe e s'

section
variable {X : Cx} {CX : CXT} {k : Nat} {f C : Addr} {fd : FuncData} {ps : List Str} {sp : Sp} {dvs : List V} {ds : List Value} {E : XK} {x m : Str} {p pos apos : Pos} {e o : Expr} {es : List Expr} {ta : TE} {t : TA}

/-- the callee runs -/
theorem run_fn {pins : List (Addr × Obj)} {σ : St} {H : Hp} {s : Shared} {Q : VK} {us : List Value} {vs : List V} (F : FnOk X.prog X.w X.K X.mg X.base CX k f fd ps sp) (hr : Room k X.A) (hb : Binds X.K fd ps ds) (hd : Vals dvs ds) (hx : Passes CX X E)
    (I : Inv X pins σ H s) (r : Vals vs us) (h : sp (vs ++ dvs) H Q E) : wpAny (model X.prog X.w) X.A (call (.ref f) us) (EP X pins σ Q) X.xe s := by
  have r2 : Vals (vs ++ dvs) (us ++ ds) := r.append hd
  have hl : (us ++ ds).length = ps.length := by rw [← r2.length]; exact F.len _ _ _ _ h
  refine wpAny_call (codeAny_mono (F.run X.A X.stack s H ⟨us, []⟩ (us ++ ds) (vs ++ dvs) Q E hr I.env0 (hb s us I.kIn hl) r2 h) fun r s' hq => ?_)
  cases r with
  | error e => exact hx pins σ H s e s' I hq
  | ok fl =>
    cases fl with
    | ret u => exact I.after hq
    | next => exact False.elim hq
    | brk => exact False.elim hq
    | cont => exact False.elim hq

theorem pe_call (F : FnOk X.prog X.w X.K X.mg X.base CX k f fd ps sp) (hr : Room k X.A) (hg : Gl X x) (hm : X.mg x = some (.ref f)) (hk : PySem.W.keepIn X.K (.ref f) = true) (hb : Binds X.K fd ps ds) (hd : Vals dvs ds) (hx : Passes CX X E)
    (ha : PA X (e :: es) t) (hdb : (x == ("__debug__" : Str)) = false := by decide) (he : starEach (e :: es) X.env = (false, eval e X.env) :: starEach es X.env := by rfl) (hpl : (backTo pos (starEach es X.env)).any (·.1) = false := by rfl) :
    PE X (.Call (.Name x p) (e :: es) [] pos) (tCall sp dvs E t) := by
  intro pins s σ H Q I h
  refine wpAny_Call_Name_kw (ld_glob I hg hm ?_ hdb)
  refine PySem.W.callWith_K (h₀ := X.base) I.ok.mod.kin hk (thn (ha pos pins s σ H _ I h) fun us s1 ⟨vs, H1, I1, r, q⟩ => ⟨I1.kIn, ?_⟩) he hpl
  exact run_fn F hr hb hd hx I1 r q
end

/-! ### keywords -/
section
variable {X : Cx} {CX : CXT} {k : Nat} {f C : Addr} {fd : FuncData} {ps ks : List Str} {sp : Sp} {E : XK} {x m : Str} {p pos apos kpos : Pos} {e o : Expr} {es : List Expr} {kws : List Keyword} {te ta : TE} {t tk : TA} {nm : Option Str}
variable {g : List Value → List Value → List Value} {gV : List V → List V → List V}
end

/-! ### a def's body keeps its promise -/
/-- names: the parameters first -/
structure FnScope (N P : List Str) (sc : Scope) : Prop where
  kind : sc.kind = .function
  co : sc.isCoroutine = false
  gen : sc.isGenerator = false
  nd : N.Nodup
  pre : N.take P.length = P
  par : ∀ x ∈ P, sc.names.lookup x = some .local ∨ sc.names.lookup x = some .cell
  nofree : ∀ y ∈ sc.names, y.2 ≠ .free

theorem bindL_out {kindOf : Str → Option NameKind} {x : Str} : ∀ {binds : List (Str × Value)} {m : Str → Option Value}, (∀ v, (x, v) ∉ binds) → bindL kindOf binds m x = m x
  | [], _, _ => rfl
  | (n, v) :: r, m, h => by
    unfold bindL
    rw [bindL_out fun w hw => h w (List.mem_cons_of_mem _ hw)]
    split
    · have : x ≠ n := by rintro rfl; exact h v List.mem_cons_self
      simp [this]
    · rfl
theorem bindC_out {kindOf : Str → Option NameKind} {x : Str} : ∀ {binds : List (Str × Value)} {m : Str → Option Value}, (∀ v, (x, v) ∉ binds) → bindC kindOf binds m x = m x
  | [], _, _ => rfl
  | (n, v) :: r, m, h => by
    unfold bindC
    rw [bindC_out fun w hw => h w (List.mem_cons_of_mem _ hw)]
    split
    · rfl
    · have : x ≠ n := by rintro rfl; exact h v List.mem_cons_self
      simp [this]
theorem bindL_get {kindOf : Str → Option NameKind} {x : Str} {v : Value} : ∀ {P : List Str} {vs : List Value} {i : Nat} {m : Str → Option Value}, P.Nodup → P[i]? = some x → vs[i]? = some v → kindOf x = some .local →
    bindL kindOf (P.zip vs) m x = some v
  | [], _, _, _, _, h, _, _ => by simp at h
  | _ :: _, [], _, _, _, _, h, _ => by simp at h
  | p :: P, w :: vs, 0, m, nd, h1, h2, hk => by
    simp at h1 h2; subst h1; subst h2
    show bindL kindOf ((p, w) :: P.zip vs) m p = _
    unfold bindL
    rw [bindL_out fun v hv => (List.nodup_cons.mp nd).1 (List.of_mem_zip hv).1, if_pos hk]
    simp
  | p :: P, w :: vs, i + 1, m, nd, h1, h2, hk => by
    show bindL kindOf ((p, w) :: P.zip vs) m x = _
    unfold bindL
    exact bindL_get (i := i) (List.nodup_cons.mp nd).2 (by simpa using h1) (by simpa using h2) hk
theorem bindC_get {kindOf : Str → Option NameKind} {x : Str} {v : Value} : ∀ {P : List Str} {vs : List Value} {i : Nat} {m : Str → Option Value}, P.Nodup → P[i]? = some x → vs[i]? = some v → kindOf x ≠ some .local →
    bindC kindOf (P.zip vs) m x = some v
  | [], _, _, _, _, h, _, _ => by simp at h
  | _ :: _, [], _, _, _, _, h, _ => by simp at h
  | p :: P, w :: vs, 0, m, nd, h1, h2, hk => by
    simp at h1 h2; subst h1; subst h2
    show bindC kindOf ((p, w) :: P.zip vs) m p = _
    unfold bindC
    rw [bindC_out fun v hv => (List.nodup_cons.mp nd).1 (List.of_mem_zip hv).1, if_neg hk]
    simp
  | p :: P, w :: vs, i + 1, m, nd, h1, h2, hk => by
    show bindC kindOf ((p, w) :: P.zip vs) m x = _
    unfold bindC
    exact bindC_get (i := i) (List.nodup_cons.mp nd).2 (by simpa using h1) (by simpa using h2) hk

/-- the names' values at the entry -/
def start (N : List Str) (vs : List V) : St := vs.map some ++ List.replicate (N.length - vs.length) none

/-- the context of a def's body, at its entry; an exception leaves the frame, then lies as CX says -/
def cxOf (CX : CXT) (P : Program) (w : World) (K : PySem.W.Frag) (mg : Str → Option Value) (base : Heap) (N : List Str) (qual : Str) (scope : Scope) (f : Addr) (cd : Value) (A : Around) (outer : List Env) (s : Shared) (H : Hp) (E : XK) : Cx where
  prog := P
  w := w
  K := K
  mg := mg
  base := base
  A := A.deeper (envOfC qual scope s.heap.objs.size f cd)
  N := N
  s₀ := s
  H₀ := H
  env := envOfC qual scope s.heap.objs.size f cd
  outer := outer
  stack := envOfC qual scope s.heap.objs.size f cd :: outer
  ex := []
  calm := true
  fn := fun _ => true
  pn := []
  xe := fun e s' => wpAny (model P w) (A.deeper (envOfC qual scope s.heap.objs.size f cd)) (leaving (envOfC qual scope s.heap.objs.size f cd) e) (fun _ s'' => CX outer H s E e s'') (fun e' s'' => CX outer H s E e' s'') s'

theorem cell_has {sc : Scope} {n : Nat} {x : Str} (h : sc.names.lookup x = some .cell) : ∃ c, (cellsFrom n sc.names []).lookup x = some c := by
  have q := PySem.W.cellsFrom_some sc.names n [] (.inl h)
  exact Option.isSome_iff_exists.mp q

theorem inv_start {CX : CXT} {P : Program} {w : World} {K : PySem.W.Frag} {mg : Str → Option Value} {base : Heap} {N ps : List Str} {qual : Str} {scope : Scope} {f : Addr} {cd : Value} {A : Around} {outer : List Env} {s s1 : Shared} {H : Hp} {E : XK} {us : List Value} {vs : List V}
    (S : FnScope N ps scope) (hd : A.handled = none) (e0 : Env0 P w K mg base A outer s H) (hl : vs.length = ps.length) (r : Vals vs us)
    (x : InCallC s s.heap.objs.size (bindL (envOfC qual scope s.heap.objs.size f cd).kindOf (ps.zip us) fun _ => none) (cellsFrom (s.heap.objs.size + 1) scope.names []) (bindC (envOfC qual scope s.heap.objs.size f cd).kindOf (ps.zip us) fun _ => none) s1) :
    Inv (cxOf CX P w K mg base N qual scope f cd A outer s H E) [] (start N vs) H s1 := by
  have hpl : ps.length ≤ N.length := by have := congrArg List.length S.pre; rw [List.length_take] at this; omega
  obtain ⟨h1, tk, rfl, hk⟩ := x.done
  have noA : ∀ b : Addr, b ∉ (cxOf CX P w K mg base N qual scope f cd A outer s H E).ex := fun b z => absurd (show b ∈ ([] : List Addr) from z) (by simp)
  refine ⟨⟨e0.mod, S.kind, rfl, rfl, Nat.le_refl _, fun y z c h1 h2 => ?_, fun y hy => ?_, fun y c _ h => ?_, fun _ => hd, Around.frames_deeper e0.frames, .inr ⟨rfl, rfl⟩, fun b z => absurd z (noA b), e0.bs, e0.bsz, fun b _ _ => noA b, fun b z => absurd z (noA b), e0.funs, e0.frf⟩,
    rfl, e0.bare, Un.kept hk, ⟨_, x.toInCall.ns, fun i y v h1 h2 h3 => ?_⟩, fun y c h => ⟨_, x.cell y c h⟩, e0.hok.fresh (Nat.le_refl _), fun y c h => ?_, fun p hp => absurd (show p ∈ ([] : List (Addr × Obj)) from hp) (by simp), e0.hok.kept hk, ?_⟩
  · exact name_of_addr x.apart (PySem.mem_of_lookup h1) (PySem.mem_of_lookup h2)
  · have hy : scope.names.lookup y = some .cell ∨ scope.names.lookup y = some .free := hy
    rcases hy with hy | hy
    · exact cell_has hy
    · exact absurd rfl (S.nofree _ (PySem.mem_of_lookup hy))
  · exact Nat.le_of_lt (x.above y c (PySem.mem_of_lookup h))
  · have hi : i < vs.length := by
      unfold start at h2
      by_cases hi : i < vs.length
      · exact hi
      · rw [List.getElem?_append_right (by simpa using hi)] at h2
        rw [List.getElem?_replicate] at h2
        split at h2 <;> cases h2
    have ha : vs[i]? = some v := by
      unfold start at h2
      rw [List.getElem?_append_left (by simpa using hi), List.getElem?_map] at h2
      cases e : vs[i]? with
      | none => rw [e] at h2; cases h2
      | some a => rw [e] at h2; cases h2; rfl
    obtain ⟨u, hu, rv⟩ := r.get ha
    have hp : ps[i]? = some y := by
      rw [← S.pre, List.getElem?_take_of_lt (by omega)]; exact h1
    have ndP : ps.Nodup := by rw [← S.pre]; exact S.nd.sublist (List.take_sublist _ _)
    refine ⟨u, rv, ?_⟩
    rcases S.par y (List.mem_of_getElem? hp) with k | k
    · exact .inl ⟨k, bindL_get ndP hp hu k⟩
    · obtain ⟨c, e⟩ := cell_has (n := s.heap.objs.size + 1) k
      refine .inr ⟨.inl k, c, e, ?_⟩
      have q := x.cell y c e
      rw [bindC_get ndP hp hu (by show scope.names.lookup y ≠ _; rw [k]; decide)] at q
      exact q
  · exact e0.hok.fresh (Nat.le_of_lt (x.above y c (PySem.mem_of_lookup h)))
  · unfold start
    show _ = N.length
    rw [List.length_append, List.length_map, List.length_replicate]
    omega

/-- THE RULE: a def (or a method) of the text, by its body. The body's reading t is chosen for each entry; it is run at the parameters' values -/
theorem fn_of {CX : CXT} {P : Program} {w : World} {K : PySem.W.Frag} {mg : Str → Option Value} {base : Heap} {k : Nat} {f : Addr} {name qual : Str} {params : Arguments} {body : List Stmt} {scope : Scope} {dV kV doc pm cdv ct oc : Value} {an od : Option Addr}
    {osl : Array (Option Value)} {N ps : List Str} {sp : Sp} (lk : K.lookup f = some ⟨oc, od, .func (PySem.W.fnOf name qual params body scope dV kV doc pm an cdv ct), osl⟩) (hcd : PySem.W.codeIn K cdv qual = true) (S : FnScope N ps scope)
    (len : ∀ vs H Q E, sp vs H Q E → vs.length = ps.length)
    (hbody : ∀ (A : Around) (outer : List Env) (s : Shared) (H : Hp) (vs : List V) (Q : VK) (E : XK), Room k (A.deeper (envOfC qual scope s.heap.objs.size f cdv)) → sp vs H Q E →
      ∃ t, PSs (cxOf CX P w K mg base N qual scope f cdv A outer s H E) body t ∧ t { nx := fun _ H' => Q .non H', rt := Q } (start N vs) H) :
    FnOk P w K mg base CX (k + 1) f (PySem.W.fnOf name qual params body scope dV kV doc pm an cdv ct) ps sp := by
  refine ⟨len, fun A outer s H args us vs Q E hr e0 hb r hsp => ?_⟩
  have hl := len _ _ _ _ hsp
  have KX : K.In s.heap := e0.mod.kin.keeps fun b o e => (e0.bs b o e).1
  have lim : s.heap.NoLimit := e0.mod.nolimit.keeps fun b o e => (e0.bs b o e).1
  have hkind : ∀ y ∈ ps.zip us, scope.names.lookup y.1 = some .local ∨ (scope.names.lookup y.1 = some .cell ∧ ((cellsFrom (s.heap.objs.size + 1) scope.names []).lookup y.1).isSome = true) := fun ⟨n, v⟩ hy => by
    rcases S.par n (List.of_mem_zip hy).1 with q | q
    · exact .inl q
    · exact .inr ⟨q, PySem.W.cellsFrom_some _ _ _ (.inl q)⟩
  refine codeAny_call_function hr.depth (KX _ _ lk) rfl S.co S.gen rfl (PySem.W.codeRec_of KX hcd) (hb _ _ _ _ ?_)
  refine wpAny_newFunctionEnv_cells S.kind hkind fun env he s1 x => ?_
  subst he
  refine ⟨lim.keeps x.toInCall.keep, codeAny_func ?_⟩
  obtain ⟨t, ht, hq⟩ := hbody A outer s H vs Q E (hr.deeper _) hsp
  have I : Inv (cxOf CX P w K mg base N qual scope f cdv A outer s H E) [] (start N vs) H s1 := inv_start S hr.hd e0 hl r x
  refine wpAny_mono (ht [] s1 (start N vs) H _ I hq) (fun fl s' hs => ?_) fun e s' hs => hs
  have fin : ∀ {σ' : St} {H' : Hp} {v : V} {u : Value}, Inv (cxOf CX P w K mg base N qual scope f cdv A outer s H E) [] σ' H' s' → RelV v u → Q v H' → CE outer P w H s Q u s' :=
    fun {σ' H' v u} J rv q => ⟨v, H', J.os, J.bare, J.base, J.hok, rv, q⟩
  cases fl with
  | ret u =>
    obtain ⟨v, σ', H', J, rv, q⟩ := hs
    exact fin J rv q
  | next =>
    obtain ⟨σ', H', J, q⟩ := hs
    exact fin (v := V.non) (u := Value.none) J rfl q
  | brk =>
    obtain ⟨_, _, _, q⟩ := hs
    exact False.elim q
  | cont =>
    obtain ⟨_, _, _, q⟩ := hs
    exact False.elim q
end L2

namespace L2
open PySem PySem.Spec PyProof.Rows
section
variable {X : Cx} {x : Str} {p pos : Pos} {e : Expr} {es : List Expr} {t : TA} {id T : String} {r : List V → Hp → VK → Prop}

def tCB (r : List V → Hp → VK → Prop) (t : TA) : TE := fun σ H Q => t σ H fun vs H1 => r vs H1 Q
/-- f(e, ..), f a built-in function -/
theorem pe_callB (hc : CallR X (.builtin id) r) (hg : Gl X x) (hm : X.mg x = none) (hv : bootBuiltins x = some (.builtin id)) (ha : PA X (e :: es) t) (hn : x ≠ "__name__" := by decide) (hdb : (x == ("__debug__" : Str)) = false := by decide)
    (he : starEach (e :: es) X.env = (false, eval e X.env) :: starEach es X.env := by rfl) (hpl : (backTo pos (starEach es X.env)).any (·.1) = false := by rfl) : PE X (.Call (.Name x p) (e :: es) [] pos) (tCB r t) := by
  intro pins s σ H Q I h
  refine wpAny_Call_Name_kw (ld_blt I hg hm hv ?_ hn hdb)
  exact PyProof.Rows.callWith_builtin1 (thn (ha pos pins s σ H _ I h) fun us s1 ⟨vs, H1, I1, r1, q1⟩ => hc pins s1 σ H1 vs us Q I1 r1 q1) he hpl
/-- T(e, ..), T a built-in type -/
theorem pe_callTy (hc : CallR X (.type T) r) (hg : Gl X x) (hm : X.mg x = none) (hv : bootBuiltins x = some (.type T)) (ha : PA X (e :: es) t) (hn : x ≠ "__name__" := by decide) (hdb : (x == ("__debug__" : Str)) = false := by decide)
    (he : starEach (e :: es) X.env = (false, eval e X.env) :: starEach es X.env := by rfl) (hpl : (backTo pos (starEach es X.env)).any (·.1) = false := by rfl) : PE X (.Call (.Name x p) (e :: es) [] pos) (tCB r t) := by
  intro pins s σ H Q I h
  refine wpAny_Call_Name_kw (ld_blt I hg hm hv ?_ hn hdb)
  exact PyProof.Rows.callWith_type1 (thn (ha pos pins s σ H _ I h) fun us s1 ⟨vs, H1, I1, r1, q1⟩ => hc pins s1 σ H1 vs us Q I1 r1 q1) he hpl
end
end L2

namespace HT
open PySem PyProof.Rows

section
open PySem.SeqAt
open PySem.AutoSeq1 (wpAny_loadPart')
open PySem.MeetsSeq PySem.MeetsSeq2 PySem.MeetsSeq3

end

section
variable {prog : Program} {w : World} {A : Around} {E : Value → Shared → Prop} {s : Shared}

/-- t + u, t not empty -/
theorem cat_tup {t b : Addr} {vs ws : List Value} {Q : Value → Shared → Prop} (ht : IsTup s.heap t vs.toArray) (hb : IsTup s.heap b ws.toArray) (hv : vs ≠ [])
    (h1 : ws = [] → Q (.ref t) s) (h2 : ws ≠ [] → Q (.ref s.heap.objs.size) { s with heap := s.heap.push { cls := .type "tuple", data := .seq (vs ++ ws).toArray } })
    (hsz : vs.length + ws.length ≤ sizeLine) : wpAny (model prog w) A (binaryOp .Add (.ref t) (.ref b)) Q E s := by
  obtain ⟨⟨cls, dd, data, sl⟩, ho, hc, n, hd⟩ := id ht
  obtain ⟨⟨cls2, dd2, data2, sl2⟩, ho2, hc2, n2, hd2⟩ := id hb
  simp only at hc hd hc2 hd2
  subst hc hd hc2 hd2
  have e : vs.toArray ++ ws.toArray = (vs ++ ws).toArray := by simp
  by_cases hw : ws = []
  · exact concat_meets ⟨_, ho, rfl⟩ ⟨_, ho2, rfl⟩ noFill_tuple_add seq_tuple_add PySem.F.slot_tuple_add PySem.F.entry_tuple_add (PySem.F.args_tuple_add_2 _ _)
      (tuple_addW1 t b vs.toArray ws.toArray n n2 dd dd2 sl sl2 (by simpa using hv) (by simp [hw])) ⟨ho, ho2, h1 hw⟩
  · refine concat_meets ⟨_, ho, rfl⟩ ⟨_, ho2, rfl⟩ noFill_tuple_add seq_tuple_add PySem.F.slot_tuple_add PySem.F.entry_tuple_add (PySem.F.args_tuple_add_2 _ _)
      (tuple_addW2 t b vs.toArray ws.toArray n n2 dd dd2 sl sl2 (by simpa using hv) (by simpa using hw) (by rw [List.size_toArray, List.size_toArray]; exact hsz)) ⟨ho, ho2, ?_⟩
    rw [e]
    exact h2 hw

/-! ### t[a:b], not the whole -/
/-- a slice's bound as a place among n (d where it is left out) -/
def sIx (n d : Nat) : Option Int → Nat
  | none => d
  | some v => if v < 0 then (v + (n : Int)).toNat else min v.toNat n
theorem sIx_none (n d : Nat) : sIx n d none = d := rfl
theorem sIx_nat (n d k : Nat) : sIx n d (some (k : Int)) = min k n := by
  show (if (k : Int) < 0 then ((k : Int) + (n : Int)).toNat else min (k : Int).toNat n) = min k n
  rw [if_neg (by omega), Int.toNat_natCast]
theorem sIx_le (n d : Nat) (hd : d ≤ n) (o : Option Int) : sIx n d o ≤ n := by
  cases o with
  | none => exact hd
  | some v =>
    show (if v < 0 then (v + (n : Int)).toNat else min v.toNat n) ≤ n
    by_cases hv : v < 0
    · rw [if_pos hv]; omega
    · rw [if_neg hv]; exact Nat.min_le_right _ _
theorem clip_eq (v : Int) (n d : Nat) : (if v < 0 then max (v + (n : Int)) 0 else min v (n : Int)) = ((sIx n d (some v) : Nat) : Int) := by
  show (if v < 0 then max (v + (n : Int)) 0 else min v (n : Int)) = (((if v < 0 then (v + (n : Int)).toNat else min v.toNat n) : Nat) : Int)
  by_cases hv : v < 0
  · simp only [if_pos hv]; omega
  · simp only [if_neg hv]; omega
theorem adjust_gen (lo hi : Option Int) (n : Nat) : Builtin.Slice.sliceAdjust lo hi 1 (n : Int) = (((sIx n 0 lo : Nat) : Int), ((sIx n n hi : Nat) : Int)) := by
  have h1 : ¬ ((1 : Int) < 0) := by omega
  unfold Builtin.Slice.sliceAdjust
  simp only [h1, if_false]
  refine Prod.ext ?_ ?_
  · cases lo with
    | none => rfl
    | some v => exact clip_eq v n 0
  · cases hi with
    | none => rfl
    | some v => exact clip_eq v n n
theorem places_gen (i j : Nat) : Builtin.Slice.slicePlaces (i : Int) (j : Int) 1 = j - i := by
  unfold Builtin.Slice.slicePlaces
  have h1 : (1 : Int) > 0 := by omega
  simp only [h1, if_true, Int.ediv_one]
  split <;> omega
theorem slicePart_ {v : Value} {o : Option Int} {Q : Option Int → Shared → Prop} (p : IsPart v o) (h : Q o s) : wpAny (model prog w) A (Builtin.Slice.slicePartIndex v) Q E s := by
  cases p with
  | none => exact slicePart_none h
  | int i t => exact slicePart_int h
theorem sliceApplied_gen {sl : Addr} {vl vu : Value} {lo hi : Option Int} {n : Nat} {Q : Int × Int × Nat → Shared → Prop} (hs : s.heap.IsSliceOf sl vl vu .none) (pl : IsPart vl lo) (pu : IsPart vu hi)
    (h : Q (((sIx n 0 lo : Nat) : Int), 1, sIx n n hi - sIx n 0 lo) s) : wpAny (model prog w) A (Builtin.Slice.sliceApplied (.ref sl) (pure (n : Int))) Q E s := by
  obtain ⟨os, hos, hcs, hds⟩ := id hs
  unfold Builtin.Slice.sliceApplied Builtin.Slice.sliceFields
  refine wpAny_bind (wpAny_bind (wpAny_field hos hds (x := vl) rfl (wpAny_bind (wpAny_field hos hds (x := vu) rfl (wpAny_bind (wpAny_field hos hds (x := .none) rfl (wpAny_pure ?_)))))))
  refine wpAny_bind (slicePart_none ?_)
  show wpAny _ _ (if ((1 : Int) == 0) = true then _ else _) _ _ s
  rw [if_neg (by decide)]
  refine wpAny_bind (slicePart_ pl (wpAny_bind (slicePart_ pu (wpAny_bind (wpAny_pure ?_)))))
  show wpAny _ _ (match Builtin.Slice.sliceAdjust lo hi 1 (n : Int) with | (lo, hi) => pure (lo, (1 : Int), Builtin.Slice.slicePlaces lo hi 1)) _ _ s
  rw [adjust_gen lo hi n]
  show wpAny _ _ (pure (((sIx n 0 lo : Nat) : Int), (1 : Int), Builtin.Slice.slicePlaces ((sIx n 0 lo : Nat) : Int) ((sIx n n hi : Nat) : Int) 1)) _ _ s
  rw [places_gen]
  exact wpAny_pure h
theorem pick_gen (xs : Array Value) (i k : Nat) : ((List.range k).filterMap fun (m : Nat) => xs[((i : Int) + (m : Int) * 1).toNat]?).toArray = ((xs.toList.drop i).take k).toArray := by
  have e : (fun (m : Nat) => xs[((i : Int) + (m : Int) * 1).toNat]?) = fun m => xs[i + m]? := by
    funext m
    have : ((i : Int) + (m : Int) * 1).toNat = i + m := by omega
    rw [this]
  rw [e]
  have := pick_run xs i k
  rw [List.filterMap_map] at this
  have e2 : ((fun x => xs[x]?) ∘ fun x => i + x) = fun m => xs[i + m]? := rfl
  rw [e2] at this
  rw [this]

theorem getItem_tuple_cut {t sl : Addr} {items : Array Value} {vl vu : Value} {lo hi : Option Int} {Q : Value → Shared → Prop} (ht : IsTup s.heap t items) (hs : s.heap.IsSliceOf sl vl vu .none) (pl : IsPart vl lo) (pu : IsPart vu hi)
    (hw : ¬ (sIx items.size 0 lo = 0 ∧ sIx items.size items.size hi = items.size))
    (h : Q (.ref s.heap.objs.size) { s with heap := s.heap.push { cls := .type "tuple", data := .seq ((items.toList.drop (sIx items.size 0 lo)).take (sIx items.size items.size hi - sIx items.size 0 lo)).toArray } })
    (hsz : items.size ≤ sizeLine) : wpAny (model prog w) A (getItem (.ref t) (.ref sl)) Q E s := by
  have htake : sizeOk (.seq ((items.toList.drop (sIx items.size 0 lo)).take (sIx items.size items.size hi - sIx items.size 0 lo)).toArray) := by
    show ((items.toList.drop (sIx items.size 0 lo)).take (sIx items.size items.size hi - sIx items.size 0 lo)).toArray.size ≤ sizeLine
    rw [List.size_toArray, List.length_take, List.length_drop, Array.length_toList]
    omega
  have hj : sIx items.size items.size hi ≤ items.size := sIx_le _ _ (Nat.le_refl _) hi
  obtain ⟨os, hos, hcs, hds⟩ := id hs
  have hTs : s.TypeIs (.ref sl) "slice" := ⟨os, hos, hcs⟩
  unfold getItem
  try with_reducible refine wpAny_holding ?_
  first | refine wpAny_bind (wpAny_pure ?_) | skip
  refine wpAny_bind (wpAny_sequenceKey ht.typeIs (by decide) ?_)
  refine wpAny_bind (wpAny_callSpecial?_slot (name := Str.ofString "__getitem__") ht.typeIs PyProof.Rows.slot_tuple_getitem
    (wpAny_call_entry PyProof.Rows.slot_tuple_getitem ht.typeIs entry_tuple_getitem ?_ (args_tuple_getitem _ _)))
  show wpAny _ _ (Builtin.Tuple.tupleItemsOf (.ref t) >>= _) _ _ s
  refine wpAny_bind (tupleItemsOf_ ht ?_)
  refine wpAny_bind (wpAny_typeOf hTs ?_)
  rw [if_pos (by decide)]
  refine wpAny_bind (sliceApplied_gen hs pl pu ?_)
  have hno : ¬ ((((sIx items.size 0 lo : Nat) : Int) == 0 && (1 : Int) == 1 && (sIx items.size items.size hi - sIx items.size 0 lo) == items.size) = true) := by
    intro q
    rw [Bool.and_eq_true, Bool.and_eq_true] at q
    have q1 : ((sIx items.size 0 lo : Nat) : Int) = 0 := eq_of_beq q.1.1
    have q2 : sIx items.size items.size hi - sIx items.size 0 lo = items.size := eq_of_beq q.2
    exact hw ⟨by omega, by omega⟩
  show wpAny _ _ (if (((sIx items.size 0 lo : Nat) : Int) == 0 && (1 : Int) == 1 && (sIx items.size items.size hi - sIx items.size 0 lo) == items.size) = true then _ else _) _ _ s
  rw [if_neg hno, pick_gen]
  first
    | exact wpAny_bind (m := Builtin.Tuple.tupleExact _) (wpAny_newObj_type (wpAny_pure ⟨_, rfl, wpAny_pure h⟩) htake)
    | exact wpAny_bind (m := Builtin.Tuple.tupleExact _) (wpAny_newObj_type (wpAny_bind (wpAny_pure (wpAny_pure ⟨_, rfl, wpAny_pure h⟩))) htake)
    | exact wpAny_bind (wpAny_bind (m := Builtin.Tuple.tupleExact _) (wpAny_newObj_type (wpAny_pure (wpAny_pure ⟨_, rfl, wpAny_pure h⟩)) htake))
    | exact wpAny_bind (wpAny_bind (m := Builtin.Tuple.tupleExact _) (wpAny_newObj_type (wpAny_pure ⟨_, rfl, wpAny_pure h⟩) htake))
end
end HT

namespace L2
open PySem PySem.Spec PyProof.Rows

/-! ### the parts of a slice -/
abbrev TO := St → Hp → (Option Int → Hp → Prop) → Prop
/-- a slice's part (left out, or an int) -/
def PO (X : Cx) (e : Option Expr) (t : TO) : Prop :=
  ∀ (pins : List (Addr × Obj)) (s : Shared) (σ : St) (H : Hp) (Q : Option Int → Hp → Prop), Inv X pins σ H s → t σ H Q →
    wpAny (model X.prog X.w) X.A (evalPart e X.env) (fun u s' => ∃ o H', Inv X pins σ H' s' ∧ IsPart u o ∧ Q o H') X.xe s
def tNoPart : TO := fun _ H Q => Q none H
def tPart (t : TE) : TO := fun σ H Q => t σ H fun x H1 => ∃ i, x = .int i ∧ Q (some i) H1

section
variable {X : Cx} {e : Expr} {te : TE} {lo hi : Option Expr} {tl th : TO} {pos p2 : Pos}

theorem po_none : PO X none tNoPart := by
  intro pins s σ H Q I h
  rw [evalPart_none]
  exact wpAny_pure ⟨none, H, I, .none, h⟩
theorem po_some (h : PE X e te) : PO X (some e) (tPart te) := by
  intro pins s σ H Q I hw
  rw [evalPart_some]
  refine thn (h pins s σ H _ I hw) fun u s1 ⟨x, H1, I1, r1, q1⟩ => ?_
  obtain ⟨i, rfl, q⟩ := q1
  obtain ⟨t, rfl⟩ := r1
  exact ⟨some i, H1, I1, .int i t, q⟩

/-- what a slice of a value is, by values: the slice object stands at sl -/
def SlR (X : Cx) (r : V → Option Int → Option Int → Hp → VK → Prop) : Prop :=
  ∀ (pins : List (Addr × Obj)) (s : Shared) (σ : St) (H : Hp) (x : V) (v vl vu : Value) (lo hi : Option Int) (sl : Addr) (Q : VK), Inv X pins σ H s → RelV x v → s.heap.IsSliceOf sl vl vu .none → IsPart vl lo → IsPart vu hi → r x lo hi H Q →
    ∃ T id, typeLookup (.type T) "__getitem__" = pure (some (.builtin id)) ∧ s.TypeIs v T ∧ wpAny (model X.prog X.w) X.A (getItem v (.ref sl)) (EP X pins σ Q) X.xe s
theorem SlR.or {r r' : V → Option Int → Option Int → Hp → VK → Prop} (h : SlR X r) (h' : SlR X r') : SlR X (fun x lo hi H Q => r x lo hi H Q ∨ r' x lo hi H Q) := by
  intro pins s σ H x v vl vu lo hi sl Q I rx hs pl pu q
  rcases q with q | q
  · exact h pins s σ H x v vl vu lo hi sl Q I rx hs pl pu q
  · exact h' pins s σ H x v vl vu lo hi sl Q I rx hs pl pu q
def tSl (r : V → Option Int → Option Int → Hp → VK → Prop) (te : TE) (tl th : TO) : TE := fun σ H Q => te σ H fun x H1 => tl σ H1 fun l H2 => th σ H2 fun u H3 => r x l u H3 Q
/-- a[lo:hi], any a -/
theorem pe_slice {r : V → Option Int → Option Int → Hp → VK → Prop} (hr : SlR X r) (he : PE X e te) (hl : PO X lo tl) (hu : PO X hi th) : PE X (.Subscript e (.Slice lo hi none p2) pos) (tSl r te tl th) := by
  intro pins s σ H Q I h
  refine Subscript_ (thn (he pins s σ H _ I h) fun v s1 ⟨x, H1, I1, r1, q1⟩ => ?_)
  refine wpAny_Slice (thn (hl pins s1 σ H1 _ I1 q1) fun vl s2 ⟨l, H2, I2, pl, q2⟩ => thn (hu pins s2 σ H2 _ I2 q2) fun vu s3 ⟨u, H3, I3, pu, q3⟩ => ?_)
  rw [evalPart_none]
  refine wpAny_pure ?_
  have I4 : Inv X pins σ H3 { s3 with heap := s3.heap.push { cls := .type "slice", data := .fields #[vl, vu, .none] } } := I3.kept (t' := s3.toks) fun b ob q => Heap.get?_push_of_some _ q
  obtain ⟨T, id, hT, ht, hg⟩ := hr pins { s3 with heap := s3.heap.push { cls := .type "slice", data := .fields #[vl, vu, .none] } } σ H3 x v vl vu l u s3.heap.objs.size Q I4 r1 (Heap.IsSliceOf.new ..) pl pu q3
  show wpAny (model X.prog X.w) X.A (subscriptTail e (.Slice lo hi none p2) v (.ref s3.heap.objs.size)) (EP X pins σ Q) X.xe { s3 with heap := s3.heap.push { cls := .type "slice", data := .fields #[vl, vu, .none] } }
  exact tail_any (ops := [.ref s3.heap.objs.size, v]) ht hT hg (by with_unfolding_all rfl)

/-- the items of xs[lo:hi] -/
def cutV (xs : List V) (lo hi : Option Int) : List V := (xs.drop (HT.sIx xs.length 0 lo)).take (HT.sIx xs.length xs.length hi - HT.sIx xs.length 0 lo)
theorem cutV_length (xs : List V) (lo hi : Option Int) : (cutV xs lo hi).length ≤ xs.length := by
  unfold cutV
  rw [List.length_take, List.length_drop]
  omega
/-- t[lo:hi], not the whole of it (the whole would be t itself) -/
def rSlT (K : PySem.W.Frag) : V → Option Int → Option Int → Hp → VK → Prop := fun x lo hi H Q => ∃ a xs, x = .ref a ∧ SqT K H a xs ∧
  ¬ (HT.sIx xs.length 0 lo = 0 ∧ HT.sIx xs.length xs.length hi = xs.length) ∧ ∀ p, H p = none → Q (.ref p) (upd H p (.tup (cutV xs lo hi)))
theorem sl_tup : SlR X (rSlT X.K) := by
  intro pins s σ H x v vl vu lo hi sl Q I rx hs pl pu h
  obtain ⟨a, xs, rfl, hx, hw, q⟩ := h
  cases rx
  obtain ⟨its, r, ht, hz⟩ := I.tuple hx
  have hlen : its.toArray.size = xs.length := by rw [List.size_toArray]; exact r.length.symm
  refine ⟨"tuple", _, PyProof.Rows.slot_tuple_getitem.lookup, ht.typeIs, ?_⟩
  refine HT.getItem_tuple_cut ht hs pl pu (by rw [hlen]; exact hw) ?_ (by rw [hlen]; exact hz)
  rw [hlen]
  refine ⟨.ref s.heap.objs.size, _, I.laid (t' := s.toks) (o := .tup (cutV xs lo hi)) (fun b ob q => Heap.get?_push_of_some _ q) (Nat.le_refl _) ?_, rfl, q _ (I.hok.fresh (Nat.le_refl _))⟩
  exact ⟨Nat.le_trans (cutV_length xs lo hi) hz, _, (r.drop (HT.sIx xs.length 0 lo)).take (HT.sIx xs.length xs.length hi - HT.sIx xs.length 0 lo), IsTup.new _ _⟩

/-! ### t < u, t + u -/
/-- t + u, t not empty: u empty gives t itself -/
def rCatT (K : PySem.W.Frag) : R2 := fun x y H Q => ∃ a b xs ys, x = .ref a ∧ y = .ref b ∧ SqT K H a xs ∧ SqT K H b ys ∧ xs ≠ [] ∧ xs.length + ys.length ≤ sizeLine ∧
  (ys = [] → Q (.ref a) H) ∧ (ys ≠ [] → ∀ p, H p = none → Q (.ref p) (upd H p (.tup (xs ++ ys))))
theorem Vals.nil_iff {xs : List V} {us : List Value} (r : Vals xs us) : us = [] ↔ xs = [] := by
  cases r with
  | nil => simp
  | cons _ _ => simp
theorem op_catT : OpR X (binaryOp .Add) (rCatT X.K) := by
  intro pins s σ H x y v u Q I rx ry h
  obtain ⟨a, b, xs, ys, rfl, rfl, ha, hb, hx, hz, q1, q2⟩ := h
  cases rx
  cases ry
  obtain ⟨its, r1, p1, _⟩ := I.tuple ha
  obtain ⟨its2, r2, p2, _⟩ := I.tuple hb
  refine HT.cat_tup p1 p2 (fun z => hx (r1.nil_iff.mp z)) (fun z => ⟨.ref a, H, I, rfl, q1 (r2.nil_iff.mp z)⟩) (fun z => ?_) (by rw [← r1.length, ← r2.length]; exact hz)
  refine ⟨.ref s.heap.objs.size, _, I.laid (t' := s.toks) (o := .tup (xs ++ ys)) (fun b ob q => Heap.get?_push_of_some _ q) (Nat.le_refl _) ?_, rfl, q2 (fun w => z (r2.nil_iff.mpr w)) _ (I.hok.fresh (Nat.le_refl _))⟩
  exact ⟨by rw [List.length_append]; exact hz, _, r1.append r2, IsTup.new _ _⟩
end
end L2

namespace L2
open PySem PySem.Spec PyProof.Rows

/-! ### places -/
/-- the place that an index of any sign means -/
def ixN (n : Nat) (i : Int) : Option Nat := if 0 ≤ i then (if i < n then some i.toNat else none) else if -(n : Int) ≤ i then some (i + n).toNat else none
def atI {α : Type} (xs : List α) (i : Int) : Option α := (ixN xs.length i).bind fun j => xs[j]?
theorem ixN_seq {n : Nat} {i : Int} {j : Nat} (h : ixN n i = some j) : seqIndex? i n = some j ∧ j < n ∧ -(n : Int) ≤ i ∧ i < n := by
  unfold ixN at h
  by_cases h0 : 0 ≤ i
  · rw [if_pos h0] at h
    by_cases h1 : i < n
    · rw [if_pos h1] at h
      have e : i.toNat = j := Option.some.inj h
      exact ⟨by rw [seqIndex_of h0 h1, e], by omega, by omega, h1⟩
    · rw [if_neg h1] at h; cases h
  · rw [if_neg h0] at h
    by_cases h1 : -(n : Int) ≤ i
    · rw [if_pos h1] at h
      have e : (i + n).toNat = j := Option.some.inj h
      exact ⟨by rw [seqIndex_neg (by omega) h1, e], by omega, h1, by omega⟩
    · rw [if_neg h1] at h; cases h
theorem atI_get {α : Type} {xs : List α} {i : Int} {v : α} (h : atI xs i = some v) : ∃ j, seqIndex? i xs.length = some j ∧ xs[j]? = some v ∧ j < xs.length ∧ -(xs.length : Int) ≤ i ∧ i < xs.length := by
  unfold atI at h
  cases e : ixN xs.length i with
  | none => rw [e] at h; cases h
  | some j =>
    rw [e] at h
    obtain ⟨h1, h2, h3, h4⟩ := ixN_seq e
    exact ⟨j, h1, h, h2, h3, h4⟩
theorem atI_nat {α : Type} {xs : List α} {j : Nat} {v : α} (h : xs[j]? = some v) : atI xs (j : Int) = some v := by
  have hj : j < xs.length := (List.getElem?_eq_some_iff.mp h).1
  have e : ixN xs.length (j : Int) = some j := by
    unfold ixN
    rw [if_pos (by omega), if_pos (by omega)]; simp
  unfold atI; rw [e]; exact h
/-! ### what may be subscripted -/
/-- what stands as an index of a plain subscript -/
def PlainIx (b : Expr) : Prop := ∀ o i, subscripted b false o i = operate [o, i] (getItem o i)
/-- a subscript by values -/
def IxR (X : Cx) (r : R2) : Prop :=
  ∀ (value slice : Expr) (pins : List (Addr × Obj)) (s : Shared) (σ : St) (H : Hp) (x y : V) (v u : Value) (Q : VK), Inv X pins σ H s → RelV x v → RelV y u → r x y H Q →
    subscripted slice false v u = operate [v, u] (getItem v u) → wpAny (model X.prog X.w) X.A (subscriptTail value slice v u) (EP X pins σ Q) X.xe s
/-- a call of a builtin's method by values: the receiver, the arguments -/
def MtR (X : Cx) (id : String) (r : V → List V → Hp → VK → Prop) : Prop :=
  ∀ (pins : List (Addr × Obj)) (s : Shared) (σ : St) (H : Hp) (x : V) (xs : List V) (v : Value) (us : List Value) (Q : VK), Inv X pins σ H s → RelV x v → Vals xs us → r x xs H Q →
    wpAny (model X.prog X.w) X.A (call (.builtin id) (v :: us)) (EP X pins σ Q) X.xe s
section
variable {X : Cx} {a b : Expr} {ta tb : TE} {pos : Pos}
theorem IxR.or {r r' : R2} (h : IxR X r) (h' : IxR X r') : IxR X (fun x y H Q => r x y H Q ∨ r' x y H Q) := by
  intro value slice pins s σ H x y v u Q I rx ry q hs
  rcases q with q | q
  · exact h value slice pins s σ H x y v u Q I rx ry q hs
  · exact h' value slice pins s σ H x y v u Q I rx ry q hs
theorem MtR.or {id : String} {r r' : V → List V → Hp → VK → Prop} (h : MtR X id r) (h' : MtR X id r') : MtR X id (fun x xs H Q => r x xs H Q ∨ r' x xs H Q) := by
  intro pins s σ H x xs v us Q I rx rs q
  rcases q with q | q
  · exact h pins s σ H x xs v us Q I rx rs q
  · exact h' pins s σ H x xs v us Q I rx rs q
/-- a[b] -/
theorem pe_ix {r : R2} (hr : IxR X r) (ha : PE X a ta) (hb : PE X b tb) (hs : PlainIx b) : PE X (.Subscript a b pos) (tOp r ta tb) := by
  intro pins s σ H Q I h
  exact Subscript_ (binT ha hb I h fun v u s2 x y H2 I2 rx ry q => hr a b pins s2 σ H2 x y v u Q I2 rx ry q (hs _ _))

def rIxL (K : PySem.W.Frag) : R2 := fun x y H Q => ∃ p xs i v, x = .ref p ∧ y = .int i ∧ SqL K H p xs ∧ atI xs i = some v ∧ Q v H
def rIxT (K : PySem.W.Frag) : R2 := fun x y H Q => ∃ p xs i v, x = .ref p ∧ y = .int i ∧ SqT K H p xs ∧ atI xs i = some v ∧ Q v H
def rIxS : R2 := fun x y H Q => ∃ z i c, x = .str z ∧ y = .int i ∧ z.length ≤ sizeLine ∧ atI z.cps.toList i = some c ∧ Q (.str ⟨#[c]⟩) H
theorem ix_list : IxR X (rIxL X.K) := by
  intro value slice pins s σ H x y v u Q I rx ry h hs
  obtain ⟨p, xs, i, z, rfl, rfl, hq, he, q⟩ := h
  cases rx
  obtain ⟨t, rfl⟩ := ry
  obtain ⟨its, r, pl, hz⟩ := I.list hq
  obtain ⟨j, h1, h2, h3, h4, h5⟩ := atI_get he
  obtain ⟨w, ew, rw'⟩ := r.get h2
  have hl := r.length
  have hn := line63
  have fin : EP X pins σ Q w s := ⟨z, H, I, rw', q⟩
  by_cases h0 : 0 ≤ i
  · have hj : i.toNat = j := by
      rw [seqIndex_of h0 h5] at h1
      exact Option.some.inj h1
    exact item_listR pl.isList h0 (by omega) (by rw [hj]; simpa using ew) fin hs
  · have hj : (i + (its.toArray.size : Int)).toNat = j := by
      rw [seqIndex_neg (by omega) h4] at h1
      rw [List.size_toArray, ← hl]
      exact Option.some.inj h1
    exact subscriptTail_builtinR (x := w) pl.isList.typeIs slot_list_getitem.lookup
      (wpAny_getItem_list_neg (Q := fun r s' => r = w ∧ EP X pins σ Q r s') pl.isList (by omega) (by rw [List.size_toArray] <;> omega) (by omega) (by rw [hj]; simpa using ew) ⟨rfl, fin⟩) hs
theorem ix_tup : IxR X (rIxT X.K) := by
  intro value slice pins s σ H x y v u Q I rx ry h hs
  obtain ⟨p, xs, i, z, rfl, rfl, hq, he, q⟩ := h
  cases rx
  obtain ⟨t, rfl⟩ := ry
  obtain ⟨its, r, pl, hz⟩ := I.tuple hq
  obtain ⟨j, h1, h2, h3, h4, h5⟩ := atI_get he
  obtain ⟨w, ew, rw'⟩ := r.get h2
  have hl := r.length
  have hn := line63
  have fin : EP X pins σ Q w s := ⟨z, H, I, rw', q⟩
  exact subscriptTail_builtinR (x := w) pl.typeIs slot_tuple_getitem.lookup
    (getItem_tuple (j := j) (Q := fun r s' => r = w ∧ EP X pins σ Q r s') pl (by omega) (by omega) (by rw [List.size_toArray, ← hl]; exact h1) (by simpa using ew) ⟨rfl, fin⟩) hs
theorem ix_str : IxR X rIxS := by
  intro value slice pins s σ H x y v u Q I rx ry h hs
  obtain ⟨z, i, c, rfl, rfl, hz, he, q⟩ := h
  obtain ⟨t, rfl⟩ := rx
  obtain ⟨t', rfl⟩ := ry
  obtain ⟨j, h1, h2, h3, h4, h5⟩ := atI_get he
  have hl : z.cps.toList.length = z.length := by simp [Str.length]
  rw [hl] at h1 h4 h5
  have hn := line63
  exact tail_any (typeIs_str s z t) slot_str_getitem.lookup (getItem_str (c := c) (by
    have e1 : decide (i < -(2 ^ 63 : Int)) = false := decide_eq_false (by omega)
    have e2 : decide (i ≥ 2 ^ 63) = false := decide_eq_false (by omega)
    rw [e1, e2, Bool.or_false]) (by rw [h1]; simpa using h2) ⟨.str ⟨#[c]⟩, H, I.tok _, ⟨_, rfl⟩, q⟩) hs
/-! ### xs[i] = v, any sign -/
theorem Inv.lst {pins : List (Addr × Obj)} {σ : St} {H : Hp} {s : Shared} {p : Addr} {xs : List V} (I : Inv X pins σ H s) (h : H p = some (.lst xs)) :
    ∃ (its : List Value) (n : Nat), Vals xs its ∧ s.heap.get? p = some { cls := .type "list", data := .seq its.toArray n } ∧ xs.length ≤ sizeLine := by
  obtain ⟨z, its, n, r, e⟩ := I.hok p _ h
  exact ⟨its, n, r, e, z⟩
/-! ### slices -/
theorem slice_bounds (lo hi : Option Int) (n : Nat) : (sliceBounds lo hi none n).1 = ((HT.sIx n 0 lo : Nat) : Int) ∧ (sliceBounds lo hi none n).2.1 = ((HT.sIx n n hi : Nat) : Int) ∧ (sliceBounds lo hi none n).2.2 = 1 := by
  refine ⟨?_, ?_, rfl⟩
  · cases lo with
    | none => simp [sliceBounds, HT.sIx]
    | some i =>
      simp only [sliceBounds, HT.sIx, Option.getD_none, show (1 : Int) > 0 by decide, if_true]
      by_cases h : i < 0
      · simp only [h, if_true] <;> omega
      · simp only [h, if_false] <;> omega
  · cases hi with
    | none => simp [sliceBounds, HT.sIx]
    | some i =>
      simp only [sliceBounds, HT.sIx, Option.getD_none, show (1 : Int) > 0 by decide, if_true]
      by_cases h : i < 0
      · simp only [h, if_true] <;> omega
      · simp only [h, if_false] <;> omega
theorem slicePick_cut (its : List Value) (lo hi : Option Int) : slicePick its.toArray lo hi none = ((its.drop (HT.sIx its.length 0 lo)).take (HT.sIx its.length its.length hi - HT.sIx its.length 0 lo)).toArray := by
  obtain ⟨h1, h2, h3⟩ := slice_bounds lo hi its.toArray.size
  unfold slicePick
  rw [h1, h2, h3]
  simp only [sliceRange_one, pick_run, List.size_toArray] <;> rfl
/-- xs[lo:hi] of a list: a new list -/
def rSlL (K : PySem.W.Frag) : V → Option Int → Option Int → Hp → VK → Prop := fun x lo hi H Q => ∃ a xs, x = .ref a ∧ SqL K H a xs ∧ ∀ p, H p = none → Q (.ref p) (upd H p (.lst (cutV xs lo hi)))
theorem sl_list : SlR X (rSlL X.K) := by
  intro pins s σ H x v vl vu lo hi sl Q I rx hs pl pu h
  obtain ⟨a, xs, rfl, hx, q⟩ := h
  cases rx
  obtain ⟨its, r, ht, hz⟩ := I.list hx
  have hlen := r.length
  refine ⟨"list", _, slot_list_getitem.lookup, ht.isList.typeIs, ?_⟩
  refine wpAny_getItem_list_slice ht.isList hs pl pu .none (by simp) ?_ (by rw [List.size_toArray] <;> omega)
  rw [slicePick_cut, ← hlen]
  refine ⟨.ref s.heap.objs.size, _, I.laid (t' := s.toks) (o := .lst (cutV xs lo hi)) (fun b ob q => Heap.get?_push_of_some _ q) (Nat.le_refl _) ?_, rfl, q _ (I.hok.fresh (Nat.le_refl _))⟩
  exact ⟨Nat.le_trans (cutV_length xs lo hi) hz, _, 0, (r.drop (HT.sIx xs.length 0 lo)).take (HT.sIx xs.length xs.length hi - HT.sIx xs.length 0 lo), Heap.get?_push_size _ rfl⟩

/-! ### in, not in: flat items -/
def flatV : V → Bool
  | .non => true
  | .bl _ => true
  | .int _ => true
  | .str _ => true
  | _ => false
/-- == of flat values -/
def eqV : V → V → Bool
  | .non, .non => true
  | .bl a, .bl b => a == b
  | .bl a, .int b => (if a then 1 else 0) == b
  | .int a, .bl b => a == (if b then 1 else 0)
  | .int a, .int b => a == b
  | .str a, .str b => a == b
  | _, _ => false
theorem eqAt_V {A : Around} {s : Shared} {y x : V} {u v : Value} (ry : RelV y u) (rx : RelV x v) (fy : flatV y = true) (fx : flatV x = true) : SeqAt.EqAt A s u v (eqV y x) := by
  cases y with
  | non =>
    cases ry
    cases x with
    | non => cases rx; exact SeqAt.EqAt.same _
    | bl b => cases rx; exact SeqAt.EqAt.none_bool b
    | int b => obtain ⟨t, rfl⟩ := rx; exact SeqAt.EqAt.none_int b t
    | str b => obtain ⟨t, rfl⟩ := rx; exact SeqAt.EqAt.none_str b t
    | _ => exact absurd (show false = true from fx) Bool.false_ne_true
  | bl a =>
    cases ry
    cases x with
    | non => cases rx; exact SeqAt.EqAt.bool_none a
    | bl b => cases rx; exact SeqAt.EqAt.bool_bool a b
    | int b => obtain ⟨t, rfl⟩ := rx; exact SeqAt.EqAt.bool_int a b t
    | str b => obtain ⟨t, rfl⟩ := rx; exact SeqAt.EqAt.bool_str a b t
    | _ => exact absurd (show false = true from fx) Bool.false_ne_true
  | int a =>
    obtain ⟨t', rfl⟩ := ry
    cases x with
    | non => cases rx; exact SeqAt.EqAt.int_none a t'
    | bl b => cases rx; exact SeqAt.EqAt.int_bool a t' b
    | int b => obtain ⟨t, rfl⟩ := rx; exact SeqAt.EqAt.int_int a t' b t
    | str b => obtain ⟨t, rfl⟩ := rx; exact SeqAt.EqAt.int_str a t' b t
    | _ => exact absurd (show false = true from fx) Bool.false_ne_true
  | str a =>
    obtain ⟨t', rfl⟩ := ry
    cases x with
    | non => cases rx; exact SeqAt.EqAt.str_none a t'
    | bl b => cases rx; exact SeqAt.EqAt.str_bool a t' b
    | int b => obtain ⟨t, rfl⟩ := rx; exact SeqAt.EqAt.str_int a t' b t
    | str b => obtain ⟨t, rfl⟩ := rx; exact SeqAt.EqAt.str_str a t' b t
    | _ => exact absurd (show false = true from fx) Bool.false_ne_true
  | _ => exact absurd (show false = true from fy) Bool.false_ne_true
/-- the items' answers, read off the values (a value's own answer does not lean on its token) -/
def eqU (x : V) (u : Value) : Bool := match u with
  | .none => eqV .non x
  | .bool b => eqV (.bl b) x
  | .int i _ => eqV (.int i) x
  | .str z _ => eqV (.str z) x
  | _ => false
theorem eqU_of {x y : V} {u : Value} (r : RelV y u) (f : flatV y = true) : eqU x u = eqV y x := by
  cases y with
  | non => cases r; rfl
  | bl b => cases r; rfl
  | int i => obtain ⟨t, rfl⟩ := r; rfl
  | str z => obtain ⟨t, rfl⟩ := r; rfl
  | _ => exact absurd (show false = true from f) Bool.false_ne_true
theorem any_eqU {x : V} {xs : List V} {us : List Value} (h : Vals xs us) (f : xs.all flatV = true) : us.any (eqU x) = xs.any fun y => eqV y x := by
  induction h with
  | nil => rfl
  | cons r t ih =>
    rw [List.all_cons, Bool.and_eq_true] at f
    rw [List.any_cons, List.any_cons, eqU_of r f.1, ih f.2]
theorem mem_eqAt {A : Around} {s : Shared} {x : V} {v : Value} (rx : RelV x v) (fx : flatV x = true) : ∀ {xs : List V} {us : List Value}, Vals xs us → xs.all flatV = true → ∀ u ∈ us, SeqAt.EqAt A s u v (eqU x u)
  | _, _, .nil, _ => fun u hu => by cases hu
  | y :: xs, u :: us, .cons r t, f => fun u' hu => by
    rw [List.all_cons, Bool.and_eq_true] at f
    rcases List.mem_cons.mp hu with rfl | hu
    · rw [eqU_of r f.1]; exact eqAt_V r rx f.1 fx
    · exact mem_eqAt rx fx t f.2 u' hu
def inV (x : V) (xs : List V) : Bool := xs.any fun y => eqV y x
/-- x in a list or tuple of flat items -/
def rIn (K : PySem.W.Frag) (neg : Bool) : R2 := fun x y H Q => ∃ p xs, y = .ref p ∧ (SqL K H p xs ∨ SqT K H p xs) ∧ flatV x = true ∧ xs.all flatV = true ∧ Q (.bl (if neg then !inV x xs else inV x xs)) H
theorem op_in_seq : OpR X (compareOp .In) (rIn X.K false) := by
  intro pins s σ H x y v u Q I rx ry h
  obtain ⟨p, xs, rfl, hq, fx, fs, q⟩ := h
  cases ry
  rcases hq with hq | hq
  · obtain ⟨its, r, pl, hz⟩ := I.list hq
    refine SeqAt.in_listAt (eqU x) pl.isList (fun w hw => mem_eqAt rx fx r fs w (by simpa using hw)) ⟨.bl _, H, I, rfl, ?_⟩
    rw [show its.toArray.any (eqU x) = its.any (eqU x) by simp, any_eqU r fs]
    exact q
  · obtain ⟨its, r, pl, hz⟩ := I.tuple hq
    refine SeqAt.in_tupleAt (eqU x) pl (fun w hw => mem_eqAt rx fx r fs w (by simpa using hw)) ⟨.bl _, H, I, rfl, ?_⟩
    rw [show its.toArray.any (eqU x) = its.any (eqU x) by simp, any_eqU r fs]
    exact q
theorem op_notIn_seq : OpR X (compareOp .NotIn) (rIn X.K true) := by
  intro pins s σ H x y v u Q I rx ry h
  obtain ⟨p, xs, rfl, hq, fx, fs, q⟩ := h
  cases ry
  rcases hq with hq | hq
  · obtain ⟨its, r, pl, hz⟩ := I.list hq
    refine SeqAt.notIn_listAt (eqU x) pl.isList (fun w hw => mem_eqAt rx fx r fs w (by simpa using hw)) ⟨.bl _, H, I, rfl, ?_⟩
    rw [show its.toArray.any (eqU x) = its.any (eqU x) by simp, any_eqU r fs]
    exact q
  · obtain ⟨its, r, pl, hz⟩ := I.tuple hq
    refine SeqAt.notIn_tupleAt (eqU x) pl (fun w hw => mem_eqAt rx fx r fs w (by simpa using hw)) ⟨.bl _, H, I, rfl, ?_⟩
    rw [show its.toArray.any (eqU x) = its.any (eqU x) by simp, any_eqU r fs]
    exact q
/-! ### len, list(x), tuple(x) of any list or tuple that is read -/
theorem call_len_seq : CallR X (.builtin "len") (fun xs H Q => ∃ p ys, xs = [.ref p] ∧ (SqL X.K H p ys ∨ SqT X.K H p ys) ∧ Q (.int ys.length) H) := by
  intro pins s σ H xs us Q I r h
  obtain ⟨p, ys, rfl, hq, q⟩ := h
  obtain ⟨u, rfl, rx⟩ := vals1 r
  cases rx
  have hn := line63
  rcases hq with hq | hq
  · obtain ⟨its, r', pl, hz⟩ := I.list hq
    have hlen := r'.length
    exact Calls.call_len_list pl.isList (by simp only [List.size_toArray] <;> omega) ⟨.int ys.length, H, I.tok _, ⟨s.toks + 1, by rw [List.size_toArray, hlen]⟩, q⟩
  · obtain ⟨its, r', pl, hz⟩ := I.tuple hq
    have hlen := r'.length
    exact len_tuple pl (by simp only [List.size_toArray] <;> omega) ⟨.int ys.length, H, I.tok _, ⟨s.toks + 1, by rw [List.size_toArray, hlen]⟩, q⟩
theorem call_len_str : CallR X (.builtin "len") (fun xs H Q => ∃ z, xs = [.str z] ∧ z.length ≤ sizeLine ∧ Q (.int z.length) H) := by
  intro pins s σ H xs us Q I r h
  obtain ⟨z, rfl, hz, q⟩ := h
  obtain ⟨u, rfl, t, rfl⟩ := vals1 r
  have hn := line63
  exact len_str (by omega) ⟨.int z.length, H, I.tok _, ⟨_, rfl⟩, q⟩
theorem CallR.or {f : Value} {r r' : List V → Hp → VK → Prop} (h : CallR X f r) (h' : CallR X f r') : CallR X f (fun xs H Q => r xs H Q ∨ r' xs H Q) := by
  intro pins s σ H xs us Q I rs q
  rcases q with q | q
  · exact h pins s σ H xs us Q I rs q
  · exact h' pins s σ H xs us Q I rs q
theorem call_list_of : CallR X (.type "list") (fun xs H Q => ∃ p ys, xs = [.ref p] ∧ (SqL X.K H p ys ∨ SqT X.K H p ys) ∧ ∀ l, H l = none → Q (.ref l) (upd H l (.lst ys))) := by
  intro pins s σ H xs us Q I r h
  obtain ⟨p, ys, rfl, hq, q⟩ := h
  obtain ⟨u, rfl, rx⟩ := vals1 r
  cases rx
  have fin : ∀ (its : List Value), Vals ys its → ys.length ≤ sizeLine → ∀ (h' : Heap) (c' : Nat), (∀ b o', s.heap.get? b = some o' → h'.get? b = some o') →
      h'.get? s.heap.objs.size = some { cls := .type "list", dict := none, data := .seq its.toArray c', slots := #[] } → EP X pins σ Q (.ref s.heap.objs.size) { s with heap := h' } := fun its r' hz h' c' kp e =>
    ⟨.ref s.heap.objs.size, _, I.laid (t' := s.toks) kp (Nat.le_refl _) (show ObjOk X.prog X.w _ h' _ (.lst ys) from ⟨hz, its, c', r', e⟩), rfl, q _ (I.hok.fresh (Nat.le_refl _))⟩
  rcases hq with hq | hq
  · obtain ⟨its, r', pl, hz⟩ := I.list hq
    have hlen := r'.length
    obtain ⟨o, ho, hc, n, hd⟩ := pl.isList
    exact call_list_seq p (.inl rfl) ho hc hd (fun h' c' kp e => fin its r' hz h' c' kp e) (by simp only [List.size_toArray] <;> omega)
  · obtain ⟨its, r', pl, hz⟩ := I.tuple hq
    have hlen := r'.length
    obtain ⟨o, ho, hc, n, hd⟩ := pl
    exact call_list_seq p (.inr rfl) ho hc hd (fun h' c' kp e => fin its r' hz h' c' kp e) (by simp only [List.size_toArray] <;> omega)
theorem call_tuple_of : CallR X (.type "tuple") (fun xs H Q => ∃ p ys, xs = [.ref p] ∧ ((SqL X.K H p ys ∧ ∀ l, H l = none → Q (.ref l) (upd H l (.tup ys))) ∨ (SqT X.K H p ys ∧ Q (.ref p) H))) := by
  intro pins s σ H xs us Q I r h
  obtain ⟨p, ys, rfl, h⟩ := h
  obtain ⟨u, rfl, rx⟩ := vals1 r
  cases rx
  rcases h with ⟨hq, q⟩ | ⟨hq, q⟩
  · obtain ⟨its, r', pl, hz⟩ := I.list hq
    have hlen := r'.length
    refine call_tuple_list pl.isList (fun h' kp => ?_) (by simp only [List.size_toArray] <;> omega)
    have I1 : Inv X pins σ H { s with heap := h' } := I.kept (t' := s.toks) kp
    have I2 : Inv X pins σ (upd H h'.objs.size (.tup ys)) { s with heap := h'.push { cls := .type "tuple", data := .seq its.toArray } } :=
      I1.laid (t' := s.toks) (fun b o e => Heap.get?_push_of_some _ e) (Nat.le_refl _) (show ObjOk X.prog X.w _ _ _ (.tup ys) from ⟨hz, its, r', IsTup.new _ _⟩)
    exact ⟨.ref h'.objs.size, _, I2, rfl, q _ (I1.hok.fresh (Nat.le_refl _))⟩
  · obtain ⟨its, r', pl, hz⟩ := I.tuple hq
    exact call_tuple_same pl ⟨.ref p, H, I, rfl, q⟩

/-! ### the call of a builtin's method: o.m(..) -/
/-- the value is of that builtin type -/
def tyV (K : PySem.W.Frag) (T : String) (x : V) (H : Hp) : Prop := match x with
  | .str _ => T = "str"
  | .int _ => T = "int"
  | .ref p => (T = "list" ∧ ∃ xs, SqL K H p xs) ∨ (T = "tuple" ∧ ∃ o, K.lookup p = some o ∧ o.cls = .type "tuple" ∧ o.dict = none) ∨
      (T = "dict" ∧ ((∃ kvs, H p = some (.dK kvs)) ∨ ∃ kvs, H p = some (.dT kvs))) ∨ (T = "set" ∧ ∃ S n, H p = some (.set S n))
  | _ => False
theorem tyV_is {pins : List (Addr × Obj)} {σ : St} {H : Hp} {s : Shared} {T : String} {x : V} {v : Value} (I : Inv X pins σ H s) (r : RelV x v) (ty : tyV X.K T x H) :
    s.TypeIs v T ∧ ∀ a, v = .ref a → ∃ ob, s.heap.get? a = some ob ∧ ob.dict = none := by
  cases x with
  | str z =>
    obtain ⟨t, rfl⟩ := r
    cases (show T = "str" from ty)
    exact ⟨typeIs_str s z t, fun _ e => nomatch e⟩
  | int i =>
    obtain ⟨t, rfl⟩ := r
    cases (show T = "int" from ty)
    exact ⟨typeIs_int s i t, fun _ e => nomatch e⟩
  | ref p =>
    cases r
    rcases ty with ⟨rfl, xs, hq⟩ | ⟨rfl, o, hk, hc, hd⟩ | ⟨rfl, hk⟩ | ⟨rfl, S, n, hk⟩
    · obtain ⟨its, _, pl, _⟩ := I.list hq
      refine ⟨pl.isList.typeIs, fun a e => ?_⟩
      cases e
      obtain ⟨o, n, e, c, hd, _⟩ := pl
      exact ⟨o, e, hd⟩
    · refine ⟨⟨o, I.kIn p o hk, hc⟩, fun a e => ?_⟩
      cases e
      exact ⟨o, I.kIn _ o hk, hd⟩
    · have z : ∃ o, s.heap.get? p = some o ∧ o.ExactDict := by
        rcases hk with ⟨kvs, hk⟩ | ⟨kvs, hk⟩
        · obtain ⟨_, _, _, _, o, _, _, e, ex, _⟩ := I.hok p _ hk
          exact ⟨o, e, ex⟩
        · obtain ⟨_, _, _, _, o, _, _, e, ex, _⟩ := I.hok p _ hk
          exact ⟨o, e, ex⟩
      obtain ⟨o, e, ex⟩ := z
      refine ⟨⟨o, e, ex.1⟩, fun a e2 => ?_⟩
      cases e2
      exact ⟨o, e, ex.2.1⟩
    · obtain ⟨o, _, _, _, e, ex, _⟩ := I.hok p _ hk
      refine ⟨⟨o, e, ex.1⟩, fun a e2 => ?_⟩
      cases e2
      exact ⟨o, e, ex.2.1⟩
  | _ => exact False.elim ty
def tBM (K : PySem.W.Frag) (T : String) (r : V → List V → Hp → VK → Prop) (to : TE) (t : TA) : TE := fun σ H Q => to σ H fun x H1 => tyV K T x H1 ∧ t σ H1 fun xs H2 => r x xs H2 Q
variable {o e : Expr} {es : List Expr} {to : TE} {t : TA} {name : Str} {apos cpos : Pos} {T id : String} {r : V → List V → Hp → VK → Prop}
theorem pe_bm (pa : PlainAttrs T) (slot : Slot T name id) (hty : typeOf (.builtin id) = pure (.type "method_descriptor")) (hm : MtR X id r) (ho : PE X o to) (ha : PA X (e :: es) t)
    (hbase : attributeBase o name X.env (eval o X.env) = eval o X.env := by rfl)
    (hfew : ((backTo cpos (starEach (e :: es) X.env)).all (fun x => !x.1) && (backToKw cpos (keywordEach [] X.env)).all (fun x => x.1.isSome)
      && decide ((e :: es).length + ([] : List Keyword).length + (if ([] : List Keyword).isEmpty then 0 else 1) < 30)) = true := by rfl)
    (hline : (apos.endLine == cpos.line) = true := by rfl) (hs : starEach (e :: es) X.env = (false, eval e X.env) :: starEach es X.env := by rfl) (hplain : (backTo cpos (starEach es X.env)).any (·.1) = false := by rfl) :
    PE X (.Call (.Attribute o name apos) (e :: es) [] cpos) (tBM X.K T r to t) := by
  intro pins s σ H Q I h
  refine wpAny_Call_method_late hbase hfew hline rfl (thn (ho pins s σ H _ I h) fun v s1 ⟨x, H1, I1, r1, ty, q1⟩ => ?_)
  obtain ⟨h1, h2⟩ := tyV_is I1 r1 ty
  refine ⟨T, id, pa, slot, hty, h1, h2, ?_⟩
  have hA := ha cpos pins s1 σ H1 _ I1 q1
  rw [hs] at hA ⊢
  refine Calls.callWith_builtin (by show (false || (backTo cpos (starEach es X.env)).any (·.1)) = false; rw [hplain] <;> rfl) (Calls.evalArgs_plain ?_)
  exact thn hA fun us s2 ⟨vs, H2, I2, r2, q2⟩ => hm pins s2 σ H2 x vs v us Q I2 r1 r2 q2
/- xs.append(e), list.index on a module's tuple .. are MtR facts of 06m -/
end
end L2

namespace L2
open PySem PySem.Spec PyProof.Rows

def MtM (X : Cx) (id : String) (r : V → List V → Hp → VK → Prop) : Prop :=
  ∀ (pins : List (Addr × Obj)) (s : Shared) (σ : St) (H : Hp) (x : V) (xs : List V) (v : Value) (us : List Value) (Q : VK), Inv X pins σ H s → RelV x v → Vals xs us → r x xs H Q →
    wpAny (model X.prog X.w) X.A (call (.builtin id) (v :: us)) (EP X pins σ Q) X.xe s

/-! ### lists of values -/
theorem Vals.one {x : V} {us : List Value} (h : Vals [x] us) : ∃ u, us = [u] ∧ RelV x u := by
  cases h with
  | cons r t => cases t; exact ⟨_, rfl, r⟩
theorem Vals.two : ∀ {x y : V} {us : List Value}, Vals [x, y] us → ∃ u v, us = [u, v] ∧ RelV x u ∧ RelV y v
  | _, _, _, .cons r (.cons q .nil) => ⟨_, _, rfl, r, q⟩
theorem Vals.zero {us : List Value} (h : Vals [] us) : us = [] := by cases h; rfl
theorem Vals.dropLast {xs : List V} {us : List Value} (h : Vals xs us) : Vals xs.dropLast us.dropLast := by
  induction h with
  | nil => exact .nil
  | cons r t ih =>
    cases t with
    | nil => exact .nil
    | cons q t' => exact .cons r ih
theorem Vals.reverse {xs : List V} {us : List Value} (h : Vals xs us) : Vals xs.reverse us.reverse := by
  induction h with
  | nil => exact .nil
  | cons r t ih => rw [List.reverse_cons, List.reverse_cons]; exact Vals.append ih (.cons r .nil)
section
variable {X : Cx} {pins : List (Addr × Obj)} {σ : St} {H : Hp} {s : Shared} {l b : Addr} {xs ys zs : List V}

/-! ### the two steps: a tracked list is rewritten, a new list is laid -/
theorem Inv.lset {its its' : List Value} {n : Nat} {f : Array Value → Array Value} {t' : Nat} (I : Inv X pins σ H s) (hH : H l = some (.lst xs))
    (e : s.heap.get? l = some { cls := .type "list", data := .seq its.toArray n }) (hf : f its.toArray = its'.toArray) (hv : Vals ys its') (hz : ys.length ≤ sizeLine) :
    Inv X pins σ (upd H l (.lst ys)) { s with heap := s.heap.update l (Obj.mapSeq f), toks := t' } := by
  have q := PySem.IsL.update e f
  rw [hf] at q
  refine I.write (x := l) (e := l) (by rw [hH]; exact trivial) (.inl rfl) (fun b' u hb hu => (Heap.get?_update_other s.heap (Obj.mapSeq f) (Ne.symm hb)).trans hu) ⟨_, q⟩ ?_
  exact ⟨hz, its', _, hv, q⟩
theorem Inv.lnew {its : List Value} {t' : Nat} (I : Inv X pins σ H s) (hv : Vals ys its) (hz : ys.length ≤ sizeLine) :
    Inv X pins σ (upd H s.heap.objs.size (.lst ys)) { s with heap := s.heap.push { cls := .type "list", data := .seq its.toArray }, toks := t' } :=
  I.laid (fun _ _ q => Heap.get?_push_of_some _ q) (Nat.le_refl _) ⟨hz, its, 0, hv, Heap.get?_push_size _ rfl⟩
theorem Inv.fresh (I : Inv X pins σ H s) : H s.heap.objs.size = none := I.hok.fresh (Nat.le_refl _)
theorem Inv.lstM (I : Inv X pins σ H s) (hH : H l = some (.lst xs)) : xs.length ≤ sizeLine ∧ ∃ (its : List Value) (n : Nat), Vals xs its ∧ xs.length = its.length ∧ s.heap.get? l = some { cls := .type "list", data := .seq its.toArray n } := by
  obtain ⟨z, its, n, r, e⟩ := I.hok l _ hH
  exact ⟨z, its, n, r, r.length, e⟩

end

section
variable {X : Cx}

/-! ### methods -/
def rAppend : V → List V → Hp → VK → Prop := fun x vs H Q => ∃ l xs y, x = .ref l ∧ vs = [y] ∧ H l = some (.lst xs) ∧ xs.length < sizeLine ∧ Q .non (upd H l (.lst (xs ++ [y])))
theorem mt_append : MtM X "list.append" rAppend := by
  intro pins s σ H x vs v us Q I rx rv h
  obtain ⟨l, xs, y, rfl, rfl, hH, hz, q⟩ := h
  cases rx
  obtain ⟨u, rfl, ru⟩ := rv.one
  obtain ⟨z, its, n, r, hl, e⟩ := I.lstM hH
  refine call_meets F.slot_list_append ⟨_, e, rfl⟩ F.entry_list_append (F.args_list_append_2 _ _) (PySem.list_append l its.toArray n u (by rw [List.size_toArray]; omega)) ⟨e, ?_⟩
  refine ⟨.non, _, I.lset (its' := its ++ [u]) hH e (by simp) (r.append (.cons ru .nil)) ?_, rfl, q⟩
  rw [List.length_append, List.length_singleton]
  omega

/-! ### list + list, list += list, list * int -/
/-! ### del xs[i] -/
end

/-! ### xs[a:b] = ys -/
section
variable {prog : Program} {w : World} {A : Around} {E : Value → Shared → Prop} {s : Shared}
end

section
variable {X : Cx}
end
end L2

namespace Att
open PySem PySem.W PySem.Calls PyProof.Rows

/-! ### the script -/
theorem ints_of_wellAll {P : Params} {h : Heap} : ∀ (ns : List Int) (vs : List Value), WellAll P h vs (ns.map WData.int) → IntsAre vs ns := by
  intro ns
  induction ns with
  | nil =>
    intro vs w
    rw [List.map_nil] at w
    cases w
    exact .nil
  | cons n ns ih =>
    intro vs w
    rw [List.map_cons] at w
    cases w with
    | cons a b =>
      cases a
      exact .cons _ _ (ih _ b)

theorem script_of {l : OpenLaw} {n : Nat} (hn : l.most = some n) {P : Params} {h : Heap} {args : List WData} {vals : List Value}
    (hpre : l.row.toRowW.claim.pre args = true) (hwl : WellAll P h vals args) :
    ∃ a vs ns, vals = [Value.ref a] ∧ args = [WData.list (ns.map WData.int)] ∧ h.get? a = some { cls := .type "list", data := .seq vs.toArray } ∧ IntsAre vs ns ∧ ns.length ≤ n := by
  have hsh : WShape.hasAll [] args [.list .int] = true := (pre_splitW hpre).1
  have hc : l.pre.holds [] { args := args } = true := (pre_splitW hpre).2
  obtain ⟨d, r, rfl, h1, h2⟩ := hasAllW_cons hsh
  obtain rfl := hasAllW_nil h2
  obtain ⟨xs, rfl, h3⟩ := hasW_list h1
  obtain ⟨ns, rfl⟩ := items_int h3
  have hlen : ns.length ≤ n := by
    unfold OpenLaw.pre at hc
    have h4 : (WTm.not (.lt (.lit (.int (n : Int))) (.len (.arg 0)))).holds [] { args := [.list (ns.map .int)] } = true := by
      have h4 := (holds_andW hc).1
      rw [hn] at h4
      exact h4
    have h5 := condW_of h4 (w_not (w_lt w_lit (w_len_list (w_arg rfl))))
    rw [List.length_map] at h5
    refine Nat.le_of_not_lt fun q => ?_
    have q' : (n : Int) < ((ns.length : Nat) : Int) := by omega
    first
      | (rw [decide_eq_true q'] at h5; exact absurd h5 (by decide))
      | (simp at h5; omega)
  cases hwl with
  | cons w1 w2 =>
    cases w2
    cases w1 with
    | list ho hall => exact ⟨_, _, ns, rfl, rfl, ho, ints_of_wellAll ns _ hall, hlen⟩

theorem post_true (l : OpenLaw) (args : List WData) : l.row.toRowW.claim.post args (.bool true) args = true :=
  postW_of (r := l.row.toRowW) (X := (true == true))
    (show WShape.has [] (.bool true) .bool = true by first | rfl | decide | simp [WShape.has, WShape.arms, WShape.armsAll])
    (show (WTm.eq .res (.lit (.bool true))).value [] { args := args, res := some (.bool true), after := args } = some (.bool (true == true)) from w_eq_bool (w_res rfl) w_lit) rfl

/-! ### the attachment: holds_open's last premise (the goal 'hc' behind k_head) from a wpAny of the law's body -/
/-- the same from a codeAny of the CALL (for a layer whose function contracts speak of calls) -/
theorem attach_call {l : OpenLaw} {n : Nat} {q : Program} {loose : List Str} {XP : (Str → Option Value) → Heap → Prop} {YP : World → Heap → Prop} {d : DefRec}
    (hn : l.most = some n) (hdf : d.params.defaults = [])
    (call : ∀ (w : World) (s₀ s₁ : Shared) (mg mb : Str → Option Value) (fa : Addr) (o : Obj) (pm cd doc : Value) (a : Addr) (vs : List Value) (ns : List Int),
      Ground q loose [] XP w s₀ mg mb s₁.heap → YP w s₁.heap →
      s₁.heap.get? fa = some o → o.data = .func (docDef d.name d.params d.body d.scope pm cd doc) → s₁.heap.CodeRec cd d.name → mg d.name = some (.ref fa) →
      s₁.heap.get? a = some { cls := .type "list", data := .seq vs.toArray } → IntsAre vs ns → ns.length ≤ n → s₁.gens = #[] →
      codeAny (model l.prog w) callerA (.call (.ref fa) ⟨[.ref a], []⟩) (fun r s' => r = .ok (.ret (.bool true)) ∧ OldK s₁.heap s'.heap ∧ s'.os = s₁.os ∧ AllBare s'.gens) s₁) :
    WalkO q loose XP YP l.row.toRowW d [] (fun f vs => PySem.call f vs) := by
  intro w s₀ s₁ mg mb G Y fa o pm cd doc dV kV ho hd hcd hD hmg hg args vals as hpre hlay hrd hwl hlo
  obtain rfl : dV = .none := Dflts.none hD hdf
  obtain rfl : kV = .none := Dflts.noKw hD
  obtain ⟨a, vs, ns, rfl, rfl, hobj, hints, hlen⟩ := script_of hn hpre hwl
  refine enter_call (codeAny_mono (call w s₀ s₁ mg mb fa o pm cd doc a vs ns G Y ho (fd_plain hd) hcd hmg hobj hints hlen hg) fun r s' hq => ?_)
  obtain ⟨rfl, h2, h3, h4⟩ := hq
  exact ⟨.inl ⟨.bool true, .bool true, [], rfl, fun _ => rfl, .bool true, post_true l _, fun _ => ⟨List.Pairwise.nil, fun _ hm => (nomatch hm)⟩⟩, h2, h3, h4⟩

/-! ### rules over ANY heap (no ledger) from facts about the written part K: the library's own take a ledger (News) for what they write -/
section
variable {prog : Program} {w : World} {A : Around} {E : Value → Shared → Prop} {s : Shared} {K : Frag}

/-! the whole heap as the ledger: makes every rule that writes through a ledger a rule over any heap -/
def ledger (h : Heap) (L d : Addr) : List (Addr × Obj) := (List.range h.objs.size).filterMap fun a => if a = L ∨ a = d then none else (h.get? a).map fun o => (a, o)
end
end Att

namespace L2
open PySem PySem.Spec PyProof.Rows

theorem vals_ints {vs : List Value} {ns : List Int} (h : IntsAre vs ns) : Vals (ns.map V.int) vs := by
  induction h with
  | nil => exact .nil
  | cons n t h ih => exact .cons ⟨t, rfl⟩ ih

/-- nothing is tracked but the script, known to the object (or it is an object of the module) -/
def Only (H : Hp) : Prop := ∀ b, H b = none ∨ ∃ o xs, H b = some (.frz o (.lst xs))

/-- THE HEAD: the law's promise, at the heap behind the top. F, the promise of the law's def, may use that base is part of the heap (so K.In base, base.Ns mainGlobals mg stand in Mod) -/
theorem law_call {P : Program} {w : World} {K : PySem.W.Frag} {mg mb : Str → Option Value} {CX : CXT} {k : Nat} {fa a : Addr} {fd : FuncData} {x : Str} {sp : Sp} {s₁ : Shared} {vs : List Value} {ns : List Int}
    (KX : K.In s₁.heap) (hns : s₁.heap.Ns mainGlobals mg) (hb : s₁.heap.Ns builtinsNs mb) (hbb : ∀ x : Str, x ≠ "__name__" → mb x = bootBuiltins x) (hlim : s₁.heap.NoLimit) (hg : s₁.gens = #[])
    (ha : s₁.heap.get? a = some { cls := .type "list", data := .seq vs.toArray }) (hi : IntsAre vs ns) (hl : ns.length ≤ sizeLine) (hr : Room k callerA)
    (F : ∀ base : Heap, K.In base → base.Ns mainGlobals mg → FnOk P w K mg base CX k fa fd [x] sp) (hbind : ∀ (s : Shared) (u : Value), BindsTo s fd ⟨[u], []⟩ [(x, u)])
    (hsp : ∀ H : Hp, Only H → SqL K H a (ns.map V.int) → sp [.ref a] H (fun v _ => v = .bl true) fun _ _ _ => False)
    (hCX : ∀ H e s', CX [] H s₁ (fun _ _ _ => False) e s' → False) :
    codeAny (model P w) callerA (.call (.ref fa) ⟨[.ref a], []⟩) (fun r s' => r = .ok (.ret (.bool true)) ∧ OldK s₁.heap s'.heap ∧ s'.os = s₁.os ∧ AllBare s'.gens) s₁ := by
  have rv := vals_ints hi
  have lenV := hi.length
  -- from an abstract heap in which nothing but the script may be tracked
  have core : ∀ H : Hp, Only H → SqL K H a (ns.map V.int) → HOk P w H s₁.heap → (∀ b, H b ≠ none → b = a) → (H a ≠ none → K.lookup a = none) →
      codeAny (model P w) callerA (.call (.ref fa) ⟨[.ref a], []⟩) (fun r s' => r = .ok (.ret (.bool true)) ∧ OldK s₁.heap s'.heap ∧ s'.os = s₁.os ∧ AllBare s'.gens) s₁ := by
    intro H hO hS hok hA hK
    have base_of : ∀ {b : Addr} {o : Obj}, s₁.heap.get? b = some o → H b = none → (hidT s₁.heap H).get? b = some o := fun e n => hidT_get e n
    have noA : ∀ {b : Addr} {o : Obj} {es : Array DictEntry} {ep : Nat}, s₁.heap.get? b = some o → o.data = .dict es ep → H b = none := fun {b o es ep} e d => by
      cases q : H b with
      | none => rfl
      | some u =>
        have e' : b = a := hA b (by rw [q]; simp)
        subst e'
        rw [ha] at e; cases e
        have d' : Data.seq vs.toArray _ = Data.dict es ep := d
        cases d'
    have nsK : ∀ {b : Addr} {m : Str → Option Value}, s₁.heap.Ns b m → (hidT s₁.heap H).Ns b m := fun {b m} ⟨o, es, ep, e, d, r⟩ => ⟨o, es, ep, base_of e (noA e d), d, r⟩
    have hKb : K.In (hidT s₁.heap H) := fun b o e => base_of (KX b o e) (by
      cases q : H b with
      | none => rfl
      | some u =>
        have e' : b = a := hA b (by rw [q]; simp)
        subst e'
        rw [hK (by rw [q]; simp)] at e; cases e)
    have hM : Mod K mg (hidT s₁.heap H) := ⟨hKb, nsK hns, ⟨mb, nsK hb, hbb⟩, let ⟨mc, h1, h2⟩ := hlim; ⟨mc, nsK h1, h2⟩⟩
    have e0 : Env0 P w K mg (hidT s₁.heap H) callerA [] s₁ H := ⟨rfl, hM, fun b o e => of_hidT e, Nat.le_of_eq (hidT_size _ _), trivial, fun b hb => absurd (show b ∈ ([] : List Addr) from hb) (by simp), hok, .of_eq hg⟩
    refine codeAny_mono ((F _ hKb (nsK hns)).run callerA [] s₁ H ⟨[.ref a], []⟩ [.ref a] [.ref a] _ _ hr e0 (hbind s₁ (.ref a)) (.cons rfl .nil) (hsp H hO hS)) fun r s' h => ?_
    cases r with
    | error e => exact (hCX H e s' h).elim
    | ok fl =>
      cases fl with
      | next => exact False.elim h
      | brk => exact False.elim h
      | cont => exact False.elim h
      | ret u =>
        obtain ⟨v, H', os, bare, un, hok', r', q⟩ := h
        have q' : v = .bl true := q
        subst q'
        obtain rfl : u = Value.bool true := r'
        refine ⟨rfl, OldK.of_keep fun b o e => ?_, os, bare⟩
        cases q : H b with
        | none => exact un.keep b o e q (by intro z; exact absurd (show b ∈ ([] : List Addr) from z) (by simp)) (by simp)
        | some u =>
          rcases hO b with z | ⟨ob, xs, z⟩
          · rw [q] at z; cases z
          · have z2 := un.frzs b ob _ z
            obtain ⟨e1, _⟩ := hok b _ z
            obtain ⟨e2, _⟩ := hok' b _ z2
            rw [e] at e1; cases e1
            exact e2
  cases hk : K.lookup a with
  | some o =>
    -- the script is one of the module's own objects
    have e := KX a o hk
    rw [ha] at e
    cases e
    refine core (fun _ => none) (fun _ => .inl rfl) (.inr ⟨_, vs.toArray, _, hk, rfl, rfl, rfl, by rw [List.size_toArray, lenV]; exact hl, by simpa using rv⟩) (fun b u z => by have z' : (none : Option HO) = some u := z; cases z') (fun b z => absurd rfl z) fun z => absurd rfl z
  | none =>
    refine core (fun b => if b = a then some (.frz { cls := .type "list", data := .seq vs.toArray } (.lst (ns.map V.int))) else none) (fun b => ?_) (.inl (.inr ⟨{ cls := .type "list", data := .seq vs.toArray }, if_pos rfl⟩)) (fun b u z => ?_) (fun b z => ?_) fun _ => hk
    · by_cases hb : b = a
      · exact .inr ⟨_, _, if_pos hb⟩
      · exact .inl (if_neg hb)
    · by_cases hb : b = a
      · have z' := (if_pos hb).symm.trans z
        cases z'
        subst hb
        exact ⟨ha, by rw [List.length_map]; exact hl, vs, _, rv, ha⟩
      · have z' := (if_neg hb).symm.trans z
        cases z'
    · by_cases hb : b = a
      · exact hb
      · exact absurd (if_neg hb) z
end L2

namespace L2
open PySem PySem.Spec PyProof.Rows

abbrev KOf {K : PySem.W.Frag} {h : Heap} (_ : K.In h) : PySem.W.Frag := K

/-- the goal that k_head leaves (case hc), from the law's promise. F gives the function object fd (K's own) once, then the promise over every base -/
theorem walk_of {l : PySem.W.OpenLaw} {n k : Nat} {q : Program} {loose : List Str} {XP : (Str → Option Value) → Heap → Prop} {YP : World → Heap → Prop} {d : DefRec} {K : Params → PySem.W.Frag} {CX : World → CXT} {sp : World → Sp} {x : Str}
    (hn : l.most = some n) (hn2 : n ≤ sizeLine) (hdf : d.params.defaults = []) (hr : Room k callerA)
    (hY : ∀ (w : World) (h : Heap), YP w h → (K w.params).In h)
    (F : ∀ (w : World) (mg : Str → Option Value) (fa : Addr) (h : Heap), (K w.params).In h → h.Ns mainGlobals mg → mg d.name = some (.ref fa) →
      ∃ fd : FuncData, (∀ (s : Shared) (u : Value), BindsTo s fd ⟨[u], []⟩ [(x, u)]) ∧
        ∀ base : Heap, (K w.params).In base → base.Ns mainGlobals mg → FnOk l.prog w (K w.params) mg base (CX w) k fa fd [x] (sp w))
    (hsp : ∀ (w : World) (H : Hp) (a : Addr) (ns : List Int), ns.length ≤ n → Only H → SqL (K w.params) H a (ns.map V.int) → sp w [.ref a] H (fun v _ => v = .bl true) fun _ _ _ => False)
    (hCX : ∀ (w : World) (H : Hp) (s : Shared) (e : Value) (s' : Shared), CX w [] H s (fun _ _ _ => False) e s' → False) :
    PySem.W.WalkO q loose XP YP l.row.toRowW d [] (fun f vs => PySem.call f vs) := by
  refine Att.attach_call hn hdf fun w s₀ s₁ mg mb fa o pm cd doc a vs ns G Y ho hd hcd hmg hobj hints hlen hg => ?_
  have KX := hY w _ Y
  obtain ⟨fd, hb, hF⟩ := F w mg fa _ KX G.T.g hmg
  exact law_call KX G.T.g G.T.b G.T.builtins G.T.nolimit hg hobj hints (Nat.le_trans hlen hn2) hr hF hb (fun H hO hS => hsp w H a ns hlen hO hS) fun H e s' => hCX w H s₁ e s'
end L2

/- THE LAST THEOREM (shape; LID, My.* are yours):
   My.Adr: a structure of the addresses that your layer names (classes, functions); My.Txt K t: a structure (Prop) of the equations over K;
   My.txt_mk : {K} {implicit addresses ..} (e1 : nsIn K mainGlobals "law" = some (some (.ref f))) (e2 : K.lookup f = some ⟨oc, od, .func (fnOf "law" "law" params body scope dV kV doc pm an cdv ct), sl⟩) (e3 : codeIn K cdv "law" = true) .. : ∃ t, My.Txt K t

set_option maxRecDepth 100000 in
set_option maxHeartbeats 0 in
theorem PySem.Challenge.cw_LID_holds : PySem.Challenge.rw_LID.Holds := by
  w_on; o_law; k_head; (case hw => w_witness2)
  k_fill
  refine L2.walk_of (l := PySem.Challenge.rw_LID) (n := 63) (k := 40) (x := "script") (CX := fun w => ..) (sp := fun _ => My.sp_law) rfl (by decide) rfl ⟨rfl, by decide, by decide⟩ (fun w h Y => PySem.W.kIn_of Y) ?F ?S ?C
  case F =>
    intro w mg fa h KX G hmg
    have T : ∃ t, My.Txt (L2.KOf KX) t := by
      dsimp only [L2.KOf]                          -- K must stand as «<heap const> w.params» for k_is
      refine' My.txt_mk ?e1 ?e2 ?e3 ..
      (case e1 => PySem.W.k_is)                    -- in the order: a name -> its address -> its object -> its parts
      (case e2 => PySem.W.k_is)
      ..
    obtain ⟨t, T⟩ := T
    have e0 := hmg.symm.trans (PySem.W.mg_of KX G T.law)
    cases e0                                       -- fa is the law's own address
    exact ⟨_, fun s u => .of_eq rfl, fun base kb nb => My.law_fn T kb nb⟩     -- if «.of_eq rfl» comes too early: refine' ⟨_, ?b, fun base kb nb => My.law_fn T kb nb⟩; exact fun s u => .of_eq rfl
  case S => exact fun w H a ns hl hO hS => ..
  case C => exact ..
(the tactic k_is has no namespace: write k_is) -/

/-! SHORT WORDS over the layer: a def of the text, its body, what a loop and a test want. -/
namespace L2
open PySem PySem.Spec PyProof.Rows

/-! ### the text by places -/
def defArgs (s : Stmt) : Arguments := match s with
  | .FunctionDef _ a _ _ _ _ _ _ _ _ => a
  | _ => { posonlyargs := [], args := [], vararg := none, kwonlyargs := [], kw_defaults := [], kwarg := none, defaults := [] }
def defBody (s : Stmt) : List Stmt := match s with
  | .FunctionDef _ _ b _ _ _ _ _ _ _ => b
  | _ => []
def defScope (s : Stmt) : Scope := match s with
  | .FunctionDef _ _ _ _ _ _ sc _ _ _ => sc
  | _ => { kind := .function, names := [], isGenerator := false, isCoroutine := false }

/-! ### no exception leaves a def -/
abbrev CX0 : CXT := fun _ _ _ _ _ _ => False
abbrev E0 : XK := fun _ _ _ => False
theorem pass0 {X : Cx} : Passes CX0 X E0 := fun _ _ _ _ _ _ _ h => h.elim

/-! ### a def (or method) of the text as it stands behind the top -/
structure Fun (K : PySem.W.Frag) (x qual : Str) (st : Stmt) (f : Addr) (fd : FuncData) : Prop where
  ex : ∃ (oc : Value) (od : Option Addr) (kV doc pm : Value) (an : Option Addr) (cdv ct : Value) (osl : Array (Option Value)),
    fd = PySem.W.fnOf x qual (defArgs st) (defBody st) (defScope st) .none kV doc pm an cdv ct ∧ K.lookup f = some ⟨oc, od, .func fd, osl⟩ ∧ PySem.W.codeIn K cdv qual = true
  kp : PySem.W.keepIn K (.ref f) = true
section
variable {P : Program} {w : World} {K : PySem.W.Frag} {mg : Str → Option Value} {base : Heap}
/-- THE RULE for a def: its body as a term of rules, and the reading of that term -/
theorem Fun.ok {x qual : Str} {st : Stmt} {f : Addr} {fd : FuncData} {N ps : List Str} {k : Nat} {sp : Sp} (F : Fun K x qual st f fd) (S : FnScope N ps (defScope st)) (len : ∀ vs H Q E, sp vs H Q E → vs.length = ps.length)
    (hbody : ∀ (cdv : Value) (A : Around) (outer : List Env) (s : Shared) (H : Hp) (vs : List V) (Q : VK) (E : XK), Room k (A.deeper (envOfC qual (defScope st) s.heap.objs.size f cdv)) → sp vs H Q E →
      ∃ t, PSs (cxOf CX0 P w K mg base N qual (defScope st) f cdv A outer s H E).nox (defBody st) t ∧ t { nx := fun _ H' => Q .non H', rt := Q } (start N vs) H) : FnOk P w K mg base CX0 (k + 1) f fd ps sp := by
  obtain ⟨oc, od, kV, doc, pm, an, cdv, ct, osl, rfl, lk, hcd⟩ := F.ex
  refine fn_of lk hcd S len fun A outer s H vs Q E hr hsp => ?_
  obtain ⟨t, h, q⟩ := hbody cdv A outer s H vs Q E hr hsp
  exact ⟨t, h.nox, q⟩
/-- how its arguments bind (no defaults): h is «fun _ _ _ _ _ _ us hl => match us, hl with | [_, _], _ => rfl», one _ a parameter -/
theorem Fun.binds {x qual : Str} {st : Stmt} {f : Addr} {fd : FuncData} {ps : List Str} (F : Fun K x qual st f fd)
    (h : ∀ (kV doc pm : Value) (an : Option Addr) (cdv ct : Value) (us : List Value), us.length = ps.length → bindArgs (PySem.W.fnOf x qual (defArgs st) (defBody st) (defScope st) .none kV doc pm an cdv ct) ⟨us, []⟩ = pure (ps.zip us)) : Binds K fd ps [] := by
  obtain ⟨oc, od, kV, doc, pm, an, cdv, ct, osl, rfl, lk, hcd⟩ := F.ex
  exact .all (h kV doc pm an cdv ct)
theorem fun_mk {x qual : Str} {st : Stmt} {f : Addr} {oc : Value} {od an : Option Addr} {osl : Array (Option Value)} {kV doc pm cdv ct : Value} (l : K.lookup f = some ⟨oc, od, .func (PySem.W.fnOf x qual (defArgs st) (defBody st) (defScope st) .none kV doc pm an cdv ct), osl⟩)
    (c : PySem.W.codeIn K cdv qual = true) (k : PySem.W.keepIn K (.ref f) = true) : Fun K x qual st f (PySem.W.fnOf x qual (defArgs st) (defBody st) (defScope st) .none kV doc pm an cdv ct) := ⟨⟨oc, od, kV, doc, pm, an, cdv, ct, osl, rfl, l, c⟩, k⟩
end
theorem hu_of {A : Around} {k : Nat} (hr : Room k A) : A.units + 1 < cLine := Nat.lt_of_le_of_lt (Nat.add_le_add_left (by decide : 1 ≤ 64) _) hr.units
theorem small1000 {n : Nat} (h : n ≤ 1000) : n < sizeLine := Nat.lt_of_le_of_lt h (by decide)

/-! ### expressions in short: the name that stands in the i-th slot -/
section
variable {X : Cx}
end

/-! ### tests -/
theorem iteF {A B : Prop} (h : B) : if false = true then A else B := by
  rw [if_neg Bool.false_ne_true]
  exact h
/-! ### heaps -/
/-- all that was tracked is as it was -/
def Same (H H' : Hp) : Prop := ∀ b o, H b = some o → H' b = some o
theorem Same.refl (H : Hp) : Same H H := fun _ _ h => h
theorem Same.trans {H H1 H2 : Hp} (a : Same H H1) (b : Same H1 H2) : Same H H2 := fun c o h => b c o (a c o h)
theorem Same.free {H H' : Hp} (e : Same H H') {l : Addr} (h : H' l = Option.none) : H l = Option.none := by
  cases q : H l with
  | none => rfl
  | some o =>
    rw [e l o q] at h
    cases h
theorem Same.seq {K : PySem.W.Frag} {H H' : Hp} {a : Addr} {xs : List V} (e : Same H H') (h : SqL K H a xs) : SqL K H' a xs := by
  rcases h with (h | ⟨o, h⟩) | h
  · exact .inl (.inl (e _ _ h))
  · exact .inl (.inr ⟨o, e _ _ h⟩)
  · exact .inr h

end L2

namespace L2
open PySem PySem.Spec PyProof.Rows

/-! ### lists of pairs as tables -/
section
variable {κ : Type} [DecidableEq κ]
def valV (kvs : List (κ × V)) (k : κ) : Option V := (kvs.find? fun kv => decide (kv.1 = k)).map (·.2)
/-- in its place, or at the end -/
def putK (kvs : List (κ × V)) (k : κ) (v : V) : List (κ × V) :=
  if (kvs.any fun kv => decide (kv.1 = k)) = true then kvs.map (fun kv => if kv.1 = k then (kv.1, v) else kv) else kvs ++ [(k, v)]
def dropK (kvs : List (κ × V)) (k : κ) : List (κ × V) := kvs.filter fun kv => decide (kv.1 ≠ k)

theorem valV_pos {p : κ × V} {r : List (κ × V)} {k : κ} (e : p.1 = k) : valV (p :: r) k = some p.2 := by simp [valV, List.find?_cons, e]
theorem valV_neg {p : κ × V} {r : List (κ × V)} {k : κ} (e : ¬ p.1 = k) : valV (p :: r) k = valV r k := by simp [valV, List.find?_cons, e]
theorem valV_any (k : κ) : ∀ kvs : List (κ × V), (kvs.any fun kv => decide (kv.1 = k)) = (valV kvs k).isSome
  | [] => rfl
  | p :: r => by
    rw [List.any_cons]
    by_cases e : p.1 = k
    · simp only [valV_pos e, decide_eq_true e, Bool.true_or, Option.isSome_some]
    · rw [valV_neg e, decide_eq_false e, Bool.false_or]; exact valV_any k r
theorem length_putK (kvs : List (κ × V)) (k : κ) (v : V) : (putK kvs k v).length ≤ kvs.length + 1 := by
  unfold putK
  split
  · rw [List.length_map]; omega
  · rw [List.length_append, List.length_cons, List.length_nil]; omega
theorem RelO.isSome_eq {o : Option V} {u : Option Value} (r : RelO o u) : o.isSome = u.isSome := by
  cases o with
  | none => cases u with
    | none => rfl
    | some _ => exact (show False from r).elim
  | some _ => cases u with
    | none => exact (show False from r).elim
    | some _ => rfl
theorem RelO.getD {o : Option V} {u : Option Value} {d : V} {d' : Value} (r : RelO o u) (rd : RelV d d') : RelV (o.getD d) (u.getD d') := by
  cases o with
  | none => cases u with
    | none => exact rd
    | some _ => exact (show False from r).elim
  | some _ => cases u with
    | none => exact (show False from r).elim
    | some _ => exact r

/-- raw tables of the same keys -/
theorem KV.val {kvs : List (κ × V)} {vs : List (κ × Value)} (r : KV kvs vs) (k : κ) : RelO (valV kvs k) (valueAt vs k) := by
  unfold KV at r
  induction r with
  | nil => exact True.intro
  | @cons p q ps qs h t ih =>
    obtain ⟨h1, h2⟩ := h
    by_cases e : p.1 = k
    · have e' : q.1 = k := h1.symm.trans e
      have b : valueAt (q :: qs) k = some q.2 := by simp [valueAt, List.find?_cons, e']
      rw [valV_pos e, b]; exact h2
    · have e' : ¬ q.1 = k := fun z => e (h1.trans z)
      have b : valueAt (q :: qs) k = valueAt qs k := by simp [valueAt, List.find?_cons, e']
      rw [valV_neg e, b]; exact ih
theorem KV.any {kvs : List (κ × V)} {vs : List (κ × Value)} (r : KV kvs vs) (k : κ) : (kvs.any fun kv => decide (kv.1 = k)) = vs.any fun kv => decide (kv.1 = k) := by
  unfold KV at r
  induction r with
  | nil => rfl
  | cons h t ih => rw [List.any_cons, List.any_cons, ih, h.1]
theorem KV.repl {kvs : List (κ × V)} {vs : List (κ × Value)} (r : KV kvs vs) (k : κ) {y : V} {u : Value} (ry : RelV y u) :
    KV (kvs.map fun kv => if kv.1 = k then (kv.1, y) else kv) (vs.map fun kv => if kv.1 = k then (kv.1, u) else kv) := by
  unfold KV at r ⊢
  induction r with
  | nil => exact .nil
  | @cons p q ps qs h t ih =>
    rw [List.map_cons, List.map_cons]
    refine .cons ?_ ih
    obtain ⟨h1, h2⟩ := h
    by_cases e : p.1 = k
    · rw [if_pos e, if_pos (h1.symm.trans e)]; exact ⟨h1, ry⟩
    · rw [if_neg e, if_neg (fun z => e (h1.trans z))]; exact ⟨h1, h2⟩
theorem KV.put {kvs : List (κ × V)} {vs : List (κ × Value)} (r : KV kvs vs) (k : κ) {y : V} {u : Value} (ry : RelV y u) : KV (putK kvs k y) (stored vs k u) := by
  unfold putK stored
  rw [r.any k]
  by_cases e : (vs.any fun kv => decide (kv.1 = k)) = true
  · rw [if_pos e, if_pos e]; exact r.repl k ry
  · rw [if_neg e, if_neg e]; exact Paired.snoc r ⟨rfl, ry⟩
theorem KV.drop {kvs : List (κ × V)} {vs : List (κ × Value)} (r : KV kvs vs) (k : κ) : KV (dropK kvs k) (without vs k) := by
  unfold KV at r ⊢
  unfold dropK without
  induction r with
  | nil => exact .nil
  | @cons p q ps qs h t ih =>
    obtain ⟨h1, h2⟩ := h
    rw [List.filter_cons, List.filter_cons]
    by_cases e : p.1 = k
    · have a : ¬ decide (p.1 ≠ k) = true := by simp [e]
      have b : ¬ decide (q.1 ≠ k) = true := by simp [h1.symm.trans e]
      rw [if_neg a, if_neg b]; exact ih
    · have e' : ¬ q.1 = k := fun z => e (h1.trans z)
      have a : decide (p.1 ≠ k) = true := by simp [e]
      have b : decide (q.1 ≠ k) = true := by simp [e']
      rw [if_pos a, if_pos b]; exact .cons ⟨h1, h2⟩ ih
theorem KV.keys {kvs : List (κ × V)} {vs : List (κ × Value)} (r : KV kvs vs) : kvs.map (·.1) = vs.map (·.1) := by
  unfold KV at r
  induction r with
  | nil => rfl
  | cons h t ih => rw [List.map_cons, List.map_cons, ih, h.1]
theorem KV.length {kvs : List (κ × V)} {vs : List (κ × Value)} (r : KV kvs vs) : kvs.length = vs.length := Paired.length r
end


/-! ### a tracked dict, its keys ints and texts or tuples of these -/
theorem kV_is {P : Program} {w : World} {k : Key} {u : Value} (r : RelV (kV k) u) : (mixKind P w).is k u = true := by
  cases k with
  | inl i => obtain ⟨t, e⟩ := (show ∃ t, u = Value.int i t from r); subst e; exact mixKind_int P w i t
  | inr x => obtain ⟨t, e⟩ := (show ∃ t, u = Value.str x t from r); subst e; exact mixKind_str P w x t
theorem items_are {P : Program} {w : World} : ∀ {ks : List Key} {us : List Value}, Vals (ks.map kV) us → ItemsAre (mixKind P w) ks us
  | [], _, r => by rw [List.map_nil] at r; cases r; exact .nil
  | k :: ks, _, r => by
    rw [List.map_cons] at r
    cases r with
    | cons h t => exact .cons (kV_is h) (items_are t)

/-- raw entries of a dict with tuple keys -/
abbrev KT (H : Hp) : List (List Key × V) → List (List Key × Addr × Value) → Prop := Paired fun p q => p.1 = q.1 ∧ H q.2.1 = some (.tup (p.1.map kV)) ∧ RelV p.2 q.2.2
theorem KT.val {H : Hp} {kvs : List (List Key × V)} {xs : List (List Key × Addr × Value)} (r : KT H kvs xs) (k : List Key) : RelO (valV kvs k) ((atKey xs k).map (·.2)) := by
  induction r with
  | nil => exact True.intro
  | @cons p q ps qs h t ih =>
    obtain ⟨h1, _, h2⟩ := h
    by_cases e : p.1 = k
    · have e' : q.1 = k := h1.symm.trans e
      have b : atKey (q :: qs) k = some q.2 := by simp [atKey, List.find?_cons, e']
      rw [valV_pos e, b]; exact h2
    · have e' : ¬ q.1 = k := fun z => e (h1.trans z)
      have b : atKey (q :: qs) k = atKey qs k := by simp [atKey, List.find?_cons, e']
      rw [valV_neg e, b]; exact ih
theorem KT.repl {H : Hp} {kvs : List (List Key × V)} {xs : List (List Key × Addr × Value)} (r : KT H kvs xs) (k : List Key) {y : V} {u : Value} (ry : RelV y u) :
    KT H (kvs.map fun kv => if kv.1 = k then (kv.1, y) else kv) (xs.map (putAt k u)) := by
  induction r with
  | nil => exact .nil
  | @cons p q ps qs h t ih =>
    rw [List.map_cons, List.map_cons]
    refine .cons ?_ ih
    obtain ⟨h1, h2, h3⟩ := h
    unfold putAt
    by_cases e : p.1 = k
    · rw [if_pos e, if_pos (h1.symm.trans e)]; exact ⟨h1, h2, ry⟩
    · rw [if_neg e, if_neg (fun z => e (h1.trans z))]; exact ⟨h1, h2, h3⟩
theorem KT.put {H : Hp} {kvs : List (List Key × V)} {xs : List (List Key × Addr × Value)} (r : KT H kvs xs) (k : List Key) {b : Addr} {y : V} {u : Value} (hb : H b = some (.tup (k.map kV))) (ry : RelV y u) :
    KT H (putK kvs k y) (storedH xs k b u) := by
  have e : (kvs.any fun kv => decide (kv.1 = k)) = (atKey xs k).isSome := by
    rw [valV_any, (r.val k).isSome_eq, Option.isSome_map]
  unfold putK storedH
  rw [e]
  by_cases q : (atKey xs k).isSome = true
  · rw [if_pos q, if_pos q]; exact r.repl k ry
  · rw [if_neg q, if_neg q]; exact Paired.snoc r ⟨rfl, hb, ry⟩
theorem KT.keeps {H H' : Hp} {kvs : List (List Key × V)} {xs : List (List Key × Addr × Value)} (r : KT H kvs xs) (ht : ∀ b ys, H b = some (.tup ys) → H' b = some (.tup ys)) : KT H' kvs xs :=
  Paired.mapP r fun _ _ z => ⟨z.1, ht _ _ z.2.1, z.2.2⟩

section
variable {P : Program} {w : World} {H : Hp} {h : Heap} {a : Addr}
theorem rd_of {u : HO} (ok : HOk P w H h) (e : Rd H a u) : ObjOk P w H h a u := e.ok ok
theorem dk_rd {kvs : List (Key × V)} (ok : HOk P w H h) (e : Rd H a (.dK kvs)) : kvs.length ≤ sizeLine ∧ (a == sysModules) = false ∧ ∃ vs, KV kvs vs ∧ h.DictOf (mixKind P w) a vs :=
  show ObjOk P w H h a (.dK kvs) from rd_of ok e
theorem dk_of {kvs : List (Key × V)} (ok : HOk P w H h) (e : H a = some (.dK kvs)) : kvs.length ≤ sizeLine ∧ (a == sysModules) = false ∧ ∃ vs, KV kvs vs ∧ h.DictOf (mixKind P w) a vs := dk_rd ok (.inl e)
/-- a tracked tuple of ints and texts is a key -/
theorem key_of {ks : List Key} (ok : HOk P w H h) (e : H a = some (.tup (ks.map kV))) : (tupleKind (mixKind P w)).is h ks a := by
  obtain ⟨_, its, r, o, h1, h2, n, h3⟩ := (show ObjOk P w H h a (.tup (ks.map kV)) from ok a _ e)
  exact ⟨o, its.toArray, n, h1, h2, h3, by simpa using items_are r⟩
theorem dt_rd {kvs : List (List Key × V)} (ok : HOk P w H h) (e : Rd H a (.dT kvs)) : kvs.length ≤ sizeLine ∧ (a == sysModules) = false ∧
    ∃ xs, KT H kvs xs ∧ h.DictOfH (tupleKind (mixKind P w)) a xs := by
  obtain ⟨z, y, xs, r, o, es, ep, h1, h2, h3, h4, h5⟩ := (show ObjOk P w H h a (.dT kvs) from rd_of ok e)
  refine ⟨z, y, xs, r, o, es, ep, h1, h2, h3, h4, fun x hx => ?_, h5⟩
  have all : ∀ {l : List (List Key × V)} {m : List (List Key × Addr × Value)}, KT H l m → ∀ x ∈ m, (tupleKind (mixKind P w)).is h x.1 x.2.1 := by
    intro l m q
    induction q with
    | nil => intro x hx; exact nomatch hx
    | @cons p q ps qs hq t ih =>
      intro x hx
      rcases List.mem_cons.mp hx with e | hx
      · subst e
        exact key_of ok (by rw [← hq.1]; exact hq.2.1)
      · exact ih x hx
  exact all r x hx
theorem dt_of {kvs : List (List Key × V)} (ok : HOk P w H h) (e : H a = some (.dT kvs)) : kvs.length ≤ sizeLine ∧ (a == sysModules) = false ∧
    ∃ xs, KT H kvs xs ∧ h.DictOfH (tupleKind (mixKind P w)) a xs := dt_rd ok (.inl e)
end

/-- what the dict at a holds at the key y -/
def DGet (H : Hp) (a : Addr) (y : V) (r : Option V) : Prop :=
  (∃ kvs k, Rd H a (.dK kvs) ∧ y = kV k ∧ r = valV kvs k) ∨ ∃ kvs k b, Rd H a (.dT kvs) ∧ y = .ref b ∧ H b = some (.tup (k.map kV)) ∧ r = valV kvs k
/-- the heap behind a[y] = v -/
def DPut (H : Hp) (a : Addr) (y v : V) (H' : Hp) : Prop :=
  (∃ kvs k, H a = some (.dK kvs) ∧ y = kV k ∧ kvs.length < sizeLine ∧ H' = upd H a (.dK (putK kvs k v))) ∨
  ∃ kvs k b, H a = some (.dT kvs) ∧ y = .ref b ∧ H b = some (.tup (k.map kV)) ∧ kvs.length < sizeLine ∧ H' = upd H a (.dT (putK kvs k v))
theorem DGet.k {H : Hp} {a : Addr} {kvs : List (Key × V)} {k : Key} (e : H a = some (.dK kvs)) : DGet H a (kV k) (valV kvs k) := .inl ⟨kvs, k, .inl e, rfl, rfl⟩
theorem DGet.t {H : Hp} {a b : Addr} {kvs : List (List Key × V)} {k : List Key} (e : H a = some (.dT kvs)) (eb : H b = some (.tup (k.map kV))) : DGet H a (.ref b) (valV kvs k) := .inr ⟨kvs, k, b, .inl e, rfl, eb, rfl⟩
theorem DPut.k {H : Hp} {a : Addr} {kvs : List (Key × V)} {k : Key} {v : V} (e : H a = some (.dK kvs)) (hl : kvs.length < sizeLine) : DPut H a (kV k) v (upd H a (.dK (putK kvs k v))) := .inl ⟨kvs, k, e, rfl, hl, rfl⟩
theorem DPut.t {H : Hp} {a b : Addr} {kvs : List (List Key × V)} {k : List Key} {v : V} (e : H a = some (.dT kvs)) (eb : H b = some (.tup (k.map kV))) (hl : kvs.length < sizeLine) :
    DPut H a (.ref b) v (upd H a (.dT (putK kvs k v))) := .inr ⟨kvs, k, b, e, rfl, eb, hl, rfl⟩


section
variable {X : Cx} {pins : List (Addr × Obj)} {σ : St} {H : Hp} {s : Shared} {a : Addr} {y v : V} {u r : Value} {o : Option V} {A : Around} {E : Value → Shared → Prop}

theorem Inv.big (I : Inv X pins σ H s) : sysModules < s.heap.objs.size := by
  have h : mainGlobals < s.heap.objs.size := (I.mod.glob.keeps I.bk).lt
  exact Nat.lt_trans (by decide) h

/-- y in d -/
theorem d_in {Q : Value → Shared → Prop} (hu : A.units + 1 < cLine) (I : Inv X pins σ H s) (g : DGet H a y o) (ry : RelV y u) (h : ∀ s', Inv X pins σ H s' → Q (.bool o.isSome) s') :
    wpAny (model X.prog X.w) A (compareOp .In u (.ref a)) Q E s := by
  rcases g with ⟨kvs, k, e, ey, l⟩ | ⟨kvs, k, b, e, ey, eb, l⟩
  · subst ey
    obtain ⟨z, hd, vs, rel, dd⟩ := dk_rd I.hok e
    refine wpAny_in_of (kV_is ry) hd dd.mapOf ?_
    rw [← (rel.val k).isSome_eq, ← l]
    exact h _ (I.tok _)
  · subst ey
    cases (show u = Value.ref b from ry)
    obtain ⟨z, hd, xs, rel, dd⟩ := dt_rd I.hok e
    refine wpAny_in_heap (tupleKind_room_in1 hu) (key_of I.hok eb) hd dd ?_
    have q := (rel.val k).isSome_eq
    rw [Option.isSome_map] at q
    rw [← q, ← l]
    exact h _ (I.tok _)
theorem d_notIn {Q : Value → Shared → Prop} (hu : A.units + 1 < cLine) (I : Inv X pins σ H s) (g : DGet H a y o) (ry : RelV y u) (h : ∀ s', Inv X pins σ H s' → Q (.bool (!o.isSome)) s') :
    wpAny (model X.prog X.w) A (compareOp .NotIn u (.ref a)) Q E s := by
  rcases g with ⟨kvs, k, e, ey, l⟩ | ⟨kvs, k, b, e, ey, eb, l⟩
  · subst ey
    obtain ⟨z, hd, vs, rel, dd⟩ := dk_rd I.hok e
    refine wpAny_notIn_of (kV_is ry) hd dd.mapOf ?_
    rw [← (rel.val k).isSome_eq, ← l]
    exact h _ (I.tok _)
  · subst ey
    cases (show u = Value.ref b from ry)
    obtain ⟨z, hd, xs, rel, dd⟩ := dt_rd I.hok e
    refine wpAny_notIn_heap (tupleKind_room_in1 hu) (key_of I.hok eb) hd dd ?_
    have q := (rel.val k).isSome_eq
    rw [Option.isSome_map] at q
    rw [← q, ← l]
    exact h _ (I.tok _)
/-- a dict's object is replaced -/
theorem d_write {h' : Heap} {t' : Nat} {ob : HO} (I : Inv X pins σ H s) (mu : Mut (H a)) (hs : Heap.SameBut a s.heap h') (he : ∃ q, h'.get? a = some q) (new : ObjOk X.prog X.w (upd H a ob) h' a ob) :
    Inv X pins σ (upd H a ob) { s with heap := h', toks := t' } :=
  I.write (x := a) (e := a) mu (.inl rfl) (fun b q hb z => (hs.2 b hb).trans z) he new
theorem dk_new {P : Program} {w : World} {H' : Hp} {h' : Heap} {kvs : List (Key × V)} {vs : List (Key × Value)} (z : kvs.length ≤ sizeLine) (hd : (a == sysModules) = false) (rel : KV kvs vs) (dd : h'.DictOf (mixKind P w) a vs) :
    ObjOk P w H' h' a (.dK kvs) := ⟨z, hd, vs, rel, dd⟩
/-- d[y] = v -/
theorem d_setItem {H' : Hp} {Q : Unit → Shared → Prop} (hu : A.units + 1 < cLine) (I : Inv X pins σ H s) (g : DPut H a y v H') (ry : RelV y u) (rv : RelV v r) (h : ∀ s', Inv X pins σ H' s' → Q () s') :
    wpAny (model X.prog X.w) A (setItem (.ref a) u r) Q E s := by
  rcases g with ⟨kvs, k, e, ey, l, eH⟩ | ⟨kvs, k, b, e, ey, eb, l, eH⟩
  · subst ey eH
    obtain ⟨z, hd, vs, rel, dd⟩ := dk_of I.hok e
    have hz : vs.length ≤ sizeLine := by rw [← rel.length]; exact z
    have hl : (putK kvs k v).length ≤ sizeLine := by have := length_putK kvs k v; omega
    refine wpAny_setItem_pairs (hsz := hz) (kV_is ry) dd fun h' dd' hs => h _ ?_
    have he : ∃ q, h'.get? a = some q := let ⟨q, _, _, hq, _⟩ := dd'; ⟨q, hq⟩
    exact d_write I (by rw [e]; exact True.intro) hs he (dk_new hl hd (rel.put k rv) dd')
  · subst ey eH
    cases (show u = Value.ref b from ry)
    obtain ⟨z, hd, xs, rel, dd⟩ := dt_of I.hok e
    have hz : xs.length ≤ sizeLine := by rw [← Paired.length rel]; exact z
    have hl : (putK kvs k v).length ≤ sizeLine := by have := length_putK kvs k v; omega
    refine wpAny_setItem_heap (hsz := hz) (tupleKind_room_in1 hu) (key_of I.hok eb) dd fun h' dd' hs => h _ ?_
    obtain ⟨q, es, ep, hq, h2, h3, h4, _, h5⟩ := dd'
    refine d_write I (by rw [e]; exact True.intro) hs ⟨q, hq⟩ ⟨hl, hd, _, (rel.put k eb rv).keeps fun c ys ec => ?_, q, es, ep, hq, h2, h3, h4, h5⟩
    rw [upd_ne (ne_of ec e (fun z => nomatch z))]
    exact ec
end

section
variable {X : Cx} {pins : List (Addr × Obj)} {σ : St} {H : Hp} {s : Shared} {a : Addr} {kvs : List (Key × V)} {k : Key} {u : Value} {A : Around} {E : Value → Shared → Prop}
end


/-! ### readings and rules -/
section
variable {X : Cx} {o i e value : Expr} {pos pos' tpos : Pos} {td ty tv : TE}
end


/-! ### displays -/
theorem dk_empty {P : Program} {w : World} {H : Hp} (h : Heap) (hb : sysModules < h.objs.size) : ObjOk P w H (h.push { cls := .type "dict", data := .dict #[] }) h.objs.size (.dK []) :=
  ⟨Nat.zero_le _, beq_eq_false_iff_ne.mpr (Ne.symm (Nat.ne_of_lt hb)), [], .nil, Heap.DictOf.new h⟩
/-- {}, to be a dict of the kind that is wanted -/
def tDNewK : TE := fun _ H Q => ∀ p, H p = none → Q (.ref p) (upd H p (.dK []))
section
variable {X : Cx} {pos : Pos}
theorem pe_dnewK : PE X (.Dict [] [] pos) tDNewK := fun pins s σ H Q I h =>
  wpAny_Dict_empty ⟨.ref s.heap.objs.size, _, I.laid (a := s.heap.objs.size) (o := .dK []) (t' := s.toks) (fun _ _ q => Heap.get?_push_of_some _ q) (Nat.le_refl _) (dk_empty s.heap I.big), rfl, h _ (I.hok.fresh (Nat.le_refl _))⟩
end

/-! ### methods -/
/-- a method call o.m(e) of a built-in, with one argument: what must be seen of the text -/
structure M1 (X : Cx) (o : Expr) (m : Str) (apos : Pos) (e : Expr) (cpos : Pos) : Prop where
  base : attributeBase o m X.env (eval o X.env) = eval o X.env
  few : ((backTo cpos (starEach [e] X.env)).all (fun x => !x.1) && (backToKw cpos (keywordEach [] X.env)).all (fun x => x.1.isSome)
    && decide (([e] : List Expr).length + ([] : List Keyword).length + (if ([] : List Keyword).isEmpty then 0 else 1) < 30)) = true
  line : (apos.endLine == cpos.line) = true
  trees : backTo cpos (starEach [e] X.env) = [(false, eval e X.env)]
structure M2 (X : Cx) (o : Expr) (m : Str) (apos : Pos) (e f : Expr) (cpos : Pos) : Prop where
  base : attributeBase o m X.env (eval o X.env) = eval o X.env
  few : ((backTo cpos (starEach [e, f] X.env)).all (fun x => !x.1) && (backToKw cpos (keywordEach [] X.env)).all (fun x => x.1.isSome)
    && decide (([e, f] : List Expr).length + ([] : List Keyword).length + (if ([] : List Keyword).isEmpty then 0 else 1) < 30)) = true
  line : (apos.endLine == cpos.line) = true
  trees : backTo cpos (starEach [e, f] X.env) = [(false, eval e X.env), (false, eval f X.env)]

section
variable {X : Cx} {pins : List (Addr × Obj)} {σ : St} {H : Hp} {s : Shared} {a : Addr} {y d : V} {u r : Value} {o : Option V} {A : Around} {E : Value → Shared → Prop}
end

section
variable {X : Cx} {o e f : Expr} {apos cpos : Pos} {td ty tx : TE}
end

/-! ### dict(d): a copy -/
section
variable {X : Cx} {pins : List (Addr × Obj)} {σ : St} {H : Hp} {s : Shared} {a : Addr} {kvs : List (Key × V)} {A : Around} {E : Value → Shared → Prop}
end


section
variable {X : Cx} {pins : List (Addr × Obj)} {σ : St} {H : Hp} {s : Shared} {a : Addr} {y : V} {u : Value} {A : Around} {E : Value → Shared → Prop}
end
end L2

namespace L2
open PySem PySem.Spec PyProof.Rows
section
variable {X : Cx}
end
/-! ### a dict's pairs: keys that differ -/
section
variable {κ : Type} [DecidableEq κ]
end
end L2

set_option maxHeartbeats 4000000
/-! The layer of pure data over the hand layer: tuples are data, lists and instances stand in a heap of data. -/
namespace DL
open PySem PySem.Spec PyProof.Rows L2
abbrev St := L2.St

/-- a value with its tuples opened -/
inductive D where
  | non | bl (b : Bool) | int (i : Int) | str (x : Str) | ref (a : Addr) | ty (n : String) | tup (ds : List D) | rol (ds : List D)

/-- a list that never changes: the script -/
def SqF (K : PySem.W.Frag) (H : Hp) (a : Addr) (xs : List V) : Prop :=
  (∃ o, H a = some (.frz o (.lst xs))) ∨
    ∃ (o : Obj) (its : Array Value) (n : Nat), K.lookup a = some o ∧ o.cls = .type "list" ∧ o.dict = none ∧ o.data = .seq its n ∧ its.size ≤ sizeLine ∧ Vals xs its.toList
theorem SqF.sq {K : PySem.W.Frag} {H : Hp} {a : Addr} {xs : List V} (h : SqF K H a xs) : SqL K H a xs := by
  rcases h with ⟨o, h⟩ | h
  · exact .inl (.inr ⟨o, h⟩)
  · exact .inr h
mutual
inductive Is (K : PySem.W.Frag) (H : Hp) : V → D → Prop where
  | non : Is K H .non .non
  | bl (b : Bool) : Is K H (.bl b) (.bl b)
  | int (i : Int) : Is K H (.int i) (.int i)
  | str (x : Str) : Is K H (.str x) (.str x)
  | ref (a : Addr) : Is K H (.ref a) (.ref a)
  | ty (n : String) : Is K H (.ty n) (.ty n)
  | tup {a : Addr} {xs : List V} {ds : List D} : SqT K H a xs → Iss K H xs ds → Is K H (.ref a) (.tup ds)
  | rol {a : Addr} {xs : List V} {ds : List D} : SqF K H a xs → Iss K H xs ds → Is K H (.ref a) (.rol ds)
inductive Iss (K : PySem.W.Frag) (H : Hp) : List V → List D → Prop where
  | nil : Iss K H [] []
  | cons {x : V} {d : D} {xs : List V} {ds : List D} : Is K H x d → Iss K H xs ds → Iss K H (x :: xs) (d :: ds)
end

/-- what a scalar stands for (a short way to it: the terms stay small) -/
def IsV (K : PySem.W.Frag) (H : Hp) (v : V) : D → Prop
  | .non => v = .non
  | .bl b => v = .bl b
  | .int i => v = .int i
  | .str x => v = .str x
  | .ref a => v = .ref a
  | .ty n => v = .ty n
  | d => Is K H v d
theorem Is.inv {K : PySem.W.Frag} {H : Hp} {v : V} {d : D} (h : Is K H v d) : IsV K H v d := by
  cases h <;> first | rfl | (exact .tup ‹_› ‹_›) | (exact .rol ‹_› ‹_›)

/-- the tuples that stood stand, the script too -/
structure Ext0 (K : PySem.W.Frag) (H H' : Hp) : Prop where
  t : ∀ a xs, SqT K H a xs → SqT K H' a xs
  f : ∀ a xs, SqF K H a xs → SqF K H' a xs
/-- and what is known stays known -/
structure Ext (K : PySem.W.Frag) (H H' : Hp) : Prop where
  t : ∀ a xs, SqT K H a xs → SqT K H' a xs
  z : ∀ a o u, H a = some (.frz o u) → H' a = some (.frz o u)
theorem Ext.f {K : PySem.W.Frag} {H H' : Hp} (e : Ext K H H') : ∀ a xs, SqF K H a xs → SqF K H' a xs := fun a xs h => by
  rcases h with ⟨o, h⟩ | h
  · exact .inl ⟨o, e.z _ _ _ h⟩
  · exact .inr h
theorem Ext.e0 {K : PySem.W.Frag} {H H' : Hp} (e : Ext K H H') : Ext0 K H H' := ⟨e.t, e.f⟩
theorem Ext.refl {K : PySem.W.Frag} (H : Hp) : Ext K H H := ⟨fun _ _ h => h, fun _ _ _ h => h⟩
theorem Ext.trans {K : PySem.W.Frag} {H H1 H2 : Hp} (a : Ext K H H1) (b : Ext K H1 H2) : Ext K H H2 := ⟨fun c o h => b.t c o (a.t c o h), fun c o u h => b.z c o u (a.z c o u h)⟩

section
variable {K : PySem.W.Frag} {H H' : Hp}
mutual
theorem Is.mono0 (e : Ext0 K H H') : ∀ {v : V} {d : D}, Is K H v d → Is K H' v d
  | _, _, .non => .non
  | _, _, .bl b => .bl b
  | _, _, .int i => .int i
  | _, _, .str x => .str x
  | _, _, .ref a => .ref a
  | _, _, .ty n => .ty n
  | _, _, .tup h hs => .tup (e.t _ _ h) (Iss.mono0 e hs)
  | _, _, .rol h hs => .rol (e.f _ _ h) (Iss.mono0 e hs)
theorem Iss.mono0 (e : Ext0 K H H') : ∀ {vs : List V} {ds : List D}, Iss K H vs ds → Iss K H' vs ds
  | _, _, .nil => .nil
  | _, _, .cons h t => .cons (Is.mono0 e h) (Iss.mono0 e t)
end
theorem Is.mono (e : Ext K H H') {v : V} {d : D} (h : Is K H v d) : Is K H' v d := h.mono0 e.e0
theorem Iss.mono (e : Ext K H H') {vs : List V} {ds : List D} (h : Iss K H vs ds) : Iss K H' vs ds := h.mono0 e.e0
theorem Iss.length : ∀ {ds : List D} {vs : List V}, Iss K H vs ds → vs.length = ds.length
  | [], _, h => by cases h; rfl
  | _ :: _, _, h => by
    cases h with
    | cons _ t => exact congrArg (· + 1) (Iss.length t)
theorem Iss.get : ∀ {vs : List V} {ds : List D} {i : Nat} {d : D}, Iss K H vs ds → ds[i]? = some d → ∃ v, vs[i]? = some v ∧ Is K H v d
  | _, _, _, _, .nil, e => by simp at e
  | _, _, 0, _, .cons h _, e => by simp at e; subst e; exact ⟨_, rfl, h⟩
  | _, _, i + 1, d, .cons _ t, e => by
    obtain ⟨u, h1, h2⟩ := Iss.get (i := i) (d := d) t (by simpa using e)
    exact ⟨u, by simpa using h1, h2⟩
theorem Iss.getV : ∀ {vs : List V} {ds : List D} {i : Nat} {v : V}, Iss K H vs ds → vs[i]? = some v → ∃ d, ds[i]? = some d ∧ Is K H v d
  | _, _, _, _, .nil, e => by simp at e
  | _, _, 0, _, .cons h _, e => by simp at e; subst e; exact ⟨_, rfl, h⟩
  | _, _, i + 1, v, .cons _ t, e => by
    obtain ⟨u, h1, h2⟩ := Iss.getV (i := i) (v := v) t (by simpa using e)
    exact ⟨u, by simpa using h1, h2⟩
theorem Iss.append {ws : List V} {es : List D} : ∀ {ds : List D} {vs : List V}, Iss K H vs ds → Iss K H ws es → Iss K H (vs ++ ws) (ds ++ es)
  | [], _, h, s => by cases h; exact s
  | _ :: _, _, h, s => by
    cases h with
    | cons r t => exact .cons r (Iss.append t s)
theorem Iss.take : ∀ {vs : List V} {ds : List D} (n : Nat), Iss K H vs ds → Iss K H (vs.take n) (ds.take n)
  | _, _, 0, _ => .nil
  | _, _, _ + 1, .nil => .nil
  | _, _, n + 1, .cons r t => .cons r (Iss.take n t)
theorem Iss.drop : ∀ {vs : List V} {ds : List D} (n : Nat), Iss K H vs ds → Iss K H (vs.drop n) (ds.drop n)
  | _, _, 0, r => r
  | _, _, _ + 1, .nil => .nil
  | _, _, n + 1, .cons _ t => Iss.drop n t
theorem Iss.set {x : V} {d : D} (r : Is K H x d) : ∀ {vs : List V} {ds : List D} (i : Nat), Iss K H vs ds → Iss K H (vs.set i x) (ds.set i d)
  | _, _, _, .nil => .nil
  | _, _, 0, .cons _ t => .cons r t
  | _, _, i + 1, .cons q t => .cons q (Iss.set r i t)
theorem Iss.dropLast {vs : List V} {ds : List D} (h : Iss K H vs ds) : Iss K H vs.dropLast ds.dropLast := by
  rw [List.dropLast_eq_take, List.dropLast_eq_take, h.length]
  exact h.take _
end

/-- what changes: a list, a dict, an instance, a dict whose keys are tuples of ints and texts (with the hash of its keys) -/
inductive MO where
  | lst (ds : List D) | dic (kvs : List (Key × D)) | fdc (kvs : List (Key × D)) | ins (C dx : Addr) (fs : List (Str × D)) | exc (cls : Value) | tdc (hf : List Key → Int) (kvs : List (List Key × D))
/-- the entries of the dict at a -/
def TDic (a : Addr) (hf : List Key → Int) (xs : List (List Key × Addr × Value)) : Heap → Prop := fun h => ∃ o es ep, h.get? a = some o ∧ o.ExactDict ∧ o.data = .dict es ep ∧ es.toList = xs.map (fun x => (⟨hf x.1, .ref x.2.1, x.2.2⟩ : DictEntry))
abbrev TDRel (K : PySem.W.Frag) (H : Hp) : List (List Key × D) → List (List Key × Addr × Value) → Prop := Paired fun (q : List Key × D) (x : List Key × Addr × Value) => q.1 = x.1 ∧ SqT K H x.2.1 (q.1.map kV) ∧ ∃ v, RelV v x.2.2 ∧ Is K H v q.2
abbrev DH := Addr → Option MO
def updM (M : DH) (a : Addr) (o : MO) : DH := fun b => if b = a then some o else M b
theorem updM_same {M : DH} {a : Addr} {o : MO} : updM M a o a = some o := by unfold updM; rw [if_pos rfl]
theorem updM_ne {M : DH} {a b : Addr} {o : MO} (h : b ≠ a) : updM M a o b = M b := by unfold updM; rw [if_neg h]
theorem updM_upd {M : DH} {a : Addr} {o u : MO} : updM (updM M a o) a u = updM M a u := by
  funext b; unfold updM; split <;> rfl

def MOk (K : PySem.W.Frag) (H : Hp) (a : Addr) : MO → Prop
  | .lst ds => ∃ xs, H a = some (.lst xs) ∧ Iss K H xs ds
  | .dic kvs => ∃ kx, H a = some (.dK kx) ∧ Paired (fun (p : Key × V) (q : Key × D) => p.1 = q.1 ∧ Is K H p.2 q.2) kx kvs
  | .fdc kvs => ∃ o kx, H a = some (.frz o (.dK kx)) ∧ Paired (fun (p : Key × V) (q : Key × D) => p.1 = q.1 ∧ Is K H p.2 q.2) kx kvs
  | .ins C dx fs => ∃ fx, H a = some (.ins C dx fx) ∧ H dx = some (.own a) ∧ Paired (fun (p : Str × V) (q : Str × D) => p.1 = q.1 ∧ Is K H p.2 q.2) fx fs
  | .exc cls => ∃ φ, H a = some (.ext φ) ∧ ∀ h, φ h → ∃ ob, h.get? a = some ob ∧ ob.cls = cls
  | .tdc hf kvs => ∃ xs, H a = some (.ext (TDic a hf xs)) ∧ TDRel K H kvs xs ∧ (a == sysModules) = false ∧ kvs.length ≤ sizeLine ∧ (kvs.map (·.1)).Nodup
def HAbs (K : PySem.W.Frag) (M : DH) (H : Hp) : Prop := ∀ a o, M a = some o → MOk K H a o
/-- a smaller view -/
def Sub (M M' : DH) : Prop := ∀ a o, M a = some o → M' a = some o
theorem Sub.refl (M : DH) : Sub M M := fun _ _ h => h
theorem Sub.trans {M M1 M2 : DH} (a : Sub M M1) (b : Sub M1 M2) : Sub M M2 := fun c o h => b c o (a c o h)
theorem Sub.new {M : DH} {p : Addr} {o : MO} (h : M p = none) : Sub M (updM M p o) := fun a u e => by
  rw [updM_ne (by intro z; subst z; rw [h] at e; cases e)]; exact e

section
variable {K : PySem.W.Frag} {M M' : DH} {H H' : Hp} {a p : Addr}
theorem HAbs.sub (h : HAbs K M H) (s : Sub M' M) : HAbs K M' H := fun a o e => h a o (s a o e)
theorem HAbs.free (h : HAbs K M H) (e : H p = none) : M p = none := by
  cases q : M p with
  | none => rfl
  | some o =>
    have z := h p o q
    cases o with
    | lst ds => obtain ⟨xs, z, _⟩ := z; rw [e] at z; cases z
    | dic kvs => obtain ⟨xs, z, _⟩ := z; rw [e] at z; cases z
    | fdc kvs => obtain ⟨o, xs, z, _⟩ := z; rw [e] at z; cases z
    | ins C dx fs => obtain ⟨xs, z, _⟩ := z; rw [e] at z; cases z
    | exc cls => obtain ⟨φ, z, _⟩ := z; rw [e] at z; cases z
    | tdc hf kvs => obtain ⟨xs, z, _⟩ := z; rw [e] at z; cases z
theorem ext_upd {o : HO} (h : ∀ xs, ¬ Rd H p (.tup xs)) (h' : ∀ o u, H p ≠ some (.frz o u)) : Ext K H (upd H p o) := ⟨fun a xs s => by
  rcases s with s | s
  · refine .inl ?_
    have hne : a ≠ p := by intro z; subst z; exact h xs s
    rcases s with s | ⟨u, s⟩
    · exact .inl (by rw [upd_ne hne]; exact s)
    · exact .inr ⟨u, by rw [upd_ne hne]; exact s⟩
  · exact .inr s, fun a u x s => by rw [upd_ne (by intro z; subst z; exact h' u x s)]; exact s⟩
theorem ext_new {o : HO} (h : H p = none) : Ext K H (upd H p o) := ext_upd (fun xs s => by
  rcases s with s | ⟨u, s⟩ <;> rw [h] at s <;> cases s) (fun u xs s => by rw [h] at s; cases s)
/-- a list that is read -/
abbrev LstAt (M : DH) (a : Addr) (ds : List D) : Prop := M a = some (.lst ds)
theorem HAbs.lst {ds : List D} (h : HAbs K M H) (e : LstAt M a ds) : ∃ xs, SqL K H a xs ∧ Iss K H xs ds := by
  obtain ⟨xs, h1, h2⟩ := h a _ e; exact ⟨xs, .inl (.inl h1), h2⟩
theorem _root_.PySem.Paired.impP {α β : Type} {F G : α → β → Prop} (f : ∀ a b, F a b → G a b) {l₁ : List α} {l₂ : List β} (h : Paired F l₁ l₂) : Paired G l₁ l₂ := by
  induction h with
  | nil => exact .nil
  | cons r t ih => exact .cons (f _ _ r) ih
theorem MOk.mono {o : MO} (e : Ext0 K H H') (hk : ∀ u, H a = some u → H' a = some u) (ho : ∀ dx, H dx = some (.own a) → H' dx = some (.own a)) (h : MOk K H a o) : MOk K H' a o := by
  cases o with
  | lst ds => obtain ⟨xs, h1, h2⟩ := h; exact ⟨xs, hk _ h1, h2.mono0 e⟩
  | dic kvs => obtain ⟨xs, h1, h2⟩ := h; exact ⟨xs, hk _ h1, h2.impP fun p q ⟨r1, r2⟩ => ⟨r1, r2.mono0 e⟩⟩
  | fdc kvs => obtain ⟨o, xs, h1, h2⟩ := h; exact ⟨o, xs, hk _ h1, h2.impP fun p q ⟨r1, r2⟩ => ⟨r1, r2.mono0 e⟩⟩
  | ins C dx fs => obtain ⟨xs, h1, h3, h2⟩ := h; exact ⟨xs, hk _ h1, ho _ h3, h2.impP fun p q ⟨r1, r2⟩ => ⟨r1, r2.mono0 e⟩⟩
  | exc cls => obtain ⟨φ, h1, h2⟩ := h; exact ⟨φ, hk _ h1, h2⟩
  | tdc hf kvs => obtain ⟨xs, h1, h2, h3⟩ := h; exact ⟨xs, hk _ h1, h2.impP fun p q ⟨r1, r2, v, r3, r4⟩ => ⟨r1, e.t _ _ r2, v, r3, r4.mono0 e⟩, h3⟩
/-- a new object -/
theorem HAbs.new {o : HO} (h : HAbs K M H) (e : H p = none) : HAbs K M (upd H p o) := fun a u q =>
  (h a u q).mono (ext_new e).e0 (fun v z => by rw [upd_ne (ne_of_none z e)]; exact z) (fun dx z => by rw [upd_ne (ne_of_none z e)]; exact z)
theorem HAbs.newM {o : HO} {m : MO} (h : HAbs K M H) (e : H p = none) (hm : MOk K (upd H p o) p m) : HAbs K (updM M p m) (upd H p o) := fun a u q => by
  by_cases z : a = p
  · subst z; rw [updM_same] at q; cases q; exact hm
  · rw [updM_ne z] at q; exact h.new e a u q
theorem HAbs.newL {es : List D} {ys : List V} (h : HAbs K M H) (e : H p = none) (i : Iss K H ys es) : HAbs K (updM M p (.lst es)) (upd H p (.lst ys)) := h.newM e (show MOk K _ p (.lst es) from ⟨ys, upd_same, i.mono (ext_new e)⟩)
/-- a list is changed -/
theorem HAbs.setL {ds es : List D} {xs ys : List V} (h : HAbs K M H) (e : M p = some (.lst ds)) (hx : H p = some (.lst xs)) (hy : Iss K H ys es) :
    HAbs K (updM M p (.lst es)) (upd H p (.lst ys)) ∧ Ext K H (upd H p (.lst ys)) := by
  have ex : Ext K H (upd H p (.lst ys)) := ext_upd (fun zs s => by rcases s with s | ⟨u, s⟩ <;> rw [hx] at s <;> cases s) (fun u xs s => by rw [hx] at s; cases s)
  refine ⟨fun a u q => ?_, ex⟩
  by_cases z : a = p
  · subst z; rw [updM_same] at q; cases q; exact ⟨ys, upd_same, hy.mono ex⟩
  · rw [updM_ne z] at q
    exact (h a u q).mono ex.e0 (fun v w => by rw [upd_ne z]; exact w) (fun dx w => by rw [upd_ne (ne_of w hx (by intro k; cases k))]; exact w)
end

abbrev DSt := List (Option D)
abbrev KD := D → DH → Prop
abbrev TEd := DSt → DH → KD → Prop
abbrev TTd := DSt → DH → (Bool → DH → Prop) → Prop
abbrev TAd := DSt → DH → (List D → DH → Prop) → Prop
structure EndsD where
  nx : DSt → DH → Prop
  rt : KD
  bk : DSt → DH → Prop := fun _ _ => False
  ct : DSt → DH → Prop := fun _ _ => False
abbrev TSd := EndsD → DSt → DH → Prop

/-- the names' values -/
def SAbs (K : PySem.W.Frag) (τ : DSt) (σ : St) (H : Hp) : Prop := τ.length = σ.length ∧ ∀ (i : Nat) d, τ[i]? = some (some d) → ∃ v, σ[i]? = some (some v) ∧ Is K H v d
theorem SAbs.mono0 {K : PySem.W.Frag} {τ : DSt} {σ : St} {H H' : Hp} (e : Ext0 K H H') (h : SAbs K τ σ H) : SAbs K τ σ H' :=
  ⟨h.1, fun i d q => let ⟨v, h1, h2⟩ := h.2 i d q; ⟨v, h1, h2.mono0 e⟩⟩
theorem SAbs.mono {K : PySem.W.Frag} {τ : DSt} {σ : St} {H H' : Hp} (e : Ext K H H') (h : SAbs K τ σ H) : SAbs K τ σ H' := h.mono0 e.e0
theorem SAbs.set {K : PySem.W.Frag} {τ : DSt} {σ : St} {H : Hp} {i : Nat} {v : V} {d : D} (h : SAbs K τ σ H) (r : Is K H v d) : SAbs K (τ.set i (some d)) (σ.set i (some v)) H := by
  refine ⟨by rw [List.length_set, List.length_set]; exact h.1, fun j e q => ?_⟩
  rw [List.getElem?_set] at q
  by_cases hj : i = j
  · subst hj
    rw [if_pos rfl] at q
    by_cases hl : i < τ.length
    · rw [if_pos hl] at q
      cases q
      exact ⟨v, by rw [List.getElem?_set, if_pos rfl, if_pos (by rw [← h.1]; exact hl)], r⟩
    · rw [if_neg hl] at q; cases q
  · rw [if_neg hj] at q
    obtain ⟨u, h1, h2⟩ := h.2 j e q
    exact ⟨u, by rw [List.getElem?_set, if_neg hj]; exact h1, h2⟩

def lowQ (K : PySem.W.Frag) (H : Hp) (Q' : KD) (Q : VK) : Prop := ∀ d M1 v H1, HAbs K M1 H1 → Ext K H H1 → Is K H1 v d → Q' d M1 → Q v H1
def low (K : PySem.W.Frag) (te : TEd) : TE := fun σ H Q => ∃ τ M Q', SAbs K τ σ H ∧ HAbs K M H ∧ te τ M Q' ∧ lowQ K H Q' Q
def lowT (K : PySem.W.Frag) (te : TTd) : TT := fun σ H Q => ∃ τ M Q', SAbs K τ σ H ∧ HAbs K M H ∧ te τ M Q' ∧ ∀ b M1 H1, HAbs K M1 H1 → Ext K H H1 → Q' b M1 → Q b H1
def lowA (K : PySem.W.Frag) (te : TAd) : TA := fun σ H Q => ∃ τ M Q', SAbs K τ σ H ∧ HAbs K M H ∧ te τ M Q' ∧ ∀ ds M1 vs H1, HAbs K M1 H1 → Ext K H H1 → Iss K H1 vs ds → Q' ds M1 → Q vs H1
structure LowD (K : PySem.W.Frag) (H : Hp) (D' : EndsD) (D : Ends) : Prop where
  nx : ∀ τ M σ H1, SAbs K τ σ H1 → HAbs K M H1 → Ext K H H1 → D'.nx τ M → D.nx σ H1
  rt : lowQ K H D'.rt D.rt
  bk : ∀ τ M σ H1, SAbs K τ σ H1 → HAbs K M H1 → Ext K H H1 → D'.bk τ M → D.bk σ H1
  ct : ∀ τ M σ H1, SAbs K τ σ H1 → HAbs K M H1 → Ext K H H1 → D'.ct τ M → D.ct σ H1
def lowS (K : PySem.W.Frag) (t : TSd) : TS := fun D σ H => ∃ τ M D', SAbs K τ σ H ∧ HAbs K M H ∧ t D' τ M ∧ LowD K H D' D
theorem lowQ.ext {K : PySem.W.Frag} {H H' : Hp} {Q' : KD} {Q : VK} (h : lowQ K H Q' Q) (e : Ext K H H') : lowQ K H' Q' Q := fun d M1 v H1 a b c q => h d M1 v H1 a (e.trans b) c q
theorem LowD.ext {K : PySem.W.Frag} {H H' : Hp} {D' : EndsD} {D : Ends} (h : LowD K H D' D) (e : Ext K H H') : LowD K H' D' D :=
  ⟨fun τ M σ H1 a b c q => h.nx τ M σ H1 a b (e.trans c) q, h.rt.ext e, fun τ M σ H1 a b c q => h.bk τ M σ H1 a b (e.trans c) q, fun τ M σ H1 a b c q => h.ct τ M σ H1 a b (e.trans c) q⟩

section
variable {X : Cx} {e a b c : Expr} {es : List Expr} {pos : Pos}
theorem _root_.L2.PE.imp {t t' : TE} (h : PE X e t) (hi : ∀ σ H Q, t' σ H Q → t σ H Q) : PE X e t' := fun pins s σ H Q I q => h pins s σ H Q I (hi _ _ _ q)
theorem _root_.L2.PT.imp {t t' : TT} (h : PT X e t) (hi : ∀ σ H Q, t' σ H Q → t σ H Q) : PT X e t' := fun pins s σ H Q I q => h pins s σ H Q I (hi _ _ _ q)
theorem _root_.L2.PW.imp {t t' : TT} (h : PW X e t) (hi : ∀ σ H Q, t' σ H Q → t σ H Q) : PW X e t' := fun wh pins s σ H Q I q => h wh pins s σ H Q I (hi _ _ _ q)
theorem _root_.L2.PA.imp {t t' : TA} (h : PA X es t) (hi : ∀ σ H Q, t' σ H Q → t σ H Q) : PA X es t' := fun p pins s σ H Q I q => h p pins s σ H Q I (hi _ _ _ q)
theorem _root_.L2.PS.imp {st : Stmt} {t t' : TS} (h : PS X st t) (hi : ∀ D σ H, t' D σ H → t D σ H) : PS X st t' := fun pins s σ H D I q => h pins s σ H D I (hi _ _ _ q)
theorem _root_.L2.PSs.imp {st : List Stmt} {t t' : TS} (h : PSs X st t) (hi : ∀ D σ H, t' D σ H → t D σ H) : PSs X st t' := fun pins s σ H D I q => h pins s σ H D I (hi _ _ _ q)

/-! ### names, constants -/
def onBl : D → (Bool → Prop) → Prop
  | .bl k, Q => Q k
  | _, _ => False
def onInt : D → (Int → Prop) → Prop
  | .int i, Q => Q i
  | _, _ => False
def onVal : Option (Option D) → (D → Prop) → Prop
  | some (some d), Q => Q d
  | _, _ => False
def onSome {α : Type} : Option α → (α → Prop) → Prop
  | some a, Q => Q a
  | none, _ => False
theorem onVal_some {o : Option (Option D)} {Q : D → Prop} (h : onVal o Q) : ∃ d, o = some (some d) ∧ Q d := by
  match o, h with
  | some (some d), h => exact ⟨d, rfl, h⟩
def eVar (i : Nat) : TEd := fun τ M Q => onVal τ[i]? fun d => Q d M
def eC (d : D) : TEd := fun _ M Q => Q d M
theorem d_var (i : Nat) {x : Str} (hN : X.N[i]? = some x := by rfl) (hv : Vis X.env.scope x := by first | exact Or.inl rfl | exact Or.inr (Or.inl rfl) | exact Or.inr (Or.inr rfl)) (hd : (x == ("__debug__" : Str)) = false := by decide)
    (hcd : (x == ("__classdict__" : Str)) = false := by decide) : PE X (.Name x pos) (low X.K (eVar i)) :=
  (pe_var hN hv hd hcd).imp fun σ H Q ⟨τ, M, Q', hs, hm, h, hq⟩ => by
    obtain ⟨d, hd', h⟩ := onVal_some h
    obtain ⟨v, h1, h2⟩ := hs.2 i d hd'
    exact ⟨v, h1, hq d M v H hm (Ext.refl H) h2 h⟩
theorem low_const {d : D} {v : V} (hv : ∀ H, Is X.K H v d) {σ : St} {H : Hp} {Q : VK} (h : low X.K (eC d) σ H Q) : tC v σ H Q :=
  let ⟨_, M, _, _, hm, q, hq⟩ := h; hq d M v H hm (Ext.refl H) (hv H) q
theorem d_int {i j} : PE X (.Constant (.int i) j pos) (low X.K (eC (.int i))) := pe_int.imp fun _ _ _ h => low_const (fun _ => .int i) h
theorem d_bl {b j} : PE X (.Constant (.bool b) j pos) (low X.K (eC (.bl b))) := pe_bl.imp fun _ _ _ h => low_const (fun _ => .bl b) h
theorem d_str {x j} : PE X (.Constant (.str x) j pos) (low X.K (eC (.str x))) := pe_str.imp fun _ _ _ h => low_const (fun _ => .str x) h
/-! ### operations of two values -/
abbrev RD2 := D → D → DH → KD → Prop
def lowR2 (K : PySem.W.Frag) (r : RD2) : R2 := fun vx vy H Q => ∃ x y M Q', Is K H vx x ∧ Is K H vy y ∧ HAbs K M H ∧ r x y M Q' ∧ lowQ K H Q' Q
def OpD (X : Cx) (f : Value → Value → Sem Value) (r : RD2) : Prop := OpR X f (lowR2 X.K r)
def eOp (r : RD2) (ta tb : TEd) : TEd := fun τ M Q => ta τ M fun x M1 => tb τ M1 fun y M2 => r x y M2 Q
theorem low_op {K : PySem.W.Frag} {r : RD2} {ta tb : TEd} {σ : St} {H : Hp} {Q : VK} (h : low K (eOp r ta tb) σ H Q) : tOp (lowR2 K r) (low K ta) (low K tb) σ H Q := by
  obtain ⟨τ, M, Q', hs, hm, h, hq⟩ := h
  refine ⟨τ, M, _, hs, hm, h, fun x M1 vx H1 m1 e1 i1 h1 => ?_⟩
  refine ⟨τ, M1, _, hs.mono e1, m1, h1, fun y M2 vy H2 m2 e2 i2 h2 => ?_⟩
  exact ⟨x, y, M2, Q', i1.mono e2, i2, m2, h2, hq.ext (e1.trans e2)⟩
variable {ta tb tc : TEd}
theorem d_op {op : Operator} {r : RD2} (ho : OpD X (binaryOp op) r) (ha : PE X a (low X.K ta)) (hb : PE X b (low X.K tb)) : PE X (.BinOp a op b pos) (low X.K (eOp r ta tb)) :=
  (pe_op ho ha hb).imp fun _ _ _ h => low_op h
theorem d_cmp {op : CmpOp} {r : RD2} (ho : OpD X (compareOp op) r) (ha : PE X a (low X.K ta)) (hb : PE X b (low X.K tb)) (hm : behindInMarks op b = false) : PE X (.Compare a [op] [b] pos) (low X.K (eOp r ta tb)) :=
  (pe_cmpR ho ha hb hm).imp fun _ _ _ h => low_op h
/-- a test that is a truth value -/
def eTest (t : TEd) : TTd := fun τ M Q => t τ M fun x M' => onBl x fun k => Q k M'
theorem dt_cmp {op : CmpOp} {r : RD2} (ho : OpD X (compareOp op) r) (ha : PE X a (low X.K ta)) (hb : PE X b (low X.K tb)) (hm : behindInMarks op b = false) : PT X (.Compare a [op] [b] pos) (lowT X.K (eTest (eOp r ta tb))) := by
  refine (pt_cmpR ho ha hb hm).imp fun σ H Q h => ?_
  obtain ⟨τ, M, Q', hs, hm', h, hq⟩ := h
  refine low_op ⟨τ, M, _, hs, hm', h, fun d M1 v H1 m1 e1 i1 h1 => ?_⟩
  cases i1 with
  | bl k => exact ⟨k, rfl, hq k M1 H1 m1 e1 h1⟩
  | _ => exact h1.elim
/-- an op1 b op2 c -/
def eChain (r r' : RD2) (ta tb tc : TEd) : TEd := fun τ M Q => ta τ M fun x M1 => tb τ M1 fun y M2 => r x y M2 fun z M3 => onBl z fun k => if k = true then tc τ M3 fun w' M4 => r' y w' M4 Q else Q (.bl false) M3
theorem low_chain {K : PySem.W.Frag} {r r' : RD2} {ta tb tc : TEd} {σ : St} {H : Hp} {Q : VK} (h : low K (eChain r r' ta tb tc) σ H Q) : tChain (lowR2 K r) (lowR2 K r') (low K ta) (low K tb) (low K tc) σ H Q := by
  obtain ⟨τ, M, Q', hs, hm, h, hq⟩ := h
  refine ⟨τ, M, _, hs, hm, h, fun x M1 vx H1 m1 e1 i1 h1 => ?_⟩
  refine ⟨τ, M1, _, hs.mono e1, m1, h1, fun y M2 vy H2 m2 e2 i2 h2 => ?_⟩
  refine ⟨x, y, M2, _, i1.mono e2, i2, m2, h2, fun z M3 vz H3 m3 e3 i3 h3 => ?_⟩
  cases i3 with
  | bl k =>
    refine ⟨k, rfl, ?_⟩
    cases k with
    | true =>
      rw [if_pos rfl]
      have h3 : tc τ M3 fun w' M4 => r' y w' M4 Q' := h3
      refine ⟨τ, M3, _, hs.mono (e1.trans (e2.trans e3)), m3, h3, fun w M4 vw H4 m4 e4 i4 h4 => ?_⟩
      exact ⟨y, w, M4, Q', i2.mono (e3.trans e4), i4, m4, h4, hq.ext (e1.trans (e2.trans (e3.trans e4)))⟩
    | false =>
      rw [if_neg Bool.false_ne_true]
      have h3 : Q' (.bl false) M3 := h3
      exact hq _ M3 _ H3 m3 (e1.trans (e2.trans e3)) (.bl false) h3
  | _ => exact h3.elim
theorem dt_chain {op op' : CmpOp} {r r' : RD2} (ho : OpD X (compareOp op) r) (ho' : OpD X (compareOp op') r') (ha : PE X a (low X.K ta)) (hb : PE X b (low X.K tb)) (hc : PE X c (low X.K tc))
    (hm : lastMarks [op, op'] [b, c] = false := by with_unfolding_all rfl) : PT X (.Compare a [op, op'] [b, c] pos) (lowT X.K (eTest (eChain r r' ta tb tc))) := by
  refine (pt_chain ho ho' ha hb hc hm).imp fun σ H Q h => ?_
  obtain ⟨τ, M, Q', hs, hm', h, hq⟩ := h
  refine low_chain ⟨τ, M, _, hs, hm', h, fun d M1 v H1 m1 e1 i1 h1 => ?_⟩
  cases i1 with
  | bl k => exact ⟨k, rfl, hq k M1 H1 m1 e1 h1⟩
  | _ => exact h1.elim
end
end DL

/-! Operations, subscripts, calls, statements over data. -/
namespace DL
open PySem PySem.Spec PyProof.Rows L2

section
variable {X : Cx} {e a b c : Expr} {es : List Expr} {pos : Pos} {ta tb tc : TEd}
theorem lowQ.here {K : PySem.W.Frag} {H : Hp} {Q' : KD} {Q : VK} {M : DH} {d : D} {v : V} (hq : lowQ K H Q' Q) (hm : HAbs K M H) (i : Is K H v d) (q : Q' d M) : Q v H := hq d M v H hm (Ext.refl H) i q

/-! ### ints -/
def dI (g : Int → Int → D) : D → D → DH → KD → Prop
  | .int i, .int j, M, Q => Q (g i j) M
  | _, _, _, _ => False
def dIC (C : Int → Int → Prop) (g : Int → Int → D) : D → D → DH → KD → Prop
  | .int i, .int j, M, Q => C i j ∧ Q (g i j) M
  | _, _, _, _ => False
theorem dI_inv {g : Int → Int → D} {x y : D} {M : DH} {Q : KD} (q : dI g x y M Q) : ∃ i j, x = .int i ∧ y = .int j ∧ Q (g i j) M := by
  cases x with
  | int i => cases y with
    | int j => exact ⟨i, j, rfl, rfl, q⟩
    | _ => exact q.elim
  | _ => exact q.elim
theorem dIC_inv {C : Int → Int → Prop} {g : Int → Int → D} {x y : D} {M : DH} {Q : KD} (q : dIC C g x y M Q) : ∃ i j, x = .int i ∧ y = .int j ∧ C i j ∧ Q (g i j) M := by
  cases x with
  | int i => cases y with
    | int j => exact ⟨i, j, rfl, rfl, q⟩
    | _ => exact q.elim
  | _ => exact q.elim
theorem od_I {f : Value → Value → Sem Value} {g : Int → Int → Int} (h : OpR X f (rI0 fun i j => .int (g i j))) : OpD X f (dI fun i j => .int (g i j)) := by
  intro pins s σ H vx vy v u Q I rx ry ⟨x, y, M, Q', ix, iy, hm, q, hq⟩
  obtain ⟨i, j, rfl, rfl, q⟩ := dI_inv q
  exact h pins s σ H _ _ v u Q I rx ry ⟨_, _, ix.inv, iy.inv, hq.here hm (.int _) q⟩
theorem od_IC {f : Value → Value → Sem Value} {C : Int → Int → Prop} {g : Int → Int → Int} (h : OpR X f (rI C fun i j => .int (g i j))) : OpD X f (dIC C fun i j => .int (g i j)) := by
  intro pins s σ H vx vy v u Q I rx ry ⟨x, y, M, Q', ix, iy, hm, q, hq⟩
  obtain ⟨i, j, rfl, rfl, q⟩ := dIC_inv q
  exact h pins s σ H _ _ v u Q I rx ry ⟨_, _, ix.inv, iy.inv, q.1, hq.here hm (.int _) q.2⟩
theorem od_B {f : Value → Value → Sem Value} {g : Int → Int → Bool} (h : OpR X f (rI0 fun i j => .bl (g i j))) : OpD X f (dI fun i j => .bl (g i j)) := by
  intro pins s σ H vx vy v u Q I rx ry ⟨x, y, M, Q', ix, iy, hm, q, hq⟩
  obtain ⟨i, j, rfl, rfl, q⟩ := dI_inv q
  exact h pins s σ H _ _ v u Q I rx ry ⟨_, _, ix.inv, iy.inv, hq.here hm (.bl _) q⟩
theorem od_sub : OpD X (binaryOp .Sub) (dI fun i j => .int (i - j)) := od_I op_sub
theorem od_mod : OpD X (binaryOp .Mod) (dIC (fun _ j => 0 < j) fun i j => .int (i % j)) := od_IC op_mod
theorem od_fdiv : OpD X (binaryOp .FloorDiv) (dIC CDiv fun i j => .int (i / j)) := od_IC op_fdiv
theorem od_pow : OpD X (binaryOp .Pow) (dIC CPow fun i j => .int (i ^ j.toNat)) := od_IC op_pow
theorem od_lt : OpD X (compareOp .Lt) (dI fun i j => .bl (decide (i < j))) := od_B op_lt
theorem od_gt : OpD X (compareOp .Gt) (dI fun i j => .bl (decide (j < i))) := od_B op_gt
theorem od_ge : OpD X (compareOp .GtE) (dI fun i j => .bl (decide (j ≤ i))) := od_B op_ge
/-! ### + -/
theorem cat_tup0 {t b : Addr} {ws : List Value} {prog : Program} {w : World} {A : Around} {E : Value → Shared → Prop} {s : Shared} {Q : Value → Shared → Prop} (ht : IsTup s.heap t #[]) (hb : IsTup s.heap b ws.toArray)
    (h : Q (.ref b) s) : wpAny (model prog w) A (binaryOp .Add (.ref t) (.ref b)) Q E s := by
  obtain ⟨⟨cls, dd, data, sl⟩, ho, hc, n, hd⟩ := id ht
  obtain ⟨⟨cls2, dd2, data2, sl2⟩, ho2, hc2, n2, hd2⟩ := id hb
  simp only at hc hd hc2 hd2
  subst hc hd hc2 hd2
  exact concat_meets ⟨_, ho, rfl⟩ ⟨_, ho2, rfl⟩ noFill_tuple_add seq_tuple_add PySem.F.slot_tuple_add PySem.F.entry_tuple_add (PySem.F.args_tuple_add_2 _ _)
      (tuple_addW0 t b #[] ws.toArray n n2 dd dd2 sl sl2 (by simp)) ⟨ho, ho2, h⟩
def addD : D → D → DH → KD → Prop
  | .int i, .int j, M, Q => Q (.int (i + j)) M
  | .str i, .str j, M, Q => i.length + j.length ≤ sizeLine ∧ Q (.str (i ++ j)) M
  | .tup xs, .tup ys, M, Q => xs.length + ys.length ≤ sizeLine ∧ Q (.tup (xs ++ ys)) M
  | .ref l, .ref r, M, Q => ∃ xs ys, LstAt M l xs ∧ LstAt M r ys ∧ xs.length + ys.length ≤ sizeLine ∧ ∀ p, M p = none → Q (.ref p) (updM M p (.lst (xs ++ ys)))
  | .rol xs, .ref r, M, Q => ∃ ys, LstAt M r ys ∧ xs.length + ys.length ≤ sizeLine ∧ ∀ p, M p = none → Q (.ref p) (updM M p (.lst (xs ++ ys)))
  | _, _, _, _ => False
theorem add_lists {pins : List (Addr × Obj)} {σ : St} {H : Hp} {s : Shared} {M : DH} {Q' : KD} {Q : VK} {l r : Addr} {us ws : List V} {xs ys : List D} (I : Inv X pins σ H s) (hm : HAbs X.K M H) (hu : SqL X.K H l us) (i1 : Iss X.K H us xs) (hw : SqL X.K H r ws) (i2 : Iss X.K H ws ys)
    (hz : xs.length + ys.length ≤ sizeLine) (q : ∀ p, M p = none → Q' (.ref p) (updM M p (.lst (xs ++ ys)))) (hq : lowQ X.K H Q' Q) : wpAny (model X.prog X.w) X.A (binaryOp .Add (.ref l) (.ref r)) (EP X pins σ Q) X.xe s := by
  obtain ⟨its, r1, p1, _⟩ := I.list hu
  obtain ⟨its2, r2, p2, _⟩ := I.list hw
  obtain ⟨⟨cls, dd, data, sl⟩, ho, hc, n, hd⟩ := p1.isList
  obtain ⟨⟨cls2, dd2, data2, sl2⟩, ho2, hc2, n2, hd2⟩ := p2.isList
  simp only at hc hd hc2 hd2
  subst hc hd hc2 hd2
  have hz' : its.toArray.size + its2.toArray.size ≤ sizeLine := by
    rw [List.size_toArray, List.size_toArray, ← r1.length, ← r2.length, i1.length, i2.length]; exact hz
  have ea : its.toArray ++ its2.toArray = (its ++ its2).toArray := by simp
  refine concat_meets ⟨_, ho, rfl⟩ ⟨_, ho2, rfl⟩ noFill_list_add seq_list_add PySem.F.slot_list_add PySem.F.entry_list_add (PySem.F.args_list_add_2 _ _) (list_addW l r its.toArray its2.toArray n n2 dd dd2 sl sl2 hz') ⟨ho, ho2, ?_⟩
  rw [ea]
  have hf : H s.heap.objs.size = none := I.fresh
  refine ⟨.ref _, _, I.lnew (t' := s.toks) (r1.append r2) (by rw [List.length_append, i1.length, i2.length]; exact hz), rfl, ?_⟩
  exact hq _ _ _ _ (hm.newL hf (i1.append i2)) (ext_new hf) (.ref _) (q _ (hm.free hf))
theorem od_add : OpD X (binaryOp .Add) addD := by
  intro pins s σ H vx vy v u Q I rx ry ⟨x, y, M, Q', ix, iy, hm, q, hq⟩
  cases ix with
  | int i => cases iy with
    | int j => exact op_add pins s σ H _ _ v u Q I rx ry ⟨_, _, rfl, rfl, hq.here hm (.int _) q⟩
    | _ => exact q.elim
  | str i => cases iy with
    | str j => exact op_add_str pins s σ H _ _ v u Q I rx ry ⟨_, _, rfl, rfl, q.1, hq.here hm (.str _) q.2⟩
    | _ => exact q.elim
  | @tup a xs ds hx hxs => cases iy with
    | @tup b ys es hy hys =>
      obtain ⟨hz, q⟩ := q
      have hz' : xs.length + ys.length ≤ sizeLine := by rw [hxs.length, hys.length]; exact hz
      by_cases h0 : xs = []
      · subst h0
        cases hxs
        cases rx
        cases ry
        obtain ⟨its, r1, p1, _⟩ := I.tuple hx
        obtain ⟨its2, r2, p2, _⟩ := I.tuple hy
        cases r1
        exact cat_tup0 p1 p2 ⟨.ref b, H, I, rfl, hq.here hm (.tup hy hys) q⟩
      · refine op_catT pins s σ H _ _ v u Q I rx ry ⟨a, b, xs, ys, rfl, rfl, hx, hy, h0, hz', fun z => ?_, fun z p hp => ?_⟩
        · subst z
          cases hys
          rw [List.append_nil] at q
          exact hq.here hm (.tup hx hxs) q
        · exact hq _ M _ _ (hm.new hp) (ext_new hp) (.tup (SqT.of upd_same) ((hxs.append hys).mono (ext_new hp))) q
    | _ => exact q.elim
  | ref l => cases iy with
    | ref r =>
      obtain ⟨xs, ys, hl, hr, hz, q⟩ := q
      cases rx
      cases ry
      obtain ⟨us, hu, i1⟩ := hm.lst hl
      obtain ⟨ws, hw, i2⟩ := hm.lst hr
      exact add_lists I hm hu i1 hw i2 hz q hq
    | _ => exact q.elim
  | rol h hxs => cases iy with
    | ref r =>
      obtain ⟨ys, hr, hz, q⟩ := q
      cases rx
      cases ry
      obtain ⟨ws, hw, i2⟩ := hm.lst hr
      exact add_lists I hm h.sq hxs hw i2 hz q hq
    | _ => exact q.elim
  | _ => exact q.elim

/-! ### * : ints -/
/-! ### == -/
mutual
def D.eq : D → D → Bool
  | .non, .non => true
  | .bl a, .bl b => a == b
  | .bl a, .int j => (if a then 1 else 0) == j
  | .int i, .bl b => i == (if b then 1 else 0)
  | .int i, .int j => i == j
  | .str x, .str y => x == y
  | .tup xs, .tup ys => D.eqs xs ys
  | _, _ => false
def D.eqs : List D → List D → Bool
  | [], [] => true
  | x :: xs, y :: ys => D.eq x y && D.eqs xs ys
  | _, _ => false
end
mutual
/-- how deep tuples stand in one another -/
def D.dep : D → Nat
  | .tup ds => D.deps ds + 1
  | _ => 0
def D.deps : List D → Nat
  | [] => 0
  | d :: ds => max (D.dep d) (D.deps ds)
end
mutual
/-- no list within -/
def D.pure : D → Bool
  | .ref _ => false
  | .tup ds => D.pures ds
  | _ => true
def D.pures : List D → Bool
  | [] => true
  | d :: ds => D.pure d && D.pures ds
end
end
end DL

/-! == and != of data. -/
namespace DL
open PySem PySem.Spec PyProof.Rows L2

/-- scalars -/
@[simp] def D.plain : D → Bool
  | .non => true
  | .bl _ => true
  | .int _ => true
  | .str _ => true
  | _ => false
theorem nof {P : Prop} (h : false = true) : P := nomatch h
mutual
/-- the pairs that are compared here: scalars with scalars, tuples with tuples -/
def D.eqOk : D → D → Bool
  | .tup xs, .tup ys => D.eqOks xs ys
  | x, y => x.plain && y.plain
def D.eqOks : List D → List D → Bool
  | x :: xs, y :: ys => D.eqOk x y && D.eqOks xs ys
  | _, _ => true
end
def pairEq (xs ys : List D) (j : Nat) : Bool := match xs[j]?, ys[j]? with
  | some x, some y => D.eq x y
  | _, _ => true
theorem eqs_all : ∀ xs ys : List D, ((List.range (min xs.length ys.length)).all (pairEq xs ys) && xs.length == ys.length) = D.eqs xs ys
  | [], [] => rfl
  | [], y :: ys => rfl
  | x :: xs, [] => rfl
  | x :: xs, y :: ys => by
    have ih := eqs_all xs ys
    have e1 : min (x :: xs).length (y :: ys).length = min xs.length ys.length + 1 := by simp [Nat.succ_min_succ]
    rw [e1, List.range_succ_eq_map, List.all_cons, List.all_map]
    have e2 : (pairEq (x :: xs) (y :: ys)) ∘ Nat.succ = pairEq xs ys := by funext j; simp [pairEq]
    rw [e2]
    have e3 : pairEq (x :: xs) (y :: ys) 0 = D.eq x y := rfl
    have e4 : ((x :: xs).length == (y :: ys).length) = (xs.length == ys.length) := by simp
    rw [e3, e4, Bool.and_assoc, ih]
    rfl
theorem eqOks_get : ∀ {xs ys : List D} {j : Nat} {x y : D}, D.eqOks xs ys = true → xs[j]? = some x → ys[j]? = some y → D.eqOk x y = true
  | x :: xs, y :: ys, 0, _, _, h, e1, e2 => by
    simp at e1 e2; subst e1 e2
    simp only [D.eqOks, Bool.and_eq_true] at h; exact h.1
  | x :: xs, y :: ys, j + 1, _, _, h, e1, e2 => by
    simp only [D.eqOks, Bool.and_eq_true] at h
    exact eqOks_get (j := j) h.2 (by simpa using e1) (by simpa using e2)
  | [], _, _, _, _, _, e1, _ => by simp at e1
  | _ :: _, [], _, _, _, _, _, e2 => by simp at e2
theorem deps_get : ∀ {xs : List D} {j : Nat} {x : D}, xs[j]? = some x → D.dep x ≤ D.deps xs
  | x :: xs, 0, _, e => by simp at e; subst e; simp only [D.deps]; omega
  | x :: xs, j + 1, _, e => by
    have := deps_get (xs := xs) (j := j) (by simpa using e)
    simp only [D.deps]; omega
  | [], _, _, e => by simp at e
theorem eq_refl_aux : ∀ n : Nat, (∀ d d' : D, D.dep d ≤ n → D.eqOk d d' = true → d = d' → D.eq d d' = true) := by
  intro n
  induction n with
  | zero =>
    intro d d' h ok e
    subst e
    cases d with
    | tup ds => simp [D.dep] at h
    | ref a => exact nof ok
    | ty a => exact nof ok
    | rol a => exact nof ok
    | non => rfl
    | bl b => exact decide_eq_true rfl
    | int i => exact decide_eq_true rfl
    | str x => exact decide_eq_true rfl
  | succ n ih =>
    intro d d' h ok e
    subst e
    cases d with
    | tup ds =>
      simp only [D.dep] at h
      replace ok : D.eqOks ds ds = true := ok
      show D.eqs ds ds = true
      have : ∀ xs : List D, D.deps xs ≤ n → D.eqOks xs xs = true → D.eqs xs xs = true := by
        intro xs
        induction xs with
        | nil => intros; rfl
        | cons x xs ihx =>
          intro h1 h2
          simp only [D.deps] at h1
          simp only [D.eqOks, Bool.and_eq_true] at h2
          exact Bool.and_eq_true_iff.mpr ⟨ih x x (by omega) h2.1 rfl, ihx (by omega) h2.2⟩
      exact this ds (by omega) ok
    | ref a => exact nof ok
    | ty a => exact nof ok
    | rol a => exact nof ok
    | non => rfl
    | bl b => exact decide_eq_true rfl
    | int i => exact decide_eq_true rfl
    | str x => exact decide_eq_true rfl
mutual
theorem Is.inj' {X : Cx} {pins : List (Addr × Obj)} {σ : St} {H : Hp} {s : Shared} (I : Inv X pins σ H s) : ∀ (d : D) {v : V} {d' : D}, Is X.K H v d → Is X.K H v d' → D.eqOk d d' = true → d = d'
  | .non, _, _, i, j, _ => by cases i; cases j; rfl
  | .bl _, _, _, i, j, _ => by cases i; cases j; rfl
  | .int _, _, _, i, j, _ => by cases i; cases j; rfl
  | .str _, _, _, i, j, _ => by cases i; cases j; rfl
  | .ref _, _, _, _, _, h => nof h
  | .ty _, _, _, _, _, h => nof h
  | .rol _, _, _, _, _, h => nof h
  | .tup ds, _, _, i, j, h => by
    cases i with
    | tup h1 i1 => cases j with
      | tup h2 i2 =>
        cases I.tuple_inj h1 h2
        exact congrArg D.tup (Iss.inj' I ds i1 i2 h)
      | ref _ => exact nof h
      | rol _ _ => exact nof h
theorem Iss.inj' {X : Cx} {pins : List (Addr × Obj)} {σ : St} {H : Hp} {s : Shared} (I : Inv X pins σ H s) : ∀ (ds : List D) {vs : List V} {es : List D}, Iss X.K H vs ds → Iss X.K H vs es → D.eqOks ds es = true → ds = es
  | [], _, _, i, j, _ => by cases i; cases j; rfl
  | d :: ds, _, _, i, j, h => by
    cases i with
    | cons i1 t1 => cases j with
      | cons i2 t2 =>
        have h := Bool.and_eq_true_iff.mp h
        rw [Is.inj' I d i1 i2 h.1, Iss.inj' I ds t1 t2 h.2]
end
theorem Is.inj {X : Cx} {pins : List (Addr × Obj)} {σ : St} {H : Hp} {s : Shared} (I : Inv X pins σ H s) {v : V} {d d' : D} (i : Is X.K H v d) (j : Is X.K H v d') (h : D.eqOk d d' = true) : d = d' := Is.inj' I d i j h
def D.sv : D → V
  | .bl b => .bl b
  | .int i => .int i
  | .str x => .str x
  | _ => .non
theorem Is.sv {K : PySem.W.Frag} {H : Hp} {v : V} {d : D} (i : Is K H v d) (p : d.plain = true) : v = d.sv ∧ flatV d.sv = true := by
  cases i <;> first | exact ⟨rfl, rfl⟩ | exact nof p
theorem sv_eq : ∀ d d' : D, d.plain = true → d'.plain = true → eqV d.sv d'.sv = D.eq d d' := by
  intro d d' p p'
  cases d <;> first | exact nof p | (cases d' <;> first | exact nof p' | rfl)
theorem eqOk_plain {d d' : D} (ok : D.eqOk d d' = true) (nt : D.dep d = 0) : d.plain = true ∧ d'.plain = true := by
  cases d <;> first | exact Bool.and_eq_true_iff.mp ok | exact absurd nt (Nat.succ_ne_zero _)
theorem flat_eq {K : PySem.W.Frag} {H : Hp} {v v' : V} {d d' : D} (i : Is K H v d) (i' : Is K H v' d') (ok : D.eqOk d d' = true) (nt : D.dep d = 0) : flatV v = true ∧ flatV v' = true ∧ eqV v v' = D.eq d d' := by
  obtain ⟨p, p'⟩ := eqOk_plain ok nt
  obtain ⟨e, f⟩ := i.sv p
  obtain ⟨e', f'⟩ := i'.sv p'
  rw [e, e']
  exact ⟨f, f', sv_eq d d' p p'⟩
theorem in1_units (A : Around) : A.in1.units = A.units + 1 := rfl
theorem eqAt_D {X : Cx} {pins : List (Addr × Obj)} {σ : St} {H : Hp} {s : Shared} (I : Inv X pins σ H s) : ∀ (n : Nat) (d d' : D) (A : Around) (v v' : V) (u u' : Value), D.dep d ≤ n → A.units + n < cLine → D.eqOk d d' = true →
    Is X.K H v d → Is X.K H v' d' → RelV v u → RelV v' u' → SeqAt.EqAt A s u u' (D.eq d d') ∧ (D.dep d ≠ 0 → SeqAt.RcAt A s u u' (D.eq d d') ∧ SeqAt.RcNeAt A s u u' (!D.eq d d')) := by
  intro n
  induction n with
  | zero =>
    intro d d' A v v' u u' hd hu ok i i' r r'
    obtain ⟨f1, f2, f3⟩ := flat_eq i i' ok (by omega)
    rw [← f3]
    exact ⟨eqAt_V r r' f1 f2, fun z => absurd (by omega) z⟩
  | succ n ih =>
    intro d d' A v v' u u' hd hu ok i i' r r'
    by_cases h0 : D.dep d = 0
    · obtain ⟨f1, f2, f3⟩ := flat_eq i i' ok h0
      rw [← f3]
      exact ⟨eqAt_V r r' f1 f2, fun z => absurd h0 z⟩
    · cases i with
      | @tup a xs ds hx hxs =>
        cases i' with
        | @tup b ys es hy hys =>
          cases r
          cases r'
          obtain ⟨its, r1, p1, _⟩ := I.tuple hx
          obtain ⟨its2, r2, p2, _⟩ := I.tuple hy
          have n1 : its.toArray.size = ds.length := by rw [List.size_toArray, ← r1.length, hxs.length]
          have n2 : its2.toArray.size = es.length := by rw [List.size_toArray, ← r2.length, hys.length]
          simp only [D.dep] at hd
          have he : ∀ j (h1 : j < its.toArray.size) (h2 : j < its2.toArray.size), SeqAt.EqAt A.in1 s its.toArray[j] its2.toArray[j] (pairEq ds es j) := by
            intro j h1 h2
            have q1 : ds[j]? = some ds[j] := List.getElem?_eq_getElem (by omega)
            have q2 : es[j]? = some es[j] := List.getElem?_eq_getElem (by omega)
            obtain ⟨x, ex, ix⟩ := hxs.get q1
            obtain ⟨y, ey, iy⟩ := hys.get q2
            obtain ⟨ux, eu, ru⟩ := r1.get ex
            obtain ⟨uy, ew, rw'⟩ := r2.get ey
            have g1 : its.toArray[j] = ux := by
              have : its[j]? = some its[j] := List.getElem?_eq_getElem (by simpa using h1)
              rw [this] at eu; simpa using eu
            have g2 : its2.toArray[j] = uy := by
              have : its2[j]? = some its2[j] := List.getElem?_eq_getElem (by simpa using h2)
              rw [this] at ew; simpa using ew
            rw [g1, g2]
            have pe : pairEq ds es j = D.eq ds[j] es[j] := by unfold pairEq; rw [q1, q2]
            rw [pe]
            have dg := deps_get q1
            exact (ih _ _ A.in1 x y ux uy (by omega) (by rw [in1_units]; omega) (eqOks_get (show D.eqOks ds es = true from ok) q1 q2) ix iy ru rw').1
          have hrc : SeqAt.RcAt A s (.ref a) (.ref b) (D.eqs ds es) := by
            rw [← eqs_all ds es, ← n1, ← n2]
            exact SeqAt.RcAt.tuples p1 p2 (by omega) he
          have hne : SeqAt.RcNeAt A s (.ref a) (.ref b) (!D.eqs ds es) := by
            rw [← eqs_all ds es, ← n1, ← n2]
            exact SeqAt.RcNeAt.tuples p1 p2 (by omega) he
          refine ⟨?_, fun _ => ⟨hrc, hne⟩⟩
          by_cases hab : a = b
          · subst hab
            have e := Is.inj I (.tup hx hxs) (.tup hy hys) ok
            rw [eq_refl_aux _ _ _ (Nat.le_refl _) ok e]
            exact SeqAt.EqAt.same _
          · exact SeqAt.EqAt.of_refs hab hrc
        | _ => exact nof ok
      | _ => exact absurd rfl h0

section
variable {X : Cx}
/-- ==; of two lists only against an empty one -/
def eqD : D → D → DH → KD → Prop
  | .ref l, .ref r, M, Q => ∃ xs ys, LstAt M l xs ∧ LstAt M r ys ∧ (xs = [] ∨ ys = []) ∧ Q (.bl (xs.isEmpty && ys.isEmpty)) M
  | .tup xs, .tup ys, M, Q => D.eqOks xs ys = true ∧ D.deps xs ≤ 150 ∧ Q (.bl (D.eqs xs ys)) M
  | .int i, .int j, M, Q => Q (.bl (decide (i = j))) M
  | .str i, .str j, M, Q => Q (.bl (decide (i = j))) M
  | .bl i, .bl j, M, Q => Q (.bl (decide (i = j))) M
  | .non, .non, M, Q => Q (.bl true) M
  | _, _, _, _ => False
def neD : D → D → DH → KD → Prop
  | .ref l, .ref r, M, Q => ∃ xs ys, LstAt M l xs ∧ LstAt M r ys ∧ (xs = [] ∨ ys = []) ∧ Q (.bl (!(xs.isEmpty && ys.isEmpty))) M
  | .tup xs, .tup ys, M, Q => D.eqOks xs ys = true ∧ D.deps xs ≤ 150 ∧ Q (.bl (!D.eqs xs ys)) M
  | .int i, .int j, M, Q => Q (.bl (!decide (i = j))) M
  | .str i, .str j, M, Q => Q (.bl (!decide (i = j))) M
  | .bl i, .bl j, M, Q => Q (.bl (!decide (i = j))) M
  | _, _, _, _ => False
theorem dV_int {i j : Int} : decide (V.int i = V.int j) = decide (i = j) := by by_cases h : i = j <;> simp [h]
theorem dV_str {i j : Str} : decide (V.str i = V.str j) = decide (i = j) := by by_cases h : i = j <;> simp [h]
theorem dV_bl {i j : Bool} : decide (V.bl i = V.bl j) = decide (i = j) := by by_cases h : i = j <;> simp [h]
theorem list_two {xs ys : List D} (h : xs = [] ∨ ys = []) : (xs.length = ys.length ∧ xs = [] ∧ ys = []) ∨ (xs.length ≠ ys.length ∧ (xs.isEmpty && ys.isEmpty) = false) := by
  cases xs with
  | nil => cases ys with
    | nil => exact .inl ⟨rfl, rfl, rfl⟩
    | cons y ys => exact .inr ⟨by simp, rfl⟩
  | cons x xs => cases ys with
    | nil => exact .inr ⟨by simp, rfl⟩
    | cons y ys => rcases h with h | h <;> cases h
theorem od_eq {k : Nat} (hr : Room k X.A) : OpD X (compareOp .Eq) eqD := by
  intro pins s σ H vx vy v u Q I rx ry ⟨x, y, M, Q', ix, iy, hm, q, hq⟩
  have hu : X.A.units + 200 < cLine := by have := hr.un; omega
  cases ix with
  | non => cases iy with
    | non => exact op_eq pins s σ H _ _ v u Q I rx ry ⟨rfl, hq.here hm (.bl _) (by have q' : Q' (.bl true) M := q; simpa using q')⟩
    | _ => exact q.elim
  | int i => cases iy with
    | int j => exact op_eq pins s σ H _ _ v u Q I rx ry ⟨rfl, hq.here hm (.bl _) (by rw [dV_int]; exact q)⟩
    | _ => exact q.elim
  | str i => cases iy with
    | str j => exact op_eq pins s σ H _ _ v u Q I rx ry ⟨rfl, hq.here hm (.bl _) (by rw [dV_str]; exact q)⟩
    | _ => exact q.elim
  | bl i => cases iy with
    | bl j => exact op_eq pins s σ H _ _ v u Q I rx ry ⟨rfl, hq.here hm (.bl _) (by rw [dV_bl]; exact q)⟩
    | _ => exact q.elim
  | ty n => exact q.elim
  | rol h hxs => first | exact q.elim | (cases iy <;> exact q.elim)
  | @tup a xs ds hx hxs => cases iy with
    | @tup b ys es hy hys =>
      obtain ⟨ok, dp, q⟩ := q
      have z := (eqAt_D I 151 (.tup ds) (.tup es) X.A (.ref a) (.ref b) v u (Nat.succ_le_succ dp) (by omega) ok (.tup hx hxs) (.tup hy hys) rx ry).2 (Nat.succ_ne_zero _)
      exact z.1 _ _ _ _ ⟨.bl _, H, I, rfl, hq.here hm (.bl _) q⟩
    | _ => exact q.elim
  | ref l => cases iy with
    | ref r =>
      obtain ⟨xs, ys, hl, hr', hz, q⟩ := q
      cases rx
      cases ry
      obtain ⟨us, hu1, i1⟩ := hm.lst hl
      obtain ⟨ws, hw, i2⟩ := hm.lst hr'
      obtain ⟨its, r1, p1, _⟩ := I.list hu1
      obtain ⟨its2, r2, p2, _⟩ := I.list hw
      have n1 : its.toArray.size = xs.length := by rw [List.size_toArray, ← r1.length, i1.length]
      have n2 : its2.toArray.size = ys.length := by rw [List.size_toArray, ← r2.length, i2.length]
      rcases list_two hz with ⟨he, h1, h2⟩ | ⟨hn, hb⟩
      · subst h1 h2
        refine SeqAt.eq_listAt (e := fun _ => true) p1.isList p2.isList (by rw [n1, n2]) (by omega) (fun j h1 => absurd h1 (by rw [n1]; simp)) ⟨.bl _, H, I, rfl, hq.here hm (.bl _) ?_⟩
        rw [n1]
        simpa using q
      · rw [hb] at q
        exact SeqAt.eq_list_lengthsAt p1.isList p2.isList (by rw [n1, n2]; simpa using hn) (by omega) ⟨.bl _, H, I, rfl, hq.here hm (.bl _) q⟩
    | _ => exact q.elim
theorem od_ne {k : Nat} (hr : Room k X.A) : OpD X (compareOp .NotEq) neD := by
  intro pins s σ H vx vy v u Q I rx ry ⟨x, y, M, Q', ix, iy, hm, q, hq⟩
  have hu : X.A.units + 200 < cLine := by have := hr.un; omega
  cases ix with
  | non => exact q.elim
  | int i => cases iy with
    | int j => exact op_ne pins s σ H _ _ v u Q I rx ry ⟨rfl, hq.here hm (.bl _) (by rw [dV_int]; exact q)⟩
    | _ => exact q.elim
  | str i => cases iy with
    | str j => exact op_ne pins s σ H _ _ v u Q I rx ry ⟨rfl, hq.here hm (.bl _) (by rw [dV_str]; exact q)⟩
    | _ => exact q.elim
  | bl i => cases iy with
    | bl j => exact op_ne pins s σ H _ _ v u Q I rx ry ⟨rfl, hq.here hm (.bl _) (by rw [dV_bl]; exact q)⟩
    | _ => exact q.elim
  | ty n => exact q.elim
  | rol h hxs => first | exact q.elim | (cases iy <;> exact q.elim)
  | @tup a xs ds hx hxs => cases iy with
    | @tup b ys es hy hys =>
      obtain ⟨ok, dp, q⟩ := q
      have z := (eqAt_D I 151 (.tup ds) (.tup es) X.A (.ref a) (.ref b) v u (Nat.succ_le_succ dp) (by omega) ok (.tup hx hxs) (.tup hy hys) rx ry).2 (Nat.succ_ne_zero _)
      exact z.2 _ _ _ _ ⟨.bl _, H, I, rfl, hq.here hm (.bl _) q⟩
    | _ => exact q.elim
  | ref l => cases iy with
    | ref r =>
      obtain ⟨xs, ys, hl, hr', hz, q⟩ := q
      cases rx
      cases ry
      obtain ⟨us, hu1, i1⟩ := hm.lst hl
      obtain ⟨ws, hw, i2⟩ := hm.lst hr'
      obtain ⟨its, r1, p1, _⟩ := I.list hu1
      obtain ⟨its2, r2, p2, _⟩ := I.list hw
      have n1 : its.toArray.size = xs.length := by rw [List.size_toArray, ← r1.length, i1.length]
      have n2 : its2.toArray.size = ys.length := by rw [List.size_toArray, ← r2.length, i2.length]
      rcases list_two hz with ⟨he, h1, h2⟩ | ⟨hn, hb⟩
      · subst h1 h2
        refine SeqAt.RcNeAt.lists (e := fun _ => true) p1.isList p2.isList (by rw [n1, n2]) (by omega) (fun j h1 => absurd h1 (by rw [n1]; simp)) _ _ _ _ ⟨.bl _, H, I, rfl, hq.here hm (.bl _) ?_⟩
        rw [n1]
        simpa using q
      · rw [hb] at q
        exact SeqAt.RcNeAt.lists_lengths p1.isList p2.isList (by rw [n1, n2]; simpa using hn) (by omega) _ _ _ _ ⟨.bl _, H, I, rfl, hq.here hm (.bl _) q⟩
    | _ => exact q.elim
end
end DL

/-! Displays, calls, subscripts, slices over data. -/
namespace DL
open PySem PySem.Spec PyProof.Rows L2

section
variable {X : Cx} {e a b c : Expr} {es : List Expr} {pos : Pos} {ta tb tc te : TEd} {t : TAd}
/-! ### arguments -/
def eNil : TAd := fun _ M Q => Q [] M
def eCons (ta : TEd) (tr : TAd) : TAd := fun τ M Q => ta τ M fun x M1 => tr τ M1 fun xs M2 => Q (x :: xs) M2
theorem a_nil : PA X [] (lowA X.K eNil) := pa_nil.imp fun σ H Q ⟨τ, M, Q', hs, hm, h, hq⟩ => hq [] M [] H hm (Ext.refl H) .nil h
theorem a_cons (ha : PE X e (low X.K te)) (hr : PA X es (lowA X.K t)) (hs : starEach (e :: es) X.env = (false, eval e X.env) :: starEach es X.env := by rfl) : PA X (e :: es) (lowA X.K (eCons te t)) :=
  (pa_cons ha hr hs).imp fun σ H Q ⟨τ, M, Q', hs, hm, h, hq⟩ =>
    ⟨τ, M, _, hs, hm, h, fun x M1 vx H1 m1 e1 i1 h1 => ⟨τ, M1, _, hs.mono e1, m1, h1, fun xs M2 vs H2 m2 e2 i2 h2 => hq (x :: xs) M2 (vx :: vs) H2 m2 (e1.trans e2) (.cons (i1.mono e2) i2) h2⟩⟩
/-! ### displays -/
def eTup (t : TAd) : TEd := fun τ M Q => t τ M fun xs M1 => if xs.length ≤ 1000 then Q (.tup xs) M1 else False
def eLst (t : TAd) : TEd := fun τ M Q => t τ M fun xs M1 => if xs.length ≤ 1000 then ∀ p, M1 p = none → Q (.ref p) (updM M1 p (.lst xs)) else False
theorem line1000 {n : Nat} (h : n ≤ 1000) : n ≤ sizeLine := Nat.le_of_lt (small1000 h)
theorem d_tup {x1} (h : PA X es (lowA X.K t)) : PE X (.Tuple es x1 pos) (low X.K (eTup t)) :=
  (pe_tup h).imp fun σ H Q ⟨τ, M, Q', hs, hm, h, hq⟩ => ⟨τ, M, _, hs, hm, h, fun xs M1 vs H1 m1 e1 i1 h1 => by
    by_cases hl : xs.length ≤ 1000
    · rw [if_pos hl] at h1
      refine ⟨by rw [i1.length]; exact line1000 hl, fun p hp => ?_⟩
      exact hq _ M1 _ _ (m1.new hp) (e1.trans (ext_new hp)) (.tup (SqT.of upd_same) (i1.mono (ext_new hp))) h1
    · rw [if_neg hl] at h1; exact h1.elim⟩
theorem d_lst (h : PA X es (lowA X.K t)) : PE X (.List es pos) (low X.K (eLst t)) :=
  (pe_lst h).imp fun σ H Q ⟨τ, M, Q', hs, hm, h, hq⟩ => ⟨τ, M, _, hs, hm, h, fun xs M1 vs H1 m1 e1 i1 h1 => by
    by_cases hl : xs.length ≤ 1000
    · rw [if_pos hl] at h1
      refine ⟨by rw [i1.length]; exact line1000 hl, fun p hp => ?_⟩
      exact hq _ _ _ _ (m1.newL hp i1) (e1.trans (ext_new hp)) (.ref p) (h1 p (m1.free hp))
    · rw [if_neg hl] at h1; exact h1.elim⟩
/-! ### calls of what Python has -/
abbrev RC := List D → DH → KD → Prop
def lowC (K : PySem.W.Frag) (r : RC) : List V → Hp → VK → Prop := fun vs H Q => ∃ ds M Q', Iss K H vs ds ∧ HAbs K M H ∧ r ds M Q' ∧ lowQ K H Q' Q
def CallD (X : Cx) (f : Value) (r : RC) : Prop := CallR X f (lowC X.K r)
def eCB (r : RC) (t : TAd) : TEd := fun τ M Q => t τ M fun ds M1 => r ds M1 Q
theorem low_cb {K : PySem.W.Frag} {r : RC} {t : TAd} {σ : St} {H : Hp} {Q : VK} (h : low K (eCB r t) σ H Q) : tCB (lowC K r) (lowA K t) σ H Q := by
  obtain ⟨τ, M, Q', hs, hm, h, hq⟩ := h
  exact ⟨τ, M, _, hs, hm, h, fun ds M1 vs H1 m1 e1 i1 h1 => ⟨ds, M1, Q', i1, m1, h1, hq.ext e1⟩⟩
variable {x : Str} {p : Pos} {id T : String} {r : RC}
theorem d_callB (hc : CallD X (.builtin id) r) (hg : Gl X x) (hm : X.mg x = none) (hv : bootBuiltins x = some (.builtin id)) (ha : PA X (e :: es) (lowA X.K t)) (hn : x ≠ "__name__" := by decide) (hdb : (x == ("__debug__" : Str)) = false := by decide)
    (he : starEach (e :: es) X.env = (false, eval e X.env) :: starEach es X.env := by rfl) (hpl : (backTo pos (starEach es X.env)).any (·.1) = false := by rfl) : PE X (.Call (.Name x p) (e :: es) [] pos) (low X.K (eCB r t)) :=
  (pe_callB hc hg hm hv ha hn hdb he hpl).imp fun _ _ _ h => low_cb h
theorem d_callTy (hc : CallD X (.type T) r) (hg : Gl X x) (hm : X.mg x = none) (hv : bootBuiltins x = some (.type T)) (ha : PA X (e :: es) (lowA X.K t)) (hn : x ≠ "__name__" := by decide) (hdb : (x == ("__debug__" : Str)) = false := by decide)
    (he : starEach (e :: es) X.env = (false, eval e X.env) :: starEach es X.env := by rfl) (hpl : (backTo pos (starEach es X.env)).any (·.1) = false := by rfl) : PE X (.Call (.Name x p) (e :: es) [] pos) (low X.K (eCB r t)) :=
  (pe_callTy hc hg hm hv ha hn hdb he hpl).imp fun _ _ _ h => low_cb h
/-- a type's name -/
theorem d_ty {n : String} (hg : Gl X x) (hm : X.mg x = none) (hv : bootBuiltins x = some (.type n)) (hn : x ≠ "__name__" := by decide) (hd : (x == ("__debug__" : Str)) = false := by decide) : PE X (.Name x pos) (low X.K (eC (.ty n))) :=
  (pe_bltn (v := .ty n) hg hm hv rfl hn hd).imp fun _ _ _ h => low_const (fun _ => .ty n) h

theorem iss1 {K : PySem.W.Frag} {H : Hp} {vs : List V} {d : D} (h : Iss K H vs [d]) : ∃ v, vs = [v] ∧ Is K H v d := by
  cases h with
  | cons i t => cases t; exact ⟨_, rfl, i⟩
theorem iss2 {K : PySem.W.Frag} {H : Hp} {vs : List V} {d d' : D} (h : Iss K H vs [d, d']) : ∃ v v', vs = [v, v'] ∧ Is K H v d ∧ Is K H v' d' := by
  cases h with
  | cons i t => obtain ⟨v', rfl, i'⟩ := iss1 t; exact ⟨_, _, rfl, i, i'⟩

/-! ### len -/
def lenD : List D → DH → KD → Prop
  | [.str z], M, Q => z.length ≤ sizeLine ∧ Q (.int z.length) M
  | [.tup xs], M, Q => Q (.int xs.length) M
  | [.rol xs], M, Q => Q (.int xs.length) M
  | [.ref l], M, Q => ∃ xs, LstAt M l xs ∧ Q (.int xs.length) M
  | _, _, _ => False
theorem cd_len : CallD X (.builtin "len") lenD := by
  intro pins s σ H vs us Q I r ⟨ds, M, Q', iss, hm, q, hq⟩
  match ds, q, iss with
  | [.str z], q, iss =>
    obtain ⟨v, rfl, i⟩ := iss1 iss
    (first | cases i.inv | cases i)
    exact call_len_str pins s σ H _ us Q I r ⟨z, rfl, q.1, hq.here hm (.int _) q.2⟩
  | [.tup xs], q, iss =>
    obtain ⟨v, rfl, i⟩ := iss1 iss
    cases i with
    | tup h hs => exact call_len_seq pins s σ H _ us Q I r ⟨_, _, rfl, .inr h, hq.here hm (.int _) (by rw [hs.length]; exact q)⟩
  | [.rol xs], q, iss =>
    obtain ⟨v, rfl, i⟩ := iss1 iss
    cases i with
    | rol h hs => exact call_len_seq pins s σ H _ us Q I r ⟨_, _, rfl, .inl h.sq, hq.here hm (.int _) (by rw [hs.length]; exact q)⟩
  | [.ref l], q, iss =>
    obtain ⟨v, rfl, i⟩ := iss1 iss
    (first | cases i.inv | cases i)
    obtain ⟨xs, hl, q⟩ := q
    obtain ⟨ys, h, hs⟩ := hm.lst hl
    exact call_len_seq pins s σ H _ us Q I r ⟨_, _, rfl, .inl h, hq.here hm (.int _) (by rw [hs.length]; exact q)⟩
/-! ### int(b), max, min of two -/
def intD : List D → DH → KD → Prop
  | [.int i], M, Q => Q (.int i) M
  | [.bl k], M, Q => Q (.int (if k then 1 else 0)) M
  | _, _, _ => False
theorem cd_int : CallD X (.type "int") intD := by
  intro pins s σ H vs us Q I r ⟨ds, M, Q', iss, hm, q, hq⟩
  match ds, q, iss with
  | [.int j], q, iss =>
    obtain ⟨v, rfl, i⟩ := iss1 iss
    (first | cases i.inv | cases i)
    exact call_int1 pins s σ H _ us Q I r (.inl ⟨_, rfl, hq.here hm (.int _) q⟩)
  | [.bl k], q, iss =>
    obtain ⟨v, rfl, i⟩ := iss1 iss
    (first | cases i.inv | cases i)
    exact call_int1 pins s σ H _ us Q I r (.inr ⟨_, rfl, hq.here hm (.int _) q⟩)
/-! ### tuple(x), list(x) -/
def tupleD : List D → DH → KD → Prop
  | [.tup xs], M, Q => Q (.tup xs) M
  | [.ref l], M, Q => ∃ xs, LstAt M l xs ∧ Q (.tup xs) M
  | _, _, _ => False
theorem cd_tuple : CallD X (.type "tuple") tupleD := by
  intro pins s σ H vs us Q I r ⟨ds, M, Q', iss, hm, q, hq⟩
  match ds, q, iss with
  | [.tup xs], q, iss =>
    obtain ⟨v, rfl, i⟩ := iss1 iss
    cases i with
    | tup h hs => exact call_tuple_of pins s σ H _ us Q I r ⟨_, _, rfl, .inr ⟨h, hq.here hm (.tup h hs) q⟩⟩
  | [.ref l], q, iss =>
    obtain ⟨v, rfl, i⟩ := iss1 iss
    (first | cases i.inv | cases i)
    obtain ⟨xs, hl, q⟩ := q
    obtain ⟨ys, h, hs⟩ := hm.lst hl
    exact call_tuple_of pins s σ H _ us Q I r ⟨_, _, rfl, .inl ⟨h, fun p hp => hq _ M _ _ (hm.new hp) (ext_new hp) (.tup (SqT.of upd_same) (hs.mono (ext_new hp))) q⟩⟩
def listD : List D → DH → KD → Prop
  | [.tup xs], M, Q => ∀ p, M p = none → Q (.ref p) (updM M p (.lst xs))
  | [.ref l], M, Q => ∃ xs, LstAt M l xs ∧ ∀ p, M p = none → Q (.ref p) (updM M p (.lst xs))
  | _, _, _ => False
theorem cd_list : CallD X (.type "list") listD := by
  intro pins s σ H vs us Q I r ⟨ds, M, Q', iss, hm, q, hq⟩
  match ds, q, iss with
  | [.tup xs], q, iss =>
    obtain ⟨v, rfl, i⟩ := iss1 iss
    cases i with
    | tup h hs => exact call_list_of pins s σ H _ us Q I r ⟨_, _, rfl, .inr h, fun p hp => hq _ _ _ _ (hm.newL hp hs) (ext_new hp) (.ref p) (q p (hm.free hp))⟩
  | [.ref l], q, iss =>
    obtain ⟨v, rfl, i⟩ := iss1 iss
    (first | cases i.inv | cases i)
    obtain ⟨xs, hl, q⟩ := q
    obtain ⟨ys, h, hs⟩ := hm.lst hl
    exact call_list_of pins s σ H _ us Q I r ⟨_, _, rfl, .inl h, fun p hp => hq _ _ _ _ (hm.newL hp hs) (ext_new hp) (.ref p) (q p (hm.free hp))⟩
/-! ### isinstance -/
def isSub (a b : String) : Bool := a == b || (a == "bool" && b == "int")
def kinds : List String := ["NoneType", "bool", "int", "str", "tuple", "list"]
theorem kit_sub (K : PySem.W.Frag) : ∀ a ∈ kinds, ∀ b ∈ kinds, PySem.W.kitOne K (.type a) (.type b) = some (isSub a b) := by
  intro a ha b hb
  simp only [kinds, List.mem_cons, List.not_mem_nil, or_false] at ha hb
  rcases ha with rfl | rfl | rfl | rfl | rfl | rfl <;> rcases hb with rfl | rfl | rfl | rfl | rfl | rfl <;> rfl
def isiD : List D → DH → KD → Prop
  | [.non, .ty T], M, Q => if T ∈ kinds then Q (.bl (isSub "NoneType" T)) M else False
  | [.bl _, .ty T], M, Q => if T ∈ kinds then Q (.bl (isSub "bool" T)) M else False
  | [.int _, .ty T], M, Q => if T ∈ kinds then Q (.bl (isSub "int" T)) M else False
  | [.str _, .ty T], M, Q => if T ∈ kinds then Q (.bl (isSub "str" T)) M else False
  | [.tup _, .ty T], M, Q => if T ∈ kinds then Q (.bl (isSub "tuple" T)) M else False
  | [.ref l, .ty T], M, Q => if T ∈ kinds then (∃ xs, LstAt M l xs) ∧ Q (.bl (isSub "list" T)) M else False
  | _, _, _ => False
theorem iteF {c : Prop} [Decidable c] {A : Prop} (h : if c then A else False) : c ∧ A := by
  by_cases hc : c
  · rw [if_pos hc] at h; exact ⟨hc, h⟩
  · rw [if_neg hc] at h; exact h.elim
theorem isiD_two {ds : List D} {M : DH} {Q : KD} (q : isiD ds M Q) : ∃ d T, ds = [d, .ty T] := by
  cases ds with
  | nil => exact q.elim
  | cons a ds => cases ds with
    | nil => cases a <;> exact q.elim
    | cons b ds => cases ds with
      | nil => cases b with
        | ty T => exact ⟨a, T, rfl⟩
        | _ => cases a <;> exact q.elim
      | cons c ds => cases a <;> cases b <;> exact q.elim
theorem cd_isi : CallD X (.builtin "isinstance") isiD := by
  rintro pins s σ H vs us Q I r ⟨ds, M, Q', iss, hm, q, hq⟩
  obtain ⟨d, T, rfl⟩ := isiD_two q
  obtain ⟨v, v', rfl, h1, h2⟩ := iss2 iss
  cases h2.inv
  obtain ⟨u, w', rfl, r1, r2⟩ := vals2 r
  cases r2
  cases h1 with
  | non =>
    cases r1
    obtain ⟨hT, q⟩ := iteF (c := T ∈ kinds) q
    exact PySem.W.kia_one PySem.W.kitx_none I.kIn True.intro (kit_sub _ _ (by decide) _ hT) (fun z => nomatch z) fun tk => ⟨.bl _, H, I.tok tk, rfl, hq.here hm (.bl _) q⟩
  | bl b =>
    cases r1
    obtain ⟨hT, q⟩ := iteF (c := T ∈ kinds) q
    exact PySem.W.kia_one PySem.W.kitx_bool I.kIn True.intro (kit_sub _ _ (by decide) _ hT) (fun z => nomatch z) fun tk => ⟨.bl _, H, I.tok tk, rfl, hq.here hm (.bl _) q⟩
  | int b =>
    obtain ⟨tk0, rfl⟩ := r1
    obtain ⟨hT, q⟩ := iteF (c := T ∈ kinds) q
    exact PySem.W.kia_one PySem.W.kitx_int I.kIn True.intro (kit_sub _ _ (by decide) _ hT) (fun z => nomatch z) fun tk => ⟨.bl _, H, I.tok tk, rfl, hq.here hm (.bl _) q⟩
  | str b =>
    obtain ⟨tk0, rfl⟩ := r1
    obtain ⟨hT, q⟩ := iteF (c := T ∈ kinds) q
    exact PySem.W.kia_one PySem.W.kitx_str I.kIn True.intro (kit_sub _ _ (by decide) _ hT) (fun z => nomatch z) fun tk => ⟨.bl _, H, I.tok tk, rfl, hq.here hm (.bl _) q⟩
  | tup h hs =>
    cases r1
    obtain ⟨its, _, ⟨o, p1, p2, _⟩, _⟩ := I.tuple h
    obtain ⟨hT, q⟩ := iteF (c := T ∈ kinds) q
    exact PySem.W.kia_one PySem.W.kitx_tuple I.kIn ⟨o, p1, p2⟩ (kit_sub _ _ (by decide) _ hT) (fun z => nomatch z) fun tk => ⟨.bl _, H, I.tok tk, rfl, hq.here hm (.bl _) q⟩
  | ref l =>
    cases r1
    obtain ⟨hT, q⟩ := iteF (c := T ∈ kinds) q
    obtain ⟨⟨xs, hl⟩, q⟩ := q
    obtain ⟨ys, h, hs⟩ := hm.lst hl
    obtain ⟨its, _, ⟨o, n, p1, p2, _⟩, _⟩ := I.list h
    exact PySem.W.kia_one PySem.W.kitx_list I.kIn ⟨o, p1, p2⟩ (kit_sub _ _ (by decide) _ hT) (fun z => nomatch z) fun tk => ⟨.bl _, H, I.tok tk, rfl, hq.here hm (.bl _) q⟩
  | ty n => exact q.elim
  | rol h hs => exact q.elim
/-! ### a[b] -/
theorem atI_is {K : PySem.W.Frag} {H : Hp} {xs : List V} {ds : List D} {i : Int} {d : D} (h : Iss K H xs ds) (e : atI ds i = some d) : ∃ v, atI xs i = some v ∧ Is K H v d := by
  unfold atI at e ⊢
  rw [h.length]
  cases q : ixN ds.length i with
  | none => rw [q] at e; cases e
  | some j =>
    rw [q] at e
    exact h.get e
def ixD : D → D → DH → KD → Prop
  | .tup ds, .int i, M, Q => onSome (atI ds i) fun d => Q d M
  | .rol ds, .int i, M, Q => onSome (atI ds i) fun d => Q d M
  | .str z, .int i, M, Q => z.length ≤ sizeLine ∧ ∃ k, atI z.cps.toList i = some k ∧ Q (.str ⟨#[k]⟩) M
  | .ref l, .int i, M, Q => ∃ ds d, LstAt M l ds ∧ atI ds i = some d ∧ Q d M
  | _, _, _, _ => False
def IxD (X : Cx) (r : RD2) : Prop := IxR X (lowR2 X.K r)
theorem xd_ix : IxD X ixD := by
  intro value slice pins s σ H vx vy v u Q I rx ry ⟨x, y, M, Q', ix, iy, hm, q, hq⟩ hs
  cases ix with
  | tup h hxs => cases iy with
    | int i =>
      rename_i ds
      cases q1 : atI ds i with
      | none => exact (show (onSome (atI ds i) fun d => Q' d M) → False from fun z => by rw [q1] at z; exact z) q |>.elim
      | some d =>
        replace q : Q' d M := (show (onSome (atI ds i) fun d => Q' d M) → Q' d M from fun z => by rw [q1] at z; exact z) q
        obtain ⟨v', e', i'⟩ := atI_is hxs q1
        exact ix_tup value slice pins s σ H _ _ v u Q I rx ry ⟨_, _, _, _, rfl, rfl, h, e', hq.here hm i' q⟩ hs
    | _ => exact q.elim
  | rol h hxs => cases iy with
    | int i =>
      rename_i ds
      cases q1 : atI ds i with
      | none => exact (show (onSome (atI ds i) fun d => Q' d M) → False from fun z => by rw [q1] at z; exact z) q |>.elim
      | some d =>
        replace q : Q' d M := (show (onSome (atI ds i) fun d => Q' d M) → Q' d M from fun z => by rw [q1] at z; exact z) q
        obtain ⟨v', e', i'⟩ := atI_is hxs q1
        exact ix_list value slice pins s σ H _ _ v u Q I rx ry ⟨_, _, _, _, rfl, rfl, h.sq, e', hq.here hm i' q⟩ hs
    | _ => exact q.elim
  | str z => cases iy with
    | int i =>
      obtain ⟨hz, k, hk, q⟩ := q
      exact ix_str value slice pins s σ H _ _ v u Q I rx ry ⟨_, _, _, rfl, rfl, hz, hk, hq.here hm (.str _) q⟩ hs
    | _ => exact q.elim
  | ref l => cases iy with
    | int i =>
      obtain ⟨ds, d, hl, hd, q⟩ := q
      obtain ⟨ys, h, hys⟩ := hm.lst hl
      obtain ⟨v', e', i'⟩ := atI_is hys hd
      exact ix_list value slice pins s σ H _ _ v u Q I rx ry ⟨_, _, _, _, rfl, rfl, h, e', hq.here hm i' q⟩ hs
    | _ => exact q.elim
  | _ => first | exact q.elim | (cases iy <;> exact q.elim)
theorem d_ix (ha : PE X a (low X.K ta)) (hb : PE X b (low X.K tb)) (hs : PlainIx b := by intro _ _; rfl) : PE X (.Subscript a b pos) (low X.K (eOp ixD ta tb)) :=
  (pe_ix (xd_ix (X := X)) ha hb hs).imp fun _ _ _ h => low_op h
end
end DL

/-! Slices, methods of lists, tests, statements, loops, defs over data. -/
namespace DL
open PySem PySem.Spec PyProof.Rows L2

section
variable {X : Cx} {e a b c : Expr} {es : List Expr} {pos : Pos} {ta tb tc te : TEd} {t : TAd}
/-! ### slices -/
abbrev TOd := DSt → DH → (Option Int → DH → Prop) → Prop
def lowO (K : PySem.W.Frag) (te : TOd) : TO := fun σ H Q => ∃ τ M Q', SAbs K τ σ H ∧ HAbs K M H ∧ te τ M Q' ∧ ∀ o M1 H1, HAbs K M1 H1 → Ext K H H1 → Q' o M1 → Q o H1
theorem _root_.L2.PO.imp {oe : Option Expr} {t t' : TO} (h : PO X oe t) (hi : ∀ σ H Q, t' σ H Q → t σ H Q) : PO X oe t' := fun pins s σ H Q I q => h pins s σ H Q I (hi _ _ _ q)
def oNone : TOd := fun _ M Q => Q none M
def oSome (t : TEd) : TOd := fun τ M Q => t τ M fun x M1 => onInt x fun i => Q (some i) M1
theorem o_none : PO X none (lowO X.K oNone) := po_none.imp fun σ H Q ⟨τ, M, Q', hs, hm, h, hq⟩ => hq none M H hm (Ext.refl H) h
theorem o_some (h : PE X e (low X.K te)) : PO X (some e) (lowO X.K (oSome te)) := (po_some h).imp fun σ H Q ⟨τ, M, Q', hs, hm, h, hq⟩ =>
  ⟨τ, M, _, hs, hm, h, fun x M1 v H1 m1 e1 i1 h1 => by
    cases i1 with
    | int i => exact ⟨i, rfl, hq (some i) M1 H1 m1 e1 h1⟩
    | _ => exact h1.elim⟩
def cutD {α : Type} (xs : List α) (lo hi : Option Int) : List α := (xs.drop (HT.sIx xs.length 0 lo)).take (HT.sIx xs.length xs.length hi - HT.sIx xs.length 0 lo)
abbrev RSl := D → Option Int → Option Int → DH → KD → Prop
def lowSl (K : PySem.W.Frag) (r : RSl) : V → Option Int → Option Int → Hp → VK → Prop := fun v lo hi H Q => ∃ x M Q', Is K H v x ∧ HAbs K M H ∧ r x lo hi M Q' ∧ lowQ K H Q' Q
def SlD (X : Cx) (r : RSl) : Prop := SlR X (lowSl X.K r)
def eSl (r : RSl) (te : TEd) (tl th : TOd) : TEd := fun τ M Q => te τ M fun x M1 => tl τ M1 fun l M2 => th τ M2 fun u M3 => r x l u M3 Q
theorem d_sl {r : RSl} {lo hi : Option Expr} {tl th : TOd} {p2 : Pos} (hr : SlD X r) (he : PE X e (low X.K te)) (hl : PO X lo (lowO X.K tl)) (hu : PO X hi (lowO X.K th)) : PE X (.Subscript e (.Slice lo hi none p2) pos) (low X.K (eSl r te tl th)) :=
  (pe_slice hr he hl hu).imp fun σ H Q ⟨τ, M, Q', hs, hm, h, hq⟩ =>
    ⟨τ, M, _, hs, hm, h, fun x M1 v H1 m1 e1 i1 h1 => ⟨τ, M1, _, hs.mono e1, m1, h1, fun l M2 H2 m2 e2 h2 => ⟨τ, M2, _, hs.mono (e1.trans e2), m2, h2, fun u M3 H3 m3 e3 h3 =>
      ⟨x, M3, Q', i1.mono (e2.trans e3), m3, h3, hq.ext (e1.trans (e2.trans e3))⟩⟩⟩⟩
theorem getItem_tuple_whole {prog : Program} {w : World} {A : Around} {E : Value → Shared → Prop} {s : Shared} {t sl : Addr} {items : Array Value} {vl vu : Value} {lo hi : Option Int} {Q : Value → Shared → Prop} (ht : IsTup s.heap t items) (hs : s.heap.IsSliceOf sl vl vu .none) (pl : IsPart vl lo) (pu : IsPart vu hi)
    (hw : HT.sIx items.size 0 lo = 0 ∧ HT.sIx items.size items.size hi = items.size)
    (h : Q (.ref t) s) : wpAny (model prog w) A (getItem (.ref t) (.ref sl)) Q E s := by
  obtain ⟨os, hos, hcs, hds⟩ := id hs
  have hTs : s.TypeIs (.ref sl) "slice" := ⟨os, hos, hcs⟩
  unfold getItem
  try with_reducible refine wpAny_holding ?_
  first | refine wpAny_bind (wpAny_pure ?_) | skip
  refine wpAny_bind (wpAny_sequenceKey ht.typeIs (by decide) ?_)
  refine wpAny_bind (wpAny_callSpecial?_slot (name := Str.ofString "__getitem__") ht.typeIs PyProof.Rows.slot_tuple_getitem
    (wpAny_call_entry PyProof.Rows.slot_tuple_getitem ht.typeIs entry_tuple_getitem ?_ (args_tuple_getitem _ _)))
  show wpAny _ _ (Builtin.Tuple.tupleItemsOf (.ref t) >>= _) _ _ s
  refine wpAny_bind (tupleItemsOf_ ht ?_)
  refine wpAny_bind (wpAny_typeOf hTs ?_)
  rw [if_pos (by decide)]
  refine wpAny_bind (HT.sliceApplied_gen hs pl pu ?_)
  have hyes : (((HT.sIx items.size 0 lo : Nat) : Int) == 0 && (1 : Int) == 1 && (HT.sIx items.size items.size hi - HT.sIx items.size 0 lo) == items.size) = true := by
    rw [hw.1, hw.2]; simp
  show wpAny _ _ (if (((HT.sIx items.size 0 lo : Nat) : Int) == 0 && (1 : Int) == 1 && (HT.sIx items.size items.size hi - HT.sIx items.size 0 lo) == items.size) = true then _ else _) _ _ s
  rw [if_pos hyes]
  refine wpAny_bind ?_
  have ex : wpAny (model prog w) A.in1 (Builtin.Tuple.tupleIsExact (.ref t)) (fun a s' => a = true ∧ s' = s) E s := by
    unfold Builtin.Tuple.tupleIsExact
    first
      | exact wpAny_bind (wpAny_typeOf ht.typeIs (wpAny_pure ⟨by decide, rfl⟩))
      | exact wpAny_bind (wpAny_typeOf ht.typeIs ⟨by decide, rfl⟩)
  refine wpAny_mono ex (fun a s' ⟨ea, es⟩ => ?_) fun _ _ z => z
  subst ea es
  rw [if_pos rfl]
  first
    | exact wpAny_bind (wpAny_rule (wpAny_pure ⟨_, rfl, h⟩))
    | exact wpAny_bind (wpAny_rule (wpAny_pure ⟨_, rfl, wpAny_pure h⟩))
    | exact wpAny_bind (wpAny_rule (wpAny_bind (wpAny_pure (wpAny_pure ⟨_, rfl, h⟩))))
    | exact wpAny_bind (wpAny_rule (wpAny_bind (wpAny_pure (wpAny_pure ⟨_, rfl, wpAny_pure h⟩))))
def slD : D → Option Int → Option Int → DH → KD → Prop
  | .tup xs, lo, hi, M, Q => Q (.tup (cutD xs lo hi)) M
  | .ref l, lo, hi, M, Q => ∃ xs, LstAt M l xs ∧ ∀ p, M p = none → Q (.ref p) (updM M p (.lst (cutD xs lo hi)))
  | .rol xs, lo, hi, M, Q => ∀ p, M p = none → Q (.ref p) (updM M p (.lst (cutD xs lo hi)))
  | .str z, lo, hi, M, Q => z.length ≤ sizeLine ∧ Q (.str (Txt.slice z lo hi)) M
  | _, _, _, _, _ => False
theorem Iss.cut {K : PySem.W.Frag} {H : Hp} {vs : List V} {ds : List D} (h : Iss K H vs ds) (lo hi : Option Int) : Iss K H (cutV vs lo hi) (cutD ds lo hi) := by
  unfold cutV cutD
  rw [h.length]
  exact (h.drop _).take _
theorem cut_whole {α : Type} {xs : List α} {lo hi : Option Int} (h : HT.sIx xs.length 0 lo = 0 ∧ HT.sIx xs.length xs.length hi = xs.length) : cutD xs lo hi = xs := by
  unfold cutD
  rw [h.1, h.2]
  simp
theorem sd_sl : SlD X slD := by
  intro pins s σ H vx v vl vu lo hi sl Q I rx hs pl pu ⟨x, M, Q', ix, hm, q, hq⟩
  cases ix with
  | @tup a xs ds h hxs =>
    by_cases hw : HT.sIx xs.length 0 lo = 0 ∧ HT.sIx xs.length xs.length hi = xs.length
    · cases rx
      obtain ⟨its, r, ht, hz⟩ := I.tuple h
      have hlen : its.toArray.size = xs.length := by rw [List.size_toArray]; exact r.length.symm
      refine ⟨"tuple", _, PyProof.Rows.slot_tuple_getitem.lookup, ht.typeIs, ?_⟩
      refine getItem_tuple_whole ht hs pl pu (by rw [hlen]; exact hw) ⟨.ref a, H, I, rfl, hq.here hm (.tup h hxs) ?_⟩
      have q' : Q' (.tup (cutD ds lo hi)) M := q
      rw [cut_whole (by rw [← hxs.length]; exact hw)] at q'
      exact q'
    · exact sl_tup pins s σ H _ v vl vu lo hi sl Q I rx hs pl pu ⟨a, xs, rfl, h, hw, fun p hp => hq _ M _ _ (hm.new hp) (ext_new hp) (.tup (SqT.of upd_same) ((hxs.cut lo hi).mono (ext_new hp))) q⟩
  | rol h hys => exact sl_list pins s σ H _ v vl vu lo hi sl Q I rx hs pl pu ⟨_, _, rfl, h.sq, fun p hp => hq _ _ _ _ (hm.newL hp (hys.cut lo hi)) (ext_new hp) (.ref p) (q p (hm.free hp))⟩
  | ref l =>
    obtain ⟨xs, hl, q⟩ := q
    obtain ⟨ys, h, hys⟩ := hm.lst hl
    exact sl_list pins s σ H _ v vl vu lo hi sl Q I rx hs pl pu ⟨_, ys, rfl, h, fun p hp => hq _ _ _ _ (hm.newL hp (hys.cut lo hi)) (ext_new hp) (.ref p) (q p (hm.free hp))⟩
  | str z =>
    obtain ⟨hz, q⟩ := q
    obtain ⟨t, rfl⟩ := rx
    obtain ⟨os, ho, hc, hd⟩ := hs
    have fin : ∀ (l u : Option (Int × Tok)), l.map (·.1) = lo → u.map (·.1) = hi → partValue l = vl → partValue u = vu → ∃ T id, typeLookup (.type T) "__getitem__" = pure (some (.builtin id)) ∧ s.TypeIs (.str z t) T ∧ wpAny (model X.prog X.w) X.A (getItem (.str z t) (.ref sl)) (EP X pins σ Q) X.xe s := by
      intro l u el eu e1 e2
      refine ⟨"str", _, F.slot_str_getitem.lookup, typeIs_str _ _ _, wpAny_getItem_str_slice (l := l) (u := u) (st := none) ⟨os, ho, hc, by rw [hd, e1, e2]; rfl⟩ rfl ?_⟩
      refine post_val_or_str ⟨Nat.le_trans (Txt.slice_le z _ _) hz, fun t' k => ?_⟩
      refine ⟨.str (Txt.slice z lo hi), H, I.tok k, ?_, hq.here hm (.str _) q⟩
      rw [← el, ← eu]
      exact ⟨_, rfl⟩
    cases pl with
    | none => cases pu with
      | none => exact fin none none rfl rfl rfl rfl
      | int j tj => exact fin none (some (j, tj)) rfl rfl rfl rfl
    | int i ti => cases pu with
      | none => exact fin (some (i, ti)) none rfl rfl rfl rfl
      | int j tj => exact fin (some (i, ti)) (some (j, tj)) rfl rfl rfl rfl
  | _ => exact q.elim

/-! ### xs.append(e), xs.pop() -/
abbrev RM := D → List D → DH → KD → Prop
def lowM (K : PySem.W.Frag) (r : RM) : V → List V → Hp → VK → Prop := fun v vs H Q => ∃ x ds M Q', Is K H v x ∧ Iss K H vs ds ∧ HAbs K M H ∧ r x ds M Q' ∧ lowQ K H Q' Q
def MtD (X : Cx) (id : String) (r : RM) : Prop := MtR X id (lowM X.K r)
def tyD (T : String) : D → DH → Prop
  | .str _, _ => T = "str"
  | .int _, _ => T = "int"
  | .ref l, M => T = "list" ∧ ∃ xs, LstAt M l xs
  | _, _ => False
def eBM (T : String) (r : RM) (to : TEd) (t : TAd) : TEd := fun τ M Q => to τ M fun x M1 => tyD T x M1 ∧ t τ M1 fun ds M2 => r x ds M2 Q
theorem tyD_low {K : PySem.W.Frag} {H : Hp} {M : DH} {T : String} {v : V} {x : D} (i : Is K H v x) (hm : HAbs K M H) (h : tyD T x M) : tyV K T v H := by
  cases i with
  | str z => exact h
  | int j => exact h
  | ref l => exact .inl ⟨h.1, let ⟨xs, hl⟩ := h.2; let ⟨ys, q, _⟩ := hm.lst hl; ⟨ys, q⟩⟩
  | _ => exact h.elim
variable {o : Expr} {to : TEd} {name : Str} {apos cpos : Pos} {T id : String} {r : RM}
theorem d_bm (pa : PlainAttrs T) (slot : Slot T name id) (hty : typeOf (.builtin id) = pure (.type "method_descriptor")) (hm : MtD X id r) (ho : PE X o (low X.K to)) (ha : PA X (e :: es) (lowA X.K t))
    (hbase : attributeBase o name X.env (eval o X.env) = eval o X.env := by rfl)
    (hfew : ((backTo cpos (starEach (e :: es) X.env)).all (fun x => !x.1) && (backToKw cpos (keywordEach [] X.env)).all (fun x => x.1.isSome)
      && decide ((e :: es).length + ([] : List Keyword).length + (if ([] : List Keyword).isEmpty then 0 else 1) < 30)) = true := by rfl)
    (hline : (apos.endLine == cpos.line) = true := by rfl) (hs : starEach (e :: es) X.env = (false, eval e X.env) :: starEach es X.env := by rfl) (hplain : (backTo cpos (starEach es X.env)).any (·.1) = false := by rfl) :
    PE X (.Call (.Attribute o name apos) (e :: es) [] cpos) (low X.K (eBM T r to t)) :=
  (pe_bm pa slot hty hm ho ha hbase hfew hline hs hplain).imp fun σ H Q ⟨τ, M, Q', hs, hm, h, hq⟩ =>
    ⟨τ, M, _, hs, hm, h, fun x M1 v H1 m1 e1 i1 h1 => ⟨tyD_low i1 m1 h1.1, τ, M1, _, hs.mono e1, m1, h1.2, fun ds M2 vs H2 m2 e2 i2 h2 => ⟨x, ds, M2, Q', i1.mono e2, i2, m2, h2, hq.ext (e1.trans e2)⟩⟩⟩
def appendD : D → List D → DH → KD → Prop
  | .ref l, [y], M, Q => ∃ xs, M l = some (.lst xs) ∧ xs.length < sizeLine ∧ Q .non (updM M l (.lst (xs ++ [y])))
  | _, _, _, _ => False
theorem md_append : MtD X "list.append" appendD := by
  intro pins s σ H vx vs v us Q I rx rs ⟨x, ds, M, Q', ix, iss, hm, q, hq⟩
  match x, ds, q, ix, iss with
  | .ref l, [y], q, ix, iss =>
    obtain ⟨xs, hl, hz, q⟩ := q
    cases ix with
    | ref =>
      obtain ⟨vy, rfl, iy⟩ := iss1 iss
      obtain ⟨ys, h1, h2⟩ := hm l _ hl
      refine mt_append pins s σ H _ _ v us Q I rx rs ⟨l, ys, vy, rfl, rfl, h1, by rw [h2.length]; exact hz, ?_⟩
      obtain ⟨m1, e1⟩ := hm.setL hl h1 (h2.append (.cons iy .nil))
      exact hq _ _ _ _ m1 e1 .non q
/-! ### tests -/
def truD : D → DH → (Bool → Prop) → Prop
  | .non, _, Q => Q false
  | .bl k, _, Q => Q k
  | .int i, _, Q => Q (i != 0)
  | .str y, _, Q => y.length ≤ sizeLine ∧ Q ((y.length : Int) != 0)
  | .tup ds, _, Q => Q (!ds.isEmpty)
  | .rol ds, _, Q => Q (!ds.isEmpty)
  | .ref l, M, Q => ∃ xs, LstAt M l xs ∧ Q (!xs.isEmpty)
  | .ty _, _, _ => False
def eTru (te : TEd) : TTd := fun τ M Q => te τ M fun x M1 => truD x M1 fun k => Q k M1
theorem Iss.empty {K : PySem.W.Frag} {H : Hp} {vs : List V} {ds : List D} (h : Iss K H vs ds) : vs.isEmpty = ds.isEmpty := by cases h <;> rfl
theorem dt_val (ha : PE X a (low X.K ta)) (he : ∀ whole, isTrue a X.env whole = (do let v ← whole; standAt a.pos; holding [v] (truthy v)) := by intro _; rfl) : PT X a (lowT X.K (eTru ta)) :=
  (pt_truth ha he).imp fun σ H Q ⟨τ, M, Q', hs, hm, h, hq⟩ => ⟨τ, M, _, hs, hm, h, fun x M1 v H1 m1 e1 i1 h1 => by
    cases i1 with
    | non => exact ⟨false, rfl, hq _ M1 H1 m1 e1 h1⟩
    | bl k => exact ⟨k, rfl, hq _ M1 H1 m1 e1 h1⟩
    | int i => exact ⟨_, rfl, hq _ M1 H1 m1 e1 h1⟩
    | str y => exact ⟨_, ⟨h1.1, rfl⟩, hq _ M1 H1 m1 e1 h1.2⟩
    | ty n => exact h1.elim
    | tup hx hxs => exact ⟨_, .inr (.inl ⟨_, hx, rfl⟩), hq _ M1 H1 m1 e1 (by rw [hxs.empty]; exact h1)⟩
    | rol hx hxs => exact ⟨_, .inl ⟨_, hx.sq, rfl⟩, hq _ M1 H1 m1 e1 (by rw [hxs.empty]; exact h1)⟩
    | ref l =>
      obtain ⟨xs, hl, q⟩ := h1
      obtain ⟨ys, h2, h3⟩ := m1.lst hl
      exact ⟨_, .inl ⟨_, h2, rfl⟩, hq _ M1 H1 m1 e1 (by rw [h3.empty]; exact q)⟩⟩
def bAnd (t u : TTd) : TTd := fun τ M Q => t τ M fun k M1 => if k = true then u τ M1 Q else Q false M1
def bOr (t u : TTd) : TTd := fun τ M Q => t τ M fun k M1 => if k = true then Q true M1 else u τ M1 Q
def bNot (t : TTd) : TTd := fun τ M Q => t τ M fun k M1 => Q (!k) M1
variable {tA tB : TTd} {rest : List Expr}
theorem dw_and1 (ha : PT X a (lowT X.K tA)) : PW X (.BoolOp .And [a] pos) (lowT X.K tA) := pw_and1 ha
theorem dw_or1 (ha : PT X a (lowT X.K tA)) : PW X (.BoolOp .Or [a] pos) (lowT X.K tA) := pw_or1 ha
theorem dw_and (ha : PT X a (lowT X.K tA)) (hb : PW X (.BoolOp .And (b :: rest) pos) (lowT X.K tB)) : PW X (.BoolOp .And (a :: b :: rest) pos) (lowT X.K (bAnd tA tB)) :=
  L2.PW.imp (pw_and ha hb) fun σ H Q ⟨τ, M, Q', hs, hm, h, hq⟩ => ⟨τ, M, _, hs, hm, h, fun k M1 H1 m1 e1 h1 => by
    cases k with
    | true => rw [if_pos rfl] at h1 ⊢; exact ⟨τ, M1, Q', hs.mono e1, m1, h1, fun k M2 H2 m2 e2 h2 => hq k M2 H2 m2 (e1.trans e2) h2⟩
    | false => rw [if_neg Bool.false_ne_true] at h1 ⊢; exact hq false M1 H1 m1 e1 h1⟩
theorem dw_or (ha : PT X a (lowT X.K tA)) (hb : PW X (.BoolOp .Or (b :: rest) pos) (lowT X.K tB)) : PW X (.BoolOp .Or (a :: b :: rest) pos) (lowT X.K (bOr tA tB)) :=
  L2.PW.imp (pw_or ha hb) fun σ H Q ⟨τ, M, Q', hs, hm, h, hq⟩ => ⟨τ, M, _, hs, hm, h, fun k M1 H1 m1 e1 h1 => by
    cases k with
    | true => rw [if_pos rfl] at h1 ⊢; exact hq true M1 H1 m1 e1 h1
    | false => rw [if_neg Bool.false_ne_true] at h1 ⊢; exact ⟨τ, M1, Q', hs.mono e1, m1, h1, fun k M2 H2 m2 e2 h2 => hq k M2 H2 m2 (e1.trans e2) h2⟩⟩
theorem dt_not (ha : PT X a (lowT X.K tA)) : PT X (.UnaryOp .Not a pos) (lowT X.K (bNot tA)) :=
  L2.PT.imp (pt_not ha) fun σ H Q ⟨τ, M, Q', hs, hm, h, hq⟩ => ⟨τ, M, _, hs, hm, h, fun k M1 H1 m1 e1 h1 => hq (!k) M1 H1 m1 e1 h1⟩
/-! and, or, not as values (truth values alone) -/
def vAnd (ta tb : TEd) : TEd := fun τ M Q => ta τ M fun x M1 => onBl x fun k => if k = true then tb τ M1 Q else Q (.bl false) M1
def vOr (ta tb : TEd) : TEd := fun τ M Q => ta τ M fun x M1 => onBl x fun k => if k = true then Q (.bl true) M1 else tb τ M1 Q
def vNot (ta : TEd) : TEd := fun τ M Q => ta τ M fun x M1 => onBl x fun k => Q (.bl (!k)) M1
theorem d_one {op} (h : PE X a (low X.K ta)) : PE X (.BoolOp op [a] pos) (low X.K ta) := pe_one h
theorem d_and (ha : PE X a (low X.K ta)) (hb : PE X (.BoolOp .And (b :: rest) pos) (low X.K tb)) : PE X (.BoolOp .And (a :: b :: rest) pos) (low X.K (vAnd ta tb)) :=
  L2.PE.imp (pe_and ha hb) fun σ H Q ⟨τ, M, Q', hs, hm, h, hq⟩ => ⟨τ, M, _, hs, hm, h, fun x M1 v H1 m1 e1 i1 h1 => by
    cases i1 with
    | bl k => cases k with
      | true => exact ⟨true, rfl, by rw [if_pos rfl]; exact ⟨τ, M1, Q', hs.mono e1, m1, h1, hq.ext e1⟩⟩
      | false => exact ⟨false, rfl, by rw [if_neg Bool.false_ne_true]; exact hq _ M1 _ H1 m1 e1 (.bl false) h1⟩
    | _ => exact h1.elim⟩
theorem d_or (ha : PE X a (low X.K ta)) (hb : PE X (.BoolOp .Or (b :: rest) pos) (low X.K tb)) : PE X (.BoolOp .Or (a :: b :: rest) pos) (low X.K (vOr ta tb)) :=
  L2.PE.imp (pe_or ha hb) fun σ H Q ⟨τ, M, Q', hs, hm, h, hq⟩ => ⟨τ, M, _, hs, hm, h, fun x M1 v H1 m1 e1 i1 h1 => by
    cases i1 with
    | bl k => cases k with
      | true => exact ⟨true, rfl, by rw [if_pos rfl]; exact hq _ M1 _ H1 m1 e1 (.bl true) h1⟩
      | false => exact ⟨false, rfl, by rw [if_neg Bool.false_ne_true]; exact ⟨τ, M1, Q', hs.mono e1, m1, h1, hq.ext e1⟩⟩
    | _ => exact h1.elim⟩
theorem d_not (ha : PE X a (low X.K ta)) : PE X (.UnaryOp .Not a pos) (low X.K (vNot ta)) :=
  L2.PE.imp (pe_not ha) fun σ H Q ⟨τ, M, Q', hs, hm, h, hq⟩ => ⟨τ, M, _, hs, hm, h, fun x M1 v H1 m1 e1 i1 h1 => by
    cases i1 with
    | bl k => exact ⟨k, rfl, hq _ M1 _ H1 m1 e1 (.bl _) h1⟩
    | _ => exact h1.elim⟩
end

/-! ### statements -/
section
variable {X : Cx} {st : Stmt} {rest : List Stmt} {t u : TSd} {e c : Expr} {te : TEd} {tc : TTd} {pos : Pos}
def sNext : TSd := fun D τ M => D.nx τ M
def sSeq (t u : TSd) : TSd := fun D τ M => t { D with nx := u D } τ M
theorem ss_nil : PSs X [] (lowS X.K sNext) := pss_nil.imp fun D σ H ⟨τ, M, D', hs, hm, h, hd⟩ => hd.nx τ M σ H hs hm (Ext.refl H) h
theorem ss_cons (h1 : PS X st (lowS X.K t)) (h2 : PSs X rest (lowS X.K u)) : PSs X (st :: rest) (lowS X.K (sSeq t u)) :=
  (pss_cons h1 h2).imp fun D σ H ⟨τ, M, D', hs, hm, h, hd⟩ =>
    ⟨τ, M, { D' with nx := u D' }, hs, hm, h, ⟨fun τ1 M1 σ1 H1 s1 m1 e1 q => ⟨τ1, M1, D', s1, m1, q, hd.ext e1⟩, hd.rt, hd.bk, hd.ct⟩⟩
theorem ss_one (h1 : PS X st (lowS X.K t)) : PSs X [st] (lowS X.K t) := pss_one h1
def sDrop (te : TEd) : TSd := fun D τ M => te τ M fun _ M1 => D.nx τ M1
theorem s_expr (he : PE X e (low X.K te)) (hs : swapsWith e none pos.line X.env = pure false := by rfl) : PS X (.Expr e pos) (lowS X.K (sDrop te)) :=
  (ps_expr he hs).imp fun D σ H ⟨τ, M, D', hs, hm, h, hd⟩ => ⟨τ, M, _, hs, hm, h, fun _ M1 _ H1 m1 e1 _ q => hd.nx τ M1 σ H1 (hs.mono e1) m1 e1 q⟩
def sRet (te : TEd) : TSd := fun D τ M => te τ M D.rt
theorem s_ret (he : PE X e (low X.K te)) : PS X (.Return (some e) pos) (lowS X.K (sRet te)) :=
  (ps_ret he).imp fun D σ H ⟨τ, M, D', hs, hm, h, hd⟩ => ⟨τ, M, _, hs, hm, h, hd.rt⟩
def sIf (c : TTd) (t u : TSd) : TSd := fun D τ M => c τ M fun k M1 => if k = true then t D τ M1 else u D τ M1
theorem s_if {a b : List Stmt} (hc : PT X c (lowT X.K tc)) (ha : PSs X a (lowS X.K t)) (hb : PSs X b (lowS X.K u)) : PS X (.If c a b pos) (lowS X.K (sIf tc t u)) :=
  (ps_if hc ha hb).imp fun D σ H ⟨τ, M, D', hs, hm, h, hd⟩ => ⟨τ, M, _, hs, hm, h, fun k M1 H1 m1 e1 q => by
    cases k with
    | true => rw [if_pos rfl] at q ⊢; exact ⟨τ, M1, D', hs.mono e1, m1, q, hd.ext e1⟩
    | false => rw [if_neg Bool.false_ne_true] at q ⊢; exact ⟨τ, M1, D', hs.mono e1, m1, q, hd.ext e1⟩⟩
/-! targets -/
abbrev TGd := D → DSt → DH → (DSt → DH → Prop) → Prop
abbrev TGsd := List D → DSt → DH → (DSt → DH → Prop) → Prop
def lowG (K : PySem.W.Frag) (g : TGd) : TG := fun v σ H Q => ∃ d τ M Q', Is K H v d ∧ SAbs K τ σ H ∧ HAbs K M H ∧ g d τ M Q' ∧ ∀ τ1 M1 σ1 H1, SAbs K τ1 σ1 H1 → HAbs K M1 H1 → Ext K H H1 → Q' τ1 M1 → Q σ1 H1
def lowGs (K : PySem.W.Frag) (g : TGsd) : TGs := fun vs σ H Q => ∃ ds τ M Q', Iss K H vs ds ∧ SAbs K τ σ H ∧ HAbs K M H ∧ g ds τ M Q' ∧ ∀ τ1 M1 σ1 H1, SAbs K τ1 σ1 H1 → HAbs K M1 H1 → Ext K H H1 → Q' τ1 M1 → Q σ1 H1
theorem _root_.L2.PG.imp {tg : Expr} {t t' : TG} (h : PG X tg t) (hi : ∀ v σ H Q, t' v σ H Q → t v σ H Q) : PG X tg t' := fun pins s σ H v u Q I r q => h pins s σ H v u Q I r (hi _ _ _ _ q)
theorem _root_.L2.PGs.imp {tg : List Expr} {t t' : TGs} (h : PGs X tg t) (hi : ∀ v σ H Q, t' v σ H Q → t v σ H Q) : PGs X tg t' := fun pins s σ H v u Q I r q => h pins s σ H v u Q I r (hi _ _ _ _ q)
def hName (i : Nat) : TGd := fun d τ M Q => Q (τ.set i (some d)) M
theorem g_name {i : Nat} {x : Str} (hN : X.N.Nodup) (hi : X.N[i]? = some x := by rfl) (hx : Loc X.env.scope x := by first | exact Or.inl rfl | exact Or.inr rfl) (hf : X.fn x = true ∨ X.env.scope.names.lookup x = some .local := by first | exact .inl rfl | exact .inr rfl | assumption) : PG X (.Name x pos) (lowG X.K (hName i)) :=
  (pg_name hN hi hx hf).imp fun v σ H Q ⟨d, τ, M, Q', i, hs, hm, h, hq⟩ => hq _ M _ H (hs.set i) hm (Ext.refl H) h
def hNil : List D → DSt → DH → (DSt → DH → Prop) → Prop
  | [], τ, M, Q => Q τ M
  | _ :: _, _, _, _ => False
def hCons (g : TGd) (gs : TGsd) : List D → DSt → DH → (DSt → DH → Prop) → Prop
  | d :: r, τ, M, Q => g d τ M fun τ1 M1 => gs r τ1 M1 Q
  | [], _, _, _ => False
theorem gs_nil : PGs X [] (lowGs X.K hNil) := pgs_nil.imp fun v σ H Q ⟨ds, τ, M, Q', iss, hs, hm, h, hq⟩ => by
  cases iss with
  | nil => exact ⟨rfl, hq τ M σ H hs hm (Ext.refl H) h⟩
  | cons _ _ => exact h.elim
theorem gs_cons {es : List Expr} {g : TGd} {gs : TGsd} (h1 : PG X e (lowG X.K g)) (h2 : PGs X es (lowGs X.K gs))
    (hs : (assignEach (e :: es) X.env).map (·.2) = assign e X.env :: (assignEach es X.env).map (·.2) := by rfl) : PGs X (e :: es) (lowGs X.K (hCons g gs)) :=
  (pgs_cons h1 h2 hs).imp fun v σ H Q ⟨ds, τ, M, Q', iss, hs, hm, h, hq⟩ => by
    cases iss with
    | nil => exact h.elim
    | cons i t => exact ⟨_, _, rfl, _, τ, M, _, i, hs, hm, h, fun τ1 M1 σ1 H1 s1 m1 e1 q => ⟨_, τ1, M1, Q', t.mono e1, s1, m1, q, fun τ2 M2 σ2 H2 s2 m2 e2 q2 => hq τ2 M2 σ2 H2 s2 m2 (e1.trans e2) q2⟩⟩
def hTup (gs : TGsd) : D → DSt → DH → (DSt → DH → Prop) → Prop
  | .tup ds, τ, M, Q => gs ds τ M Q
  | _, _, _, _ => False
theorem g_tup {es : List Expr} {k n : Nat} {gs : TGsd} (hc : X.calm = true) (h : PGs X es (lowGs X.K gs)) (hln : ∀ ds τ M Q, gs ds τ M Q → ds.length = n)
    (hn : (assignEach es X.env).length = n := by rfl) (hst : (assignEach es X.env).findIdx? (·.1) = none := by rfl) : PG X (.Tuple es k pos) (lowG X.K (hTup gs)) :=
  (pg_tup hc h hn hst).imp fun v σ H Q ⟨d, τ, M, Q', i, hs, hm, h, hq⟩ => by
    cases i with
    | tup hx hxs => exact ⟨_, _, rfl, hx, by rw [hxs.length]; exact hln _ _ _ _ h, _, τ, M, Q', hxs, hs, hm, h, hq⟩
    | _ => exact h.elim
def sAsg (te : TEd) (g : TGd) : TSd := fun D τ M => te τ M fun x M1 => g x τ M1 D.nx
theorem low_asg {K : PySem.W.Frag} {g : TGd} {D : Ends} {σ : St} {H : Hp} (h : lowS K (sAsg te g) D σ H) : tAsg (low K te) (lowG K g) D σ H := by
  obtain ⟨τ, M, D', hs, hm, h, hd⟩ := h
  exact ⟨τ, M, _, hs, hm, h, fun x M1 v H1 m1 e1 i1 q => ⟨x, τ, M1, _, i1, hs.mono e1, m1, q, fun τ2 M2 σ2 H2 s2 m2 e2 q2 => hd.nx τ2 M2 σ2 H2 s2 m2 (e1.trans e2) q2⟩⟩
theorem s_asg {tg : Expr} {g : TGd} (he : PE X e (low X.K te)) (hg : PG X tg (lowG X.K g)) (hs : swapsWithSole [tg] e pos.line X.env = pure false := by rfl) (hw : swappedStores [tg] e X.env = pure none := by rfl)
    (h1 : (assignEach [tg] X.env).map (·.2) = [assign tg X.env] := by rfl) : PS X (.Assign [tg] e pos) (lowS X.K (sAsg te g)) :=
  (ps_asg he hg hs hw h1).imp fun _ _ _ h => low_asg h
theorem s_set {i : Nat} {x : Str} {pos' : Pos} (hN : X.N.Nodup) (he : PE X e (low X.K te)) (hi : X.N[i]? = some x := by rfl) (hx : Loc X.env.scope x := by first | exact Or.inl rfl | exact Or.inr rfl) (hs : swapsWith e (some (.Name x pos')) pos.line X.env = pure false := by rfl) (hf : X.fn x = true ∨ X.env.scope.names.lookup x = some .local := by first | exact .inl rfl | exact .inr rfl | assumption) :
    PS X (.Assign [.Name x pos'] e pos) (lowS X.K (sAsg te (hName i))) :=
  (ps_set hN hi hx he hs hf).imp fun D σ H ⟨τ, M, D', hs, hm, h, hd⟩ => ⟨τ, M, _, hs, hm, h, fun x M1 v H1 m1 e1 i1 q => hd.nx _ M1 _ H1 ((hs.mono e1).set i1) m1 e1 q⟩
end
end DL

/-! Loops and defs over data. -/
namespace DL
open PySem PySem.Spec PyProof.Rows L2

section
variable {X : Cx} {e c tg : Expr} {te : TEd} {tc : TTd} {tb : TSd} {g : TGd} {pos : Pos}
/-! ### while -/
/-! ### what is walked -/
theorem walks_imp {prog : Program} {w : World} {A : Around} {I : Addr} {fp wr : List Addr} {n : Nat} {P P' : Nat → Value → Prop} {St : Nat → Heap → Prop} (W : Walks prog w A I fp wr n P St) (h : ∀ i v, P i v → P' i v) : Walks prog w A I fp wr n P' St :=
  ⟨W.sub, W.frame, fun i s Q E hi st hQ => W.item i s Q E hi st fun v h' tk hp => hQ v h' tk (h i v hp), W.done, W.self⟩
/-- f 0, f 1, .. (n of them), whatever the heap -/
def Itf (n : Nat) (f : Nat → V) : It := ⟨fun i _ => i < n, fun i H x H' => H' = H ∧ x = f i, fun i _ => i = n⟩
theorem turn_walks {P : Program} {w : World} {K : PySem.W.Frag} {tg : Expr} (it : Addr) (n : Nat) (f : Nat → V) (St : Nat → Heap → Prop) (W : ∀ A : Around, A.handled = none → Walks P w A it [it] [it] n (fun i v => RelV (f i) v) St)
    (hobj : ∀ i h, St i h → ∃ (o : Obj) (ty : String) (vs : Array Value), h.get? it = some o ∧ o.cls = .type ty ∧ o.data = .fields vs ∧ ["enumerate", "zip", "dict_itemiterator", "dict_reverseitemiterator", "odict_iterator", "itertools.zip_longest", "itertools.pairwise"].contains ty = false)
    (self : ∀ (A : Around) (i : Nat) (s : Shared) (Q : Value → Shared → Prop) (E : Value → Shared → Prop), St i s.heap → Q (.ref it) s → wpAny (model P w) A (pyIter (.ref it)) Q E s) :
    Turn P w K tg (Itf n f) [it] it St where
  mem := by simp
  obj := fun i h st b hb => by
    have e : b = it := by simpa using hb
    subst e
    obtain ⟨o, ty, vs, h1, h2, h3, _⟩ := hobj i h st
    exact ⟨o, h1, fun v z => by rw [h3] at z; cases z⟩
  keep := fun i h h' st k => (W { depth := 0, units := 0, handled := none, frames := none } rfl).frame i h h' st k
  item := by
    intro X hP hw hK hc i pins s σ H E I hf st hg
    subst hP hw hK
    obtain ⟨f0, f1, f2, f3, f4, f5⟩ := hf it (by simp)
    refine (W X.A (I.ok.hd hc)).item i s _ _ hg st fun v h' tk hv st' kk => ?_
    have I1 : Inv X pins σ H { s with heap := h', toks := tk } := I.turned (fun b o hb e => kk b o (by simpa using hb) e) f0 f1 f3 f4 f5
    obtain ⟨o, ty, vs, h1, h2, h3, h4⟩ := hobj _ _ st'
    exact ⟨_, rfl, go_of (s := { s with heap := h', toks := tk }) (n := ty) h1 h2 h3 h4 ⟨f i, H, I1, hv, ⟨rfl, rfl⟩, st', fun b hb => (hf b hb).1⟩⟩
  done := by
    intro X hP hw hK hc i pins s σ H E I hf st hg
    subst hP hw hK
    obtain ⟨f0, f1, f2, f3, f4, f5⟩ := hf it (by simp)
    have e : i = n := hg
    subst e
    exact (W X.A (I.ok.hd hc)).done s _ _ st fun h' tk kk => ⟨rfl, I.turned (fun b o hb e => kk b o (by simpa using hb) e) f0 f1 f3 f4 f5⟩
  self := self
/-! ### for over a list, a tuple, a text -/
def signV (z : Str) (i : Nat) : V := .str ⟨#[z.cps.getD i 0]⟩
def iAny (K : PySem.W.Frag) (tl : TE) : TI := fun σ H R => tl σ H fun x H1 => (∃ a, x = .ref a ∧ (((∃ xs, SqL K H1 a xs) ∧ R (Itl K a) H1) ∨ ((∃ xs, SqT K H1 a xs) ∧ R (Itt K a) H1))) ∨ ∃ z, x = .str z ∧ R (Itf z.cps.size (signV z)) H1
theorem pi_any {l : Expr} {tl : TE} (hl : PE X l tl) : PI X tg l (iAny X.K tl) := by
  intro pins s σ H R I h
  refine thn (hl pins s σ H _ I h) fun v s1 ⟨x, H1, I1, r1, q1⟩ => ?_
  have fr : ∀ b ∈ [s1.heap.objs.size], FpOk X pins H1 b := fun b hb => by
    have e : b = s1.heap.objs.size := by simpa using hb
    subst e
    exact I1.fpOk (Nat.le_refl _) (I1.hok.fresh (Nat.le_refl _))
  rcases q1 with ⟨a, e, q1⟩ | ⟨z, e, q⟩
  · subst e
    cases r1
    rcases q1 with ⟨⟨xs, hq⟩, q⟩ | ⟨⟨xs, hq⟩, q⟩
    · obtain ⟨its, rv, p, hz⟩ := I1.list hq
      refine wpAny_pyIter_list p.isList ?_
      exact ⟨s1.heap.objs.size, [s1.heap.objs.size], _, _, H1, rfl, I1.kept (t' := s1.toks) fun b o e => Heap.get?_push_of_some _ e, turn_list a _, ⟨_, Heap.get?_push_size _ rfl, rfl, rfl⟩, fr, q⟩
    · obtain ⟨its, rv, p, hz⟩ := I1.tuple hq
      refine wpAny_pyIter_tuple (show s1.heap.IsTuple a its.toArray from p) ?_
      exact ⟨s1.heap.objs.size, [s1.heap.objs.size], _, _, H1, rfl, I1.kept (t' := s1.toks) fun b o e => Heap.get?_push_of_some _ e, turn_tuple a _, ⟨_, Heap.get?_push_size _ rfl, rfl, rfl⟩, fr, q⟩
  · subst e
    obtain ⟨t, rfl⟩ := r1
    have hrel : ∀ (i : Nat) (v : Value), (∃ c u, z.cps[i]? = some c ∧ v = .str ⟨#[c]⟩ u) → RelV (signV z i) v := fun i v ⟨c, u, e1, e2⟩ => by
      refine ⟨u, ?_⟩
      have : z.cps.getD i 0 = c := by rw [Array.getD_eq_getD_getElem?, e1]; rfl
      rw [e2, this]
    cases ha : z.cps.all (· < 128) with
    | true =>
      refine wpAny_pyIter_ascii ha ?_
      refine ⟨s1.heap.objs.size, [s1.heap.objs.size], _, _, H1, rfl, I1.kept (t' := s1.toks) fun b o e => Heap.get?_push_of_some _ e, turn_walks s1.heap.objs.size z.cps.size (signV z) (fun i h => h.IsStrIter s1.heap.objs.size "str_ascii_iterator" z t i)
        (fun A hA => walks_imp (Walks.strAscii (A := A) hA s1.heap.objs.size z t) hrel) (fun i h ⟨o, h1, h2, h3⟩ => ⟨o, _, _, h1, h2, h3, by decide⟩) (fun _ _ _ _ _ st h => wpAny_pyIter_striter_ascii st h), ⟨_, Heap.get?_push_size _ rfl, rfl, rfl⟩, fr, q⟩
    | false =>
      refine wpAny_pyIter_wide ha ?_
      refine ⟨s1.heap.objs.size, [s1.heap.objs.size], _, _, H1, rfl, I1.kept (t' := s1.toks) fun b o e => Heap.get?_push_of_some _ e, turn_walks s1.heap.objs.size z.cps.size (signV z) (fun i h => h.IsStrIter s1.heap.objs.size "str_iterator" z t i)
        (fun A hA => walks_imp (Walks.strWide (A := A) hA s1.heap.objs.size z t) hrel) (fun i h ⟨o, h1, h2, h3⟩ => ⟨o, _, _, h1, h2, h3, by decide⟩) (fun _ _ _ _ _ st h => wpAny_pyIter_striter_wide st h), ⟨_, Heap.get?_push_size _ rfl, rfl, rfl⟩, fr, q⟩
/-- the iterator gives these data -/
structure Gives (K : PySem.W.Frag) (J : It) (ds : List D) (H : Hp) : Prop where
  go : ∀ i, i < ds.length → J.go i H
  yld : ∀ i x H', i < ds.length → J.yld i H x H' → H' = H ∧ ∃ d, ds[i]? = some d ∧ Is K H x d
  stop : J.stop ds.length H
theorem gives_list {K : PySem.W.Frag} {H : Hp} {a : Addr} {xs : List V} {ds : List D} (h : SqL K H a xs) (i : Iss K H xs ds) : Gives K (Itl K a) ds H :=
  ⟨fun j hj => let ⟨v, e, _⟩ := i.get (List.getElem?_eq_getElem hj); ⟨xs, v, h, e⟩, fun j x H' _ ⟨e, y⟩ => ⟨e, i.getV (y xs h)⟩, ⟨xs, h, by rw [i.length]; exact Nat.le_refl _⟩⟩
theorem gives_tup {K : PySem.W.Frag} {H : Hp} {a : Addr} {xs : List V} {ds : List D} (h : SqT K H a xs) (i : Iss K H xs ds) : Gives K (Itt K a) ds H :=
  ⟨fun j hj => let ⟨v, e, _⟩ := i.get (List.getElem?_eq_getElem hj); ⟨xs, v, h, e⟩, fun j x H' _ ⟨e, y⟩ => ⟨e, i.getV (y xs h)⟩, ⟨xs, h, by rw [i.length]; exact Nat.le_refl _⟩⟩
def signs (z : Str) : List D := z.cps.toList.map fun c => .str ⟨#[c]⟩
theorem signs_length (z : Str) : (signs z).length = z.cps.size := by simp [signs]
theorem gives_str {K : PySem.W.Frag} {H : Hp} (z : Str) : Gives K (Itf z.cps.size (signV z)) (signs z) H :=
  ⟨fun j hj => by rw [signs_length] at hj; exact hj, fun j x H' hj ⟨e, y⟩ => by
    refine ⟨e, .str ⟨#[z.cps.getD j 0]⟩, ?_, by rw [y]; exact .str _⟩
    rw [signs_length] at hj
    unfold signs
    rw [List.getElem?_map, Array.getElem?_toList, Array.getElem?_eq_getElem hj]
    simp [Array.getD_eq_getD_getElem?, hj], by rw [signs_length]; exact rfl⟩
/-- ds are walked; st: what keeps the walked thing -/
def walkD (ds : List D) (st : DH → Prop) (g : TGd) (tb : TSd) (E : EndsD) (τ : DSt) (M : DH) : Prop := ∃ W : Nat → DSt → DH → Prop, W 0 τ M ∧ (∀ i τ M, i ≤ ds.length → W i τ M → st M) ∧
  (∀ i d τ M, ds[i]? = some d → W i τ M → g d τ M fun τ2 M2 => tb { E with nx := W (i + 1), ct := W (i + 1), bk := E.nx } τ2 M2) ∧ ∀ τ M, W ds.length τ M → E.nx τ M
def forD (g : TGd) (tb : TSd) (E : EndsD) (τ : DSt) : D → DH → Prop
  | .tup ds, M => walkD ds (fun _ => True) g tb E τ M
  | .rol ds, M => walkD ds (fun _ => True) g tb E τ M
  | .str z, M => walkD (signs z) (fun _ => True) g tb E τ M
  | .ref l, M => ∃ ds, M l = some (.lst ds) ∧ walkD ds (fun M => M l = some (.lst ds)) g tb E τ M
  | _, _ => False
def sFor (te : TEd) (g : TGd) (tb : TSd) : TSd := fun E τ M => te τ M fun x M1 => forD g tb E τ x M1
theorem lowEnds {K : PySem.W.Frag} {H H1 : Hp} {D' : EndsD} {E : Ends} {W : DSt → DH → Prop} (hd : LowD K H D' E) (e : Ext K H H1) :
    LowD K H1 { D' with nx := W, ct := W, bk := D'.nx } { E with nx := fun σ H2 => ∃ τ M, SAbs K τ σ H2 ∧ HAbs K M H2 ∧ Ext K H H2 ∧ W τ M, ct := fun σ H2 => ∃ τ M, SAbs K τ σ H2 ∧ HAbs K M H2 ∧ Ext K H H2 ∧ W τ M, bk := E.nx } :=
  ⟨fun τ M σ H2 s2 m2 e2 q => ⟨τ, M, s2, m2, e.trans e2, q⟩, hd.rt.ext e, fun τ M σ H2 s2 m2 e2 q => hd.nx τ M σ H2 s2 m2 (e.trans e2) q, fun τ M σ H2 s2 m2 e2 q => ⟨τ, M, s2, m2, e.trans e2, q⟩⟩
theorem low_turn {K : PySem.W.Frag} {H H1 : Hp} {D' : EndsD} {E : Ends} {g : TGd} {tb : TSd} {d : D} {v : V} {τ : DSt} {σ : St} {M : DH} {W : DSt → DH → Prop} (hd : LowD K H D' E) (e1 : Ext K H H1) (i : Is K H1 v d) (s1 : SAbs K τ σ H1) (m1 : HAbs K M H1)
    (h : g d τ M fun τ2 M2 => tb { D' with nx := W, ct := W, bk := D'.nx } τ2 M2) :
    lowG K g v σ H1 fun σ2 H2 => lowS K tb { E with nx := fun σ H2 => ∃ τ M, SAbs K τ σ H2 ∧ HAbs K M H2 ∧ Ext K H H2 ∧ W τ M, ct := fun σ H2 => ∃ τ M, SAbs K τ σ H2 ∧ HAbs K M H2 ∧ Ext K H H2 ∧ W τ M, bk := E.nx } σ2 H2 :=
  ⟨d, τ, M, _, i, s1, m1, h, fun τ2 M2 σ2 H2 s2 m2 e2 q2 => ⟨τ2, M2, _, s2, m2, q2, lowEnds hd (e1.trans e2)⟩⟩
/-- a loop over anything that gives the data -/
theorem for_gives {K : PySem.W.Frag} {J : It} {ds : List D} {st : DH → Prop} {g : TGd} {tb : TSd} {D' : EndsD} {E : Ends} {τ : DSt} {σ : St} {M : DH} {H H1 : Hp} (hd : LowD K H D' E) (e1 : Ext K H H1) (s1 : SAbs K τ σ H1) (m1 : HAbs K M H1)
    (hg : ∀ M2 H2, HAbs K M2 H2 → Ext K H1 H2 → st M2 → Gives K J ds H2) (h : walkD ds st g tb D' τ M) :
    ∃ W : Nat → Nat → St → Hp → Prop, (∃ m, W 0 m σ H1) ∧ ∀ i m σ H, W i m σ H →
      (J.stop i H ∧ E.nx σ H) ∨ (J.go i H ∧ ∃ N : St → Hp → Prop, (∀ σ' H', N σ' H' → ∃ m', m' < m ∧ W (i + 1) m' σ' H') ∧ ∀ x H', J.yld i H x H' → lowG K g x σ H' fun σ2 H2 => lowS K tb { E with nx := N, ct := N, bk := E.nx } σ2 H2) := by
  obtain ⟨W, w0, stay, turn, done⟩ := h
  refine ⟨fun i m σ2 H2 => m = ds.length - i ∧ i ≤ ds.length ∧ ∃ τ2 M2, SAbs K τ2 σ2 H2 ∧ HAbs K M2 H2 ∧ Ext K H1 H2 ∧ W i τ2 M2, ⟨ds.length, by simp, Nat.zero_le _, τ, M, s1, m1, Ext.refl H1, w0⟩, ?_⟩
  rintro i m σ2 H2 ⟨rfl, hi, τ2, M2, s2, m2, e2, w2⟩
  have G := hg M2 H2 m2 e2 (stay i τ2 M2 hi w2)
  by_cases hlt : i < ds.length
  · refine .inr ⟨G.go i hlt, fun σ3 H3 => ∃ τ3 M3, SAbs K τ3 σ3 H3 ∧ HAbs K M3 H3 ∧ Ext K H1 H3 ∧ W (i + 1) τ3 M3, fun σ3 H3 p => ⟨ds.length - (i + 1), by omega, rfl, hlt, p⟩, fun x H' y => ?_⟩
    obtain ⟨rfl, d, ed, id⟩ := G.yld i x H' hlt y
    exact low_turn (hd.ext e1) e2 id s2 m2 (turn i d τ2 M2 ed w2)
  · have e : i = ds.length := by omega
    subst e
    exact .inl ⟨G.stop, hd.nx τ2 M2 σ2 H2 s2 m2 (e1.trans e2) (done τ2 M2 w2)⟩
theorem s_for {iter : Expr} {body : List Stmt} (hp : PassesOwn (model X.prog X.w) X.A X.env X.xe) (hc : X.calm = true) (hi : PE X iter (low X.K te)) (hg : PG X tg (lowG X.K g)) (hb : PSs X body (lowS X.K tb))
    (hs : ∀ x, foldedSetIterable iter X.env x = pure x := by intro _; rfl) : PS X (.For tg iter body [] pos) (lowS X.K (sFor te g tb)) :=
  (ps_for hp hc (pi_any hi) hg hb hs).imp fun D σ H ⟨τ, M, D', hs, hm, h, hd⟩ => ⟨τ, M, _, hs, hm, h, fun x M1 v H1 m1 e1 i1 h1 => by
    cases i1 with
    | @tup a xs ds hx hxs => exact .inl ⟨a, rfl, .inr ⟨⟨xs, hx⟩, for_gives hd e1 (hs.mono e1) m1 (fun M2 H2 m2 e2 _ => gives_tup (e2.t _ _ hx) (hxs.mono e2)) h1⟩⟩
    | @rol a xs ds hx hxs => exact .inl ⟨a, rfl, .inl ⟨⟨xs, hx.sq⟩, for_gives hd e1 (hs.mono e1) m1 (fun M2 H2 m2 e2 _ => gives_list (e2.f _ _ hx).sq (hxs.mono e2)) h1⟩⟩
    | str z => exact .inr ⟨z, rfl, for_gives hd e1 (hs.mono e1) m1 (fun M2 H2 m2 e2 _ => gives_str z) h1⟩
    | ref l =>
      obtain ⟨ds, hl, w⟩ := h1
      obtain ⟨xs, hx, hxs⟩ := m1 l _ hl
      exact .inl ⟨l, rfl, .inl ⟨⟨xs, SqL.of hx⟩, for_gives hd e1 (hs.mono e1) m1 (fun M2 H2 m2 e2 hl2 => let ⟨ys, hy, iy⟩ := m2.lst hl2; gives_list hy iy) w⟩⟩
    | _ => exact h1.elim⟩

/-! ### for over a range -/
def walkR (f : Nat → Int) (n : Nat) (g : TGd) (tb : TSd) (E : EndsD) (τ : DSt) (M : DH) : Prop := ∃ W : Nat → DSt → DH → Prop, W 0 τ M ∧
  (∀ i τ M, i < n → W i τ M → g (.int (f i)) τ M fun τ2 M2 => tb { E with nx := W (i + 1), ct := W (i + 1), bk := E.nx } τ2 M2) ∧ ∀ τ M, W n τ M → E.nx τ M
def for1D (g : TGd) (tb : TSd) (E : EndsD) (τ : DSt) : List D → DH → Prop
  | [.int j], M => (-(2 ^ 62) ≤ j ∧ j < 2 ^ 62) ∧ walkR (fun i => (i : Int)) j.toNat g tb E τ M
  | _, _ => False
def sFor1 (ta : TAd) (g : TGd) (tb : TSd) : TSd := fun E τ M => ta τ M fun vs M1 => for1D g tb E τ vs M1
theorem for_rangeD {K : PySem.W.Frag} {lo : Int} {n : Nat} {g : TGd} {tb : TSd} {D' : EndsD} {E : Ends} {τ : DSt} {σ : St} {M : DH} {H H1 : Hp} (hd : LowD K H D' E) (e1 : Ext K H H1) (s1 : SAbs K τ σ H1) (m1 : HAbs K M H1) (h : walkR (fun i => lo + (i : Int)) n g tb D' τ M) :
    ∃ W : Nat → Nat → St → Hp → Prop, (∃ m, W 0 m σ H1) ∧ ∀ i m σ H, W i m σ H →
      ((Itr lo n).stop i H ∧ E.nx σ H) ∨ ((Itr lo n).go i H ∧ ∃ N : St → Hp → Prop, (∀ σ' H', N σ' H' → ∃ m', m' < m ∧ W (i + 1) m' σ' H') ∧ ∀ x H', (Itr lo n).yld i H x H' → lowG K g x σ H' fun σ2 H2 => lowS K tb { E with nx := N, ct := N, bk := E.nx } σ2 H2) := by
  obtain ⟨W, w0, turn, done⟩ := h
  refine for_range (fun i σ2 H2 => ∃ τ2 M2, SAbs K τ2 σ2 H2 ∧ HAbs K M2 H2 ∧ Ext K H1 H2 ∧ W i τ2 M2) ⟨τ, M, s1, m1, Ext.refl H1, w0⟩ ?_ ?_
  · rintro i σ2 H2 hi ⟨τ2, M2, s2, m2, e2, w2⟩
    exact low_turn (hd.ext e1) e2 (.int _) s2 m2 (turn i τ2 M2 hi w2)
  · rintro σ2 H2 ⟨τ2, M2, s2, m2, e2, w2⟩
    exact hd.nx τ2 M2 σ2 H2 s2 m2 (e1.trans e2) (done τ2 M2 w2)
theorem s_for1 {a : Expr} {ta : TAd} {body : List Stmt} {p cpos : Pos} (hp : PassesOwn (model X.prog X.w) X.A X.env X.xe) (hc : X.calm = true) (hm : X.mg "range" = none) (ha : PA X [a] (lowA X.K ta)) (hg : PG X tg (lowG X.K g)) (hb : PSs X body (lowS X.K tb)) (hgl : Gl X "range" := by rfl)
    (hst : starEach [a] X.env = [(false, eval a X.env)] := by rfl) (hs : ∀ x, foldedSetIterable (.Call (.Name "range" p) [a] [] cpos) X.env x = pure x := by intro _; rfl) : PS X (.For tg (.Call (.Name "range" p) [a] [] cpos) body [] pos) (lowS X.K (sFor1 ta g tb)) :=
  (ps_for hp hc (pi_range1 hgl hm ha hst) hg hb hs).imp fun D σ H ⟨τ, M, D', hs, hm, h, hd⟩ => ⟨τ, M, _, hs, hm, h, fun ds M1 vs H1 m1 e1 i1 h1 => by
    match ds, h1, i1 with
    | [.int j], h1, i1 =>
      obtain ⟨v, rfl, i⟩ := iss1 i1
      (first | cases i.inv | cases i)
      obtain ⟨⟨q1, q2⟩, w⟩ := h1
      have w' : walkR (fun i => 0 + (i : Int)) j.toNat g tb D' τ M1 := by
        have e : (fun i : Nat => 0 + (i : Int)) = fun i : Nat => (i : Int) := by funext i; omega
        rw [e]; exact w
      exact ⟨j, rfl, q1, q2, for_rangeD hd e1 (hs.mono e1) m1 w'⟩⟩
/-! ### defs -/
abbrev SpD := List D → DH → KD → Prop
def lowSp (K : PySem.W.Frag) (sp : SpD) : Sp := fun vs H Q _ => ∃ ds M Q', Iss K H vs ds ∧ HAbs K M H ∧ sp ds M Q' ∧ lowQ K H Q' Q
/-- a def of the text keeps its promise -/
structure FnD (P : Program) (w : World) (K : PySem.W.Frag) (mg : Str → Option Value) (base : Heap) (k : Nat) (x : Str) (ps : List Str) (sp : SpD) : Prop where
  ex : ∃ f fd, FnOk P w K mg base CX0 k f fd ps (lowSp K sp) ∧ mg x = some (.ref f) ∧ PySem.W.keepIn K (.ref f) = true ∧ Binds K fd ps []
theorem FnD.mono {P : Program} {w : World} {K : PySem.W.Frag} {mg : Str → Option Value} {base : Heap} {j k : Nat} {x : Str} {ps : List Str} {sp : SpD} (F : FnD P w K mg base j x ps sp) (h : j ≤ k) : FnD P w K mg base k x ps sp :=
  let ⟨f, fd, a, b, c, d⟩ := F.ex; ⟨f, fd, a.mono h, b, c, d⟩
theorem FnD.imp {P : Program} {w : World} {K : PySem.W.Frag} {mg : Str → Option Value} {base : Heap} {k : Nat} {x : Str} {ps : List Str} {sp sp' : SpD} (F : FnD P w K mg base k x ps sp) (h : ∀ ds M Q, sp' ds M Q → sp ds M Q) : FnD P w K mg base k x ps sp' :=
  let ⟨f, fd, a, b, c, d⟩ := F.ex; ⟨f, fd, a.imp (fun _ _ _ _ ⟨ds, M, Q', i, m, q, hq⟩ => ⟨ds, M, Q', i, m, h _ _ _ q, hq⟩), b, c, d⟩
def eCall (sp : SpD) (t : TAd) : TEd := fun τ M Q => t τ M fun ds M1 => sp ds M1 Q
theorem d_call {k : Nat} {x : Str} {ps : List Str} {sp : SpD} {p : Pos} {es : List Expr} {t : TAd} (F : FnD X.prog X.w X.K X.mg X.base k x ps sp) (hr : Room k X.A) (ha : PA X (e :: es) (lowA X.K t)) (hg : Gl X x := by rfl) (hdb : (x == ("__debug__" : Str)) = false := by decide)
    (he : starEach (e :: es) X.env = (false, eval e X.env) :: starEach es X.env := by rfl) (hpl : (backTo pos (starEach es X.env)).any (·.1) = false := by rfl) : PE X (.Call (.Name x p) (e :: es) [] pos) (low X.K (eCall sp t)) := by
  obtain ⟨f, fd, F, hm, hk, hb⟩ := F.ex
  refine (pe_call (E := E0) F hr hg hm hk hb .nil pass0 ha hdb he hpl).imp fun σ H Q ⟨τ, M, Q', hs, hm, h, hq⟩ => ?_
  refine ⟨τ, M, _, hs, hm, h, fun ds M1 vs H1 m1 e1 i1 h1 => ?_⟩
  show lowSp X.K sp (vs ++ []) H1 Q E0
  rw [List.append_nil]
  exact ⟨ds, M1, Q', i1, m1, h1, hq.ext e1⟩
def startD (N : List Str) (ds : List D) : DSt := ds.map some ++ List.replicate (N.length - ds.length) none
theorem start_abs {K : PySem.W.Frag} {H : Hp} {N : List Str} {vs : List V} {ds : List D} (h : Iss K H vs ds) : SAbs K (startD N ds) (L2.start N vs) H := by
  have hl := h.length
  refine ⟨by unfold startD L2.start; simp [hl], fun i d e => ?_⟩
  unfold startD at e
  by_cases hi : i < ds.length
  · rw [List.getElem?_append_left (by simpa using hi), List.getElem?_map] at e
    cases q : ds[i]? with
    | none => rw [q] at e; cases e
    | some d' =>
      rw [q] at e
      cases e
      obtain ⟨v, ev, iv⟩ := h.get q
      refine ⟨v, ?_, iv⟩
      unfold L2.start
      rw [List.getElem?_append_left (by simpa [hl] using hi), List.getElem?_map, ev]
      rfl
  · rw [List.getElem?_append_right (by simpa using hi), List.getElem?_replicate] at e
    split at e <;> cases e
/-- what a def's body must reach -/
def endsOf (Q : KD) : EndsD := { nx := fun _ M' => ∃ M0, Sub M0 M' ∧ Q .non M0, rt := fun d M' => ∃ M0, Sub M0 M' ∧ Q d M0 }
section
variable {P : Program} {w : World} {K : PySem.W.Frag} {mg : Str → Option Value} {base : Heap}
theorem def_fn {x qual : Str} {st : Stmt} {f : Addr} {fd : FuncData} {N ps : List Str} {k : Nat} {sp : SpD} (F : Fun K x qual st f fd) (S : FnScope N ps (defScope st)) (len : ∀ ds M Q, sp ds M Q → ds.length = ps.length)
    (hbody : ∀ (cdv : Value) (A : Around) (outer : List Env) (s : Shared) (H : Hp) (E : XK), Room k (A.deeper (envOfC qual (defScope st) s.heap.objs.size f cdv)) →
      ∃ t : TSd, PSs (cxOf CX0 P w K mg base N qual (defScope st) f cdv A outer s H E).nox (defBody st) (lowS K t) ∧ ∀ ds M Q, sp ds M Q → t (endsOf Q) (startD N ds) M) : FnOk P w K mg base CX0 (k + 1) f fd ps (lowSp K sp) := by
  refine F.ok S (fun vs H Q E h => ?_) (fun cdv A outer s H vs Q E hr h => ?_)
  · obtain ⟨ds, M, Q', i, _, q, _⟩ := h
    rw [i.length]
    exact len _ _ _ q
  · obtain ⟨t, h1, h2⟩ := hbody cdv A outer s H E hr
    obtain ⟨ds, M, Q', i, hm, q, hq⟩ := h
    refine ⟨_, h1, startD N ds, M, endsOf Q', start_abs i, hm, h2 _ _ _ q, ⟨?_, ?_, ?_, ?_⟩⟩
    · rintro τ M1 σ H1 s1 m1 e1 ⟨M0, sub, q0⟩
      exact hq _ M0 _ H1 (m1.sub sub) e1 .non q0
    · rintro d M1 v H1 m1 e1 i1 ⟨M0, sub, q0⟩
      exact hq d M0 v H1 (m1.sub sub) e1 i1 q0
    · intro τ M1 σ H1 _ _ _ q0; exact q0.elim
    · intro τ M1 σ H1 _ _ _ q0; exact q0.elim
/-- a def of the text as it stands: its object, how it binds, its name -/
def Stands (K : PySem.W.Frag) (mg : Str → Option Value) (x : Str) (st : Stmt) (ps : List Str) : Prop := ∃ f fd, Fun K x x st f fd ∧ Binds K fd ps [] ∧ mg x = some (.ref f)
theorem def_ok {x : Str} {st : Stmt} {N ps : List Str} {k : Nat} {sp : SpD} (T : Stands K mg x st ps) (S : FnScope N ps (defScope st)) (len : ∀ ds M Q, sp ds M Q → ds.length = ps.length)
    (hbody : ∀ (f : Addr) (cdv : Value) (A : Around) (outer : List Env) (s : Shared) (H : Hp) (E : XK), Room k (A.deeper (envOfC x (defScope st) s.heap.objs.size f cdv)) →
      ∃ t : TSd, PSs (cxOf CX0 P w K mg base N x (defScope st) f cdv A outer s H E).nox (defBody st) (lowS K t) ∧ ∀ ds M Q, sp ds M Q → t (endsOf Q) (startD N ds) M) : FnD P w K mg base (k + 1) x ps sp := by
  obtain ⟨f, fd, F, hb, hm⟩ := T
  exact ⟨f, fd, def_fn F S len (hbody f), hm, F.kp, hb⟩
/-- the law itself -/
def spLaw : SpD := fun ds M Q => ∃ ns : List Int, ds = [.rol (ns.map .int)] ∧ ns.length ≤ 63 ∧ Q (.bl true) M
theorem law_low {K : PySem.W.Frag} {H : Hp} {a : Addr} {ns : List Int} (hO : Only H) (hl : ns.length ≤ 63) (hS : SqL K H a (ns.map V.int)) : lowSp K spLaw [.ref a] H (fun v _ => v = .bl true) fun _ _ _ => False := by
  have hF : SqF K H a (ns.map V.int) := by
    rcases hS with (h | ⟨o, h⟩) | h
    · rcases hO a with z | ⟨o, xs, z⟩ <;> rw [z] at h <;> cases h
    · exact .inl ⟨o, h⟩
    · exact .inr h
  have hI : ∀ ns : List Int, Iss K H (ns.map V.int) (ns.map D.int) := fun ns => by
    induction ns with
    | nil => exact .nil
    | cons n ns ih => exact .cons (.int n) ih
  refine ⟨[.rol (ns.map .int)], fun _ => none, fun d _ => d = .bl true, .cons (.rol hF (hI ns)) .nil, fun a o e => (nomatch e), ⟨ns, rfl, hl, rfl⟩, fun d M1 v H1 _ _ i q => ?_⟩
  have q' : d = .bl true := q
  subst q'
  (first | cases i.inv | cases i)
  rfl
end
end
end DL

/-! Comprehensions. -/
namespace DL
open PySem PySem.Spec PyProof.Rows L2

def pick {α : Type} (js : List (Option Nat)) (τ : List (Option α)) : List (Option α) := js.map fun o => match o with
  | none => none
  | some j => match τ[j]? with
    | some v => v
    | none => none
/-- the context of a comprehension's block -/
def compCx (X : Cx) (Nc : List Str) (scope : Scope) (cl : List (Str × Addr)) (C : Addr) (s : Shared) (H : Hp) (fp : List Addr) : Cx where
  prog := X.prog
  w := X.w
  K := X.K
  mg := X.mg
  base := X.base
  A := X.A
  N := Nc
  s₀ := s
  H₀ := H
  env := compEnvC scope cl C X.env
  outer := X.stack
  stack := X.stack
  ex := fp
  fn := fun _ => false
  calm := X.calm
  pn := []
  xe := fun _ _ => False
structure CompOk (X : Cx) (Nc : List Str) (js : List (Option Nat)) (scope : Scope) (cl : List (Str × Addr)) : Prop where
  kind : scope.kind = .function
  clos : closureFor scope X.env = pure cl
  nocell : ∀ y ∈ scope.names, y.2 ≠ .cell
  names : ∀ y ∈ scope.names, y.2 = .local → scope.names.lookup y.1 = some .local
  sub : ∀ p ∈ cl, X.env.cells.lookup p.1 = some p.2
  has : ((relabel scope X.env).names.all fun p => (p.2 != .cell && p.2 != .free) || (cl.lookup p.1).isSome) = true
  len : js.length = Nc.length
  fr : ∀ (i j : Nat) (x : Str), js[i]? = some (some j) → Nc[i]? = some x → X.N[j]? = some x ∧ (X.env.kindOf x = some .cell ∨ X.env.kindOf x = some .free) ∧
    ((relabel scope X.env).names.lookup x = some .cell ∨ (relabel scope X.env).names.lookup x = some .free) ∧ X.fs = X.fs
theorem pick_get {α : Type} {js : List (Option Nat)} {τ : List (Option α)} {i : Nat} {v : α} (h : (pick js τ)[i]? = some (some v)) : ∃ j, js[i]? = some (some j) ∧ τ[j]? = some (some v) := by
  unfold pick at h
  rw [List.getElem?_map] at h
  cases q : js[i]? with
  | none => rw [q] at h; cases h
  | some o =>
    rw [q] at h
    cases o with
    | none => cases h
    | some j =>
      refine ⟨j, rfl, ?_⟩
      have h' : (match τ[j]? with
        | some v => v
        | none => none) = some v := Option.some.inj h
      cases e : τ[j]? with
      | none => rw [e] at h'; cases h'
      | some u => rw [e] at h'; exact congrArg some h'
def tComp (wi : TI) (g : TG) (tt : TT) (te : TE) (js : List (Option Nat)) : TE := fun σ H Q => wi σ H fun J H1 => ∀ l, H1 l = none → ∃ W : Nat → Nat → St → Hp → Prop, (∃ m, W 0 m (pick js σ) (upd H1 l (.lst []))) ∧ ∀ i m σ2 H2, W i m σ2 H2 →
  (J.stop i H2 ∧ Q (.ref l) H2) ∨ (J.go i H2 ∧ ∀ x H3, J.yld i H2 x H3 → g x σ2 H3 fun σ4 H4 => tt σ4 H4 fun b H5 => if b = true then te σ4 H5 fun y H6 => ∃ ys, H6 l = some (.lst ys) ∧ ys.length < sizeLine ∧ ∃ m', m' < m ∧ W (i + 1) m' σ4 (upd H6 l (.lst (ys ++ [y])))
    else ∃ m', m' < m ∧ W (i + 1) m' σ4 H5)
/-- the tests of a clause: none or one -/
def PIfs (X : Cx) (ifs : List Expr) (t : TT) : Prop := (ifs = [] ∧ t = fun _ H Q => Q true H) ∨ ∃ c, ifs = [c] ∧ PT X c t
section
variable {X : Cx} {tg elt iter : Expr} {ifs : List Expr} {scope : Scope} {pos : Pos} {wi : TI} {g : TG} {tt : TT} {te : TE} {js : List (Option Nat)} {Nc : List Str} {cl : List (Str × Addr)}
theorem comp_start {pins : List (Addr × Obj)} {σ : St} {H : Hp} {s : Shared} {fp : List Addr} {C : Addr} {s' : Shared} {H' : Hp} (O : CompOk X Nc js scope cl) (I : Inv X pins σ H s) (f : ∀ b ∈ fp, FpOk X pins H b) (hfp : ∀ b ∈ fp, b < C) (hC : s.heap.objs.size ≤ C)
    (os : s'.os = s.os) (bare : AllBare s'.gens) (un : Un (frs X.stack) fp H H' s.heap s'.heap) (hn : s'.heap.Ns C fun _ => none) (hfree : H' C = none) (hok : HOk X.prog X.w H' s'.heap) (old : ∀ b o, s.heap.get? b = some o → s'.heap.get? b = some o) : Inv (compCx X Nc scope cl C s H fp) [] (pick js σ) H' s' := by
  have clk : ∀ x c, cl.lookup x = some c → X.env.cells.lookup x = some c := fun x c e => O.sub (x, c) (PySem.mem_of_lookup e)
  have kin : ∀ x k, (relabel scope X.env).names.lookup x = some k → (k = .cell ∨ k = .free) → ∃ c, cl.lookup x = some c := fun x k e hk => by
    have h1 := List.all_eq_true.mp O.has (x, k) (PySem.mem_of_lookup e)
    rcases hk with rfl | rfl
    · exact Option.isSome_iff_exists.mp (by simpa using h1)
    · exact Option.isSome_iff_exists.mp (by simpa using h1)
  have cfree : ∀ x c, cl.lookup x = some c → ∃ o, s.heap.get? c = some o := fun x c e => by
    obtain ⟨v, o, ho, _⟩ := I.cell x c (clk x c e)
    exact ⟨o, ho⟩
  refine ⟨⟨I.ok.mod, by simp [compCx, compEnvC, relabel, O.kind], I.ok.glob, I.ok.blt, hC, fun x y c h1 h2 => I.ok.inj x y c (clk x c h1) (clk y c h2), fun x hx => ?_, fun x c h => (nomatch h), I.ok.hd, I.ok.frames, .inl rfl, fun b hb => ⟨Nat.ne_of_lt (hfp b hb), fun x c e => (f b hb).2.2.2.2.1 x c (clk x c e)⟩,
      I.bs, Nat.le_trans I.ok.bsz I.sz, fun b o e hb => ?_, fun b hb z => ?_, I.stack, I.stkFree⟩, os, bare, un, ⟨_, hn, fun i x v e1 e2 e3 => ?_⟩, fun x c e => ?_, hfree, fun x c e => ?_, fun p hp => absurd (show p ∈ ([] : List (Addr × Obj)) from hp) (by simp), hok, ?_⟩
  · rcases hx with hx | hx
    · exact kin x _ hx (.inl rfl)
    · exact kin x _ hx (.inr rfl)
  · rcases (f b hb).2.2.2.1 with z | z
    · exact I.ok.noex b o e z
    · exact absurd (Nat.lt_of_lt_of_le (Heap.lt_size e) (Nat.le_trans I.ok.bsz z)) (Nat.lt_irrefl _)
  · rcases List.mem_cons.mp (I.stkSub b z) with z | z
    · exact (f b hb).2.1 z
    · exact (f b hb).2.2.1 z
  · obtain ⟨j, ej, ev⟩ := pick_get e2
    obtain ⟨hN, hk, hk', _⟩ := O.fr i j x ej e1
    obtain ⟨m, _, hl⟩ := I.loc
    have vis : Vis X.env.scope x := by rcases hk with k | k; exact .inr (.inl k); exact .inr (.inr k)
    obtain ⟨u, r, lk⟩ := hl j x v hN ev vis
    refine ⟨u, r, .inr ⟨hk', ?_⟩⟩
    obtain ⟨c, ec⟩ : ∃ c, cl.lookup x = some c := by
      rcases hk' with k | k
      · exact kin x _ k (.inl rfl)
      · exact kin x _ k (.inr rfl)
    refine ⟨c, ec, ?_⟩
    rcases lk with ⟨kl, _⟩ | ⟨_, c', ec', hc⟩
    · rcases hk with k | k <;> (rw [k] at kl; cases kl)
    · rw [clk x c ec] at ec'
      cases ec'
      obtain ⟨o, ho, hd⟩ := hc
      exact ⟨o, old _ o ho, hd⟩
  · obtain ⟨v, o, ho, hd⟩ := I.cell x c (clk x c e)
    exact ⟨v, o, old _ o ho, hd⟩
  · obtain ⟨v, o, ho, hd⟩ := I.cell x c (clk x c e)
    exact un.free c o ho (I.freeC x c (clk x c e)) fun z => (f c z).2.2.2.2.1 x c (clk x c e) rfl
  · unfold pick
    rw [List.length_map]
    exact O.len
theorem comp_run {use : Option (Value → Sem Unit)} {Qf : Value → Shared → Prop} {pins : List (Addr × Obj)} {s : Shared} {σ : St} {H : Hp} {Q : VK} {ipos : Pos} (O : CompOk X Nc js scope cl) (hc : X.calm = true) (hi : PI X tg iter wi) (hg : ∀ C s H fp, PG (compCx X Nc scope cl C s H fp) tg g) (hif : ∀ C s H fp, PIfs (compCx X Nc scope cl C s H fp) ifs tt) (he : ∀ C s H fp, PE (compCx X Nc scope cl C s H fp) elt te)
    (hs : ∀ x, foldedSetIterable iter X.env x = pure x) (I : Inv X pins σ H s) (h : tComp wi g tt te js σ H Q)
    (fin : ∀ s5 H4 l C m f, Inv X pins σ H4 s5 → FpOk X pins H4 C → s5.heap.Ns C m → Q (.ref l) H4 → compPost (model X.prog X.w) X.A X.xe use Qf (.ref l) C (.ok f) s5) :
    wpAny (model X.prog X.w) X.A (comprehension (.ListComp elt [⟨tg, iter, ifs, 0⟩] scope pos) scope X.env ipos (newList []) false (eval iter X.env) use) Qf X.xe s := by
  refine wpAny_comprehension_free (use := use) rfl hs O.clos O.kind O.names (thn (hi pins s σ H _ I h) fun v s1 h1 => thn h1 fun itv s2 h2 => ?_)
  obtain ⟨it, fp, tn, J, H2, e, I2, T, st2, f2, q⟩ := h2
  subst e
  have hl : H2 s2.heap.objs.size = none := I2.hok.fresh (Nat.le_refl _)
  obtain ⟨W, ⟨m0, w0⟩, turn⟩ := q _ hl
  refine wpAny_newObj_type (wpAny_newFunctionEnv O.nocell (by intro y hy; simp at hy) (fun h₁ hns₁ hsb₁ => ?_) O.kind)
  dsimp only at hns₁ hsb₁ ⊢
  generalize hH2 : s2.heap.push { cls := .type "list", dict := none, data := .seq ([] : List Value).toArray } = G2 at hns₁ hsb₁ ⊢
  have hC : G2.objs.size = s2.heap.objs.size + 1 := by rw [← hH2, Heap.size_push]
  have below : ∀ b, b < s2.heap.objs.size → b ≠ G2.objs.size ∧ b ≠ s2.heap.objs.size := fun b hb => ⟨by rw [hC]; exact Nat.ne_of_lt (Nat.lt_succ_of_lt hb), Nat.ne_of_lt hb⟩
  have old : ∀ b o, s2.heap.get? b = some o → h₁.get? b = some o := fun b o e => hsb₁.extBut b o (below b (Heap.lt_size e)).1 (Heap.get?_push_of_some _ (hH2 ▸ Heap.get?_push_of_some _ e))
  have hDC : s2.heap.objs.size ≠ G2.objs.size := by rw [hC]; exact Nat.ne_of_lt (Nat.lt_succ_self _)
  have hacc : h₁.get? s2.heap.objs.size = some { cls := .type "list", dict := none, data := .seq ([] : List Value).toArray } := hsb₁.extBut _ _ hDC (Heap.get?_push_of_some _ (hH2 ▸ Heap.get?_push_size _ rfl))
  have hfp : ∀ b ∈ fp, b < s2.heap.objs.size := fun b hb => let ⟨o, e, _⟩ := T.obj _ _ st2 b hb; Heap.lt_size e
  have hCn : upd H2 s2.heap.objs.size (.lst []) G2.objs.size = none := by
    rw [upd_ne (Ne.symm hDC)]
    exact I2.hok.fresh (by rw [hC]; exact Nat.le_succ _)
  have I3 : Inv (compCx X Nc scope cl G2.objs.size s2 H2 fp) [] (pick js σ) (upd H2 s2.heap.objs.size (.lst [])) { s2 with heap := h₁, toks := s2.toks + ([] : List (Str × Value)).length } :=
    comp_start O I2 f2 (fun b hb => by rw [hC]; exact Nat.lt_succ_of_lt (hfp b hb)) (by rw [hC]; exact Nat.le_succ _) rfl I2.bare (Un.laid old (Nat.le_refl _) hl) hns₁ hCn (I2.hok.laid old (Nat.le_refl _) ⟨by simp, [], 0, .nil, hacc⟩) old
  have st3 : tn 0 h₁ := T.keep _ _ _ st2 fun b hb o e => old b o e
  have nofp : ∀ b ∈ fp, upd H2 s2.heap.objs.size (.lst []) b = none := fun b hb => by rw [upd_ne (Nat.ne_of_lt (hfp b hb))]; exact (f2 b hb).1
  have stat : ∀ {H' : Hp}, (∀ b ∈ fp, H' b = none) → ∀ b ∈ fp, FpOk (compCx X Nc scope cl G2.objs.size s2 H2 fp) [] H' b := fun hn b hb =>
    ⟨hn b hb, Nat.ne_of_lt (by rw [hC]; exact Nat.lt_succ_of_lt (hfp b hb)), fun z => by
      rcases List.mem_cons.mp (I2.stkSub b z) with z | z
      · exact (f2 b hb).2.1 z
      · exact (f2 b hb).2.2.1 z, .inl hb, fun x c ec => (f2 b hb).2.2.2.2.1 x c (O.sub (x, c) (PySem.mem_of_lookup ec)), fun p hp => absurd (show p ∈ ([] : List (Addr × Obj)) from hp) (by simp)⟩
  have loop : ∀ s₃ : Shared, s₃ = { s2 with heap := h₁, toks := s2.toks + ([] : List (Str × Value)).length } →
      codeAny (model X.prog X.w) X.A (.compLoop (.ListComp elt [⟨tg, iter, ifs, 0⟩] scope pos) 0 (.ref it) (.ref s2.heap.objs.size) (compEnvC scope cl G2.objs.size X.env)) (compPost (model X.prog X.w) X.A X.xe use Qf (.ref s2.heap.objs.size) G2.objs.size) s₃ := by
    rintro s₃ rfl
    refine codeAny_loop rfl (fun n s' => ∃ i σ' H', Inv (compCx X Nc scope cl G2.objs.size s2 H2 fp) [] σ' H' s' ∧ tn i s'.heap ∧ (∀ b ∈ fp, H' b = none) ∧ W i n σ' H') ?_ m0 ⟨0, _, _, I3, st3, nofp, w0⟩
    rintro n s4 ⟨i, σ4, H4, I4, st4, fr4, w4⟩
    show wpAny _ X.A ((compTurn (.ListComp elt [⟨tg, iter, ifs, 0⟩] scope pos) 0 (.ref it) (.ref s2.heap.objs.size) (compEnvC scope cl G2.objs.size X.env)).onRaise (fun x => do noteFrame x (compEnvC scope cl G2.objs.size X.env); theTreesLotGoes x)) _ _ s4
    refine wpAny_noted ?_
    rw [compTurn_list]
    refine wpAny_bind (wpAny_standAt (wpAny_bind ?_))
    rcases turn i n σ4 H4 w4 with ⟨stop, qn⟩ | ⟨go, step⟩
    · refine thn (T.done (compCx X Nc scope cl G2.objs.size s2 H2 fp) rfl rfl rfl hc i [] s4 σ4 H4 _ I4 (stat fr4) st4 stop) fun r s5 ⟨hr, I5⟩ => ?_
      subst hr
      refine wpAny_pure ?_
      obtain ⟨m, hn, _⟩ := I5.loc
      have J5 : Inv X pins σ H4 s5 := I2.call' I5.os I5.base I5.hok I5.bare fun b hb => ⟨(f2 b hb).2.2.2.1, (f2 b hb).2.1, (f2 b hb).2.2.2.2.1, (f2 b hb).2.2.2.2.2⟩
      exact fin s5 H4 _ _ m _ J5 (I2.fpOk (by rw [hC]; exact Nat.le_succ _) I5.free) hn qn
    · refine thn (T.item (compCx X Nc scope cl G2.objs.size s2 H2 fp) rfl rfl rfl hc i [] s4 σ4 H4 _ I4 (stat fr4) st4 go) fun r s5 ⟨u, hr, h5⟩ => ?_
      subst hr
      refine wpAny_bind (thn h5 fun _ s6 ⟨x, H6, I6, r6, y6, st6, fr6⟩ => ?_)
      have I6' := I6.pinned (stat fr6) (T.obj _ _ st6)
      have again' : ∀ {s9 : Shared} {σ9 : St} {H9 : Hp}, Inv (compCx X Nc scope cl G2.objs.size s2 H2 fp) ([] ++ pinsAt fp s6.heap) σ9 H9 s9 → (∃ m', m' < n ∧ W (i + 1) m' σ9 H9) →
          ∃ m, m < n ∧ ∃ i σ' H', Inv (compCx X Nc scope cl G2.objs.size s2 H2 fp) [] σ' H' s9 ∧ tn i s9.heap ∧ (∀ b ∈ fp, H' b = none) ∧ W i m σ' H' := fun {s9 σ9 H9} I9 ⟨m', hm, w9⟩ => by
        refine ⟨m', hm, i + 1, σ9, H9, I9.unpinned, T.keep _ _ _ st6 fun b hb o e => (I9.pin (b, o) (List.mem_append_right _ (List.mem_append_right _ (mem_pinsAt hb e)))).1, fun b hb => ?_, w9⟩
        obtain ⟨o, e, d⟩ := T.obj _ _ st6 b hb
        exact (I9.pin (b, o) (List.mem_append_right _ (List.mem_append_right _ (mem_pinsAt hb e)))).2.1
      refine wpAny_bind (wpAny_mono (hg G2.objs.size s2 H2 fp _ s6 σ4 H6 x u _ I6' r6 (step x H6 y6)) (fun _ s7 ⟨σ7, H7, I7, q7⟩ => ?_) fun _ _ z => z.elim)
      have tests : ∀ {R : Bool → Shared → Prop} {E' : Value → Shared → Prop}, (∀ b s8, (∃ H8, Inv (compCx X Nc scope cl G2.objs.size s2 H2 fp) ([] ++ pinsAt fp s6.heap) σ7 H8 s8 ∧ (if b = true then te σ7 H8 fun y H6 => ∃ ys, H6 s2.heap.objs.size = some (.lst ys) ∧ ys.length < sizeLine ∧ ∃ m', m' < n ∧ W (i + 1) m' σ7 (upd H6 s2.heap.objs.size (.lst (ys ++ [y])))
          else ∃ m', m' < n ∧ W (i + 1) m' σ7 H8)) → R b s8) → wpAny (model X.prog X.w) X.A (forIn ifs true fun c r => if r = true then do let ok ← isTrue c (compEnvC scope cl G2.objs.size X.env) (eval c (compEnvC scope cl G2.objs.size X.env)); pure (ForInStep.yield ok) else pure (ForInStep.yield r)) R E' s7 := by
        intro R E' hR
        rcases hif G2.objs.size s2 H2 fp with ⟨e1, e2⟩ | ⟨c, e1, e2⟩
        · subst e1 e2
          exact wpAny_tests_nil (hR true s7 ⟨H7, I7, q7⟩)
        · subst e1
          exact wpAny_tests_one (wpAny_mono (e2 _ s7 σ7 H7 _ I7 q7) (fun b s8 ⟨H8, I8, q8⟩ => hR b s8 ⟨H8, I8, q8⟩) fun _ _ z => z.elim)
      refine wpAny_bind (tests fun ok s8 ⟨H8, I8, q8⟩ => ?_)
      cases ok with
      | false =>
        rw [if_neg Bool.false_ne_true] at q8
        exact wpAny_pure ⟨rfl, again' I8 q8⟩
      | true =>
        rw [if_pos rfl] at q8
        refine wpAny_bind (wpAny_bind (wpAny_mono (he G2.objs.size s2 H2 fp _ s8 σ7 H8 _ I8 q8) (fun xv s9 ⟨y, H9, I9, r9, ys, hy, hlen, q9⟩ => ?_) fun _ _ z => z.elim))
        refine wpAny_bind (wpAny_mono (mt_append (X := compCx X Nc scope cl G2.objs.size s2 H2 fp) _ s9 σ7 H9 (.ref s2.heap.objs.size) [y] (.ref s2.heap.objs.size) [xv] (fun v H' => ∃ m', m' < n ∧ W (i + 1) m' σ7 H') I9 rfl (.cons r9 .nil) ⟨_, ys, y, rfl, rfl, hy, hlen, q9⟩) (fun _ s10 ⟨v, H10, I10, _, q10⟩ => wpAny_pure (wpAny_pure ⟨rfl, again' I10 q10⟩)) fun _ _ z => z.elim)
  exact codeAny_compStart_list (loop _ rfl) (T.self _ 0 _ _ _ st3 (loop _ rfl))
theorem pe_comp (O : CompOk X Nc js scope cl) (hc : X.calm = true) (hi : PI X tg iter wi) (hg : ∀ C s H fp, PG (compCx X Nc scope cl C s H fp) tg g) (hif : ∀ C s H fp, PIfs (compCx X Nc scope cl C s H fp) ifs tt) (he : ∀ C s H fp, PE (compCx X Nc scope cl C s H fp) elt te)
    (hs : ∀ x, foldedSetIterable iter X.env x = pure x := by intro _; rfl) : PE X (.ListComp elt [⟨tg, iter, ifs, 0⟩] scope pos) (tComp wi g tt te js) := by
  intro pins s σ H Q I h
  rw [eval_ListComp]
  exact comp_run (use := none) O hc hi hg hif he hs I h fun s5 H4 l C m f J5 fp hn q => ⟨m, hn, fun h' hs' => ⟨.ref l, H4, J5.turned (t' := s5.toks) (it := C) (fun b o hb e => hs'.extBut b o hb e) fp.1 fp.2.1 fp.2.2.2.1 fp.2.2.2.2.1 fp.2.2.2.2.2, rfl, q⟩⟩
/-- name = [.. for ..]: the name is bound ahead of the end of the comprehension -/
theorem ps_setC {i : Nat} {y : Str} {py spos : Pos} (O : CompOk X Nc js scope cl) (hc : X.calm = true) (hN : X.N.Nodup) (hi' : X.N[i]? = some y) (hx : Loc X.env.scope y) (hi : PI X tg iter wi) (hg : ∀ C s H fp, PG (compCx X Nc scope cl C s H fp) tg g) (hif : ∀ C s H fp, PIfs (compCx X Nc scope cl C s H fp) ifs tt) (he : ∀ C s H fp, PE (compCx X Nc scope cl C s H fp) elt te)
    (hs : ∀ x, foldedSetIterable iter X.env x = pure x) (hsw : swapsWith (.ListComp elt [⟨tg, iter, ifs, 0⟩] scope pos) (some (.Name y py)) spos.line X.env = pure true) (hf : X.fn y = true ∨ X.env.scope.names.lookup y = some .local) :
    PS X (.Assign [.Name y py] (.ListComp elt [⟨tg, iter, ifs, 0⟩] scope pos) spos) (tAsg (tComp wi g tt te js) (gName i)) := by
  intro pins s σ H D I h
  rw [exec_Assign_Name_used _ _ _ _ hsw]
  refine wpAny_bind (wpAny_standAt (wpAny_bind ?_))
  show wpAny _ X.A (do let _ ← comprehension (.ListComp elt [⟨tg, iter, ifs, 0⟩] scope pos) scope X.env _ (newList []) false (eval iter X.env) (some (assign (.Name y py) X.env))) _ _ s
  refine wpAny_bind (wpAny_mono (comp_run (use := some (assign (.Name y py) X.env)) (Qf := fun _ s' => SP X pins D .next s') O hc hi hg hif he hs I h fun s5 H4 l C m f J5 fp hn q => ?_) (fun _ s' hq => wpAny_pure (wpAny_pure hq)) fun _ _ e => e)
  obtain ⟨o, es, ep, ho, rr⟩ := hn
  have J6 := J5.pinned (fp := [C]) (fun b hb => by rw [List.mem_singleton.mp hb]; exact fp) fun b hb => ⟨o, by rw [List.mem_singleton.mp hb]; exact ho, fun v z => by rw [rr.1] at z; cases z⟩
  refine wpAny_assign_Name (store_ok J6 hN hi' hx (v := .ref l) rfl (fun s6 I6 => ?_) hf)
  have pc := (I6.pin (C, o) (List.mem_append_right _ (List.mem_append_right _ (mem_pinsAt (List.mem_singleton.mpr rfl) ho)))).1
  exact ⟨m, ⟨o, es, ep, pc, rr⟩, fun h' hs' => ⟨_, H4, I6.unpinned.turned (t' := s6.toks) (it := C) (fun b o hb e => hs'.extBut b o hb e) fp.1 fp.2.1 fp.2.2.2.1 fp.2.2.2.2.1 fp.2.2.2.2.2, q⟩⟩
/-! over data -/
def Fgt (τ0 τ : DSt) : Prop := τ.length = τ0.length ∧ ∀ (i : Nat) d, τ0[i]? = some (some d) → τ[i]? = some (some d)
theorem SAbs.forget {K : PySem.W.Frag} {τ0 τ : DSt} {σ : St} {H : Hp} (h : SAbs K τ σ H) (f : Fgt τ0 τ) : SAbs K τ0 σ H := ⟨f.1.symm.trans h.1, fun i d e => h.2 i d (f.2 i d e)⟩
theorem SAbs.pick {K : PySem.W.Frag} {τ : DSt} {σ : St} {H : Hp} (h : SAbs K τ σ H) (js : List (Option Nat)) : SAbs K (pick js τ) (DL.pick js σ) H := by
  refine ⟨by unfold DL.pick; rw [List.length_map, List.length_map], fun i d e => ?_⟩
  obtain ⟨j, ej, ed⟩ := pick_get e
  obtain ⟨v, ev, iv⟩ := h.2 j d ed
  refine ⟨v, ?_, iv⟩
  unfold DL.pick
  rw [List.getElem?_map, ej]
  simp [ev]
/-- the comprehension over ds: each one's test and value leave all as it was -/
def compD (ds : List D) (g : TGd) (tt : TTd) (te : TEd) (js : List (Option Nat)) (τ : DSt) (M : DH) (Q : KD) : Prop := ds.length ≤ 1000000 ∧ ∃ f : D → Option D,
  (∀ d ∈ ds, ∀ p acc, M p = none → g d (pick js τ) (updM M p (.lst acc)) fun τ2 M2 => Fgt (pick js τ) τ2 ∧ tt τ2 M2 fun b M3 => if b = true then te τ2 M3 fun y M4 => M4 = updM M p (.lst acc) ∧ f d = some y else M3 = updM M p (.lst acc) ∧ f d = none) ∧
  ∀ p, M p = none → Q (.ref p) (updM M p (.lst (ds.filterMap f)))
def compX (g : TGd) (tt : TTd) (te : TEd) (js : List (Option Nat)) (τ : DSt) : D → DH → KD → Prop
  | .tup ds, M, Q => compD ds g tt te js τ M Q
  | .rol ds, M, Q => compD ds g tt te js τ M Q
  | .str z, M, Q => compD (signs z) g tt te js τ M Q
  | .ref l, M, Q => ∃ ds, M l = some (.lst ds) ∧ compD ds g tt te js τ M Q
  | _, _, _ => False
def eComp (ti : TEd) (g : TGd) (tt : TTd) (te : TEd) (js : List (Option Nat)) : TEd := fun τ M Q => ti τ M fun x M1 => compX g tt te js τ x M1 Q
def tTrue : TTd := fun _ M Q => Q true M
def DIfs (X : Cx) (ifs : List Expr) (t : TTd) : Prop := (ifs = [] ∧ t = tTrue) ∨ ∃ c, ifs = [c] ∧ PT X c (lowT X.K t)
theorem low_comp {K : PySem.W.Frag} {J : It} {ds : List D} {g : TGd} {ttd : TTd} {ted : TEd} {ttv : TT} {τ : DSt} {σ : St} {M : DH} {H H1 : Hp} {Q' : KD} {Q : VK} (hs : SAbs K τ σ H1) (e1 : Ext K H H1) (m1 : HAbs K M H1) (hq : lowQ K H Q' Q)
    (htt : ∀ σ H R, lowT K ttd σ H R → ttv σ H R) (hgv : ∀ l M2 H2, HAbs K M2 H2 → Ext K H1 H2 → (∀ a ds, M a = some (.lst ds) → M2 a = some (.lst ds)) → H1 l = none → Gives K J ds H2) (h : compD ds g ttd ted js τ M Q') :
    ∀ l, H1 l = none → ∃ W : Nat → Nat → St → Hp → Prop, (∃ m, W 0 m (pick js σ) (upd H1 l (.lst []))) ∧ ∀ i m σ2 H2, W i m σ2 H2 →
      (J.stop i H2 ∧ Q (.ref l) H2) ∨ (J.go i H2 ∧ ∀ x H3, J.yld i H2 x H3 → lowG K g x σ2 H3 fun σ4 H4 => ttv σ4 H4 fun b H5 => if b = true then low K ted σ4 H5 fun y H6 => ∃ ys, H6 l = some (.lst ys) ∧ ys.length < sizeLine ∧ ∃ m', m' < m ∧ W (i + 1) m' σ4 (upd H6 l (.lst (ys ++ [y])))
        else ∃ m', m' < m ∧ W (i + 1) m' σ4 H5) := by
  obtain ⟨hz, f, turn, done⟩ := h
  intro l hl
  have hMl : M l = none := m1.free hl
  refine ⟨fun i m σ2 H2 => m = ds.length - i ∧ i ≤ ds.length ∧ SAbs K (pick js τ) σ2 H2 ∧ HAbs K (updM M l (.lst ((ds.take i).filterMap f))) H2 ∧ Ext K H1 H2, ⟨ds.length, by simp, Nat.zero_le _, (hs.pick js).mono (ext_new hl), m1.newL hl .nil, ext_new hl⟩, ?_⟩
  rintro i m σ2 H2 ⟨rfl, hi, s2, m2, e2⟩
  have G := hgv l _ H2 m2 e2 (fun a es ea => by rw [updM_ne (by intro z; subst z; rw [hMl] at ea; cases ea)]; exact ea) hl
  by_cases hlt : i < ds.length
  · refine .inr ⟨G.go i hlt, fun x H3 y => ?_⟩
    obtain ⟨rfl, d, ed, id⟩ := G.yld i x H3 hlt y
    have hd : d ∈ ds := List.mem_of_getElem? ed
    have tk : (ds.take (i + 1)).filterMap f = (ds.take i).filterMap f ++ (match f d with | some y => [y] | none => []) := by
      rw [List.take_add_one, ed, List.filterMap_append]
      congr 1
      cases hfd : f d with
      | none => simp [hfd]
      | some y => simp [hfd]
    have hlen : ((ds.take i).filterMap f).length < sizeLine := by
      have h1 := List.length_filterMap_le f (ds.take i)
      have h2 : (ds.take i).length ≤ ds.length := by simp; omega
      have h3 : sizeLine = 16777216 := sizeLine_eq
      omega
    refine ⟨d, _, _, _, id, s2, m2, turn d hd l _ hMl, fun τ4 M4 σ4 H4 s4 m4 e4 ⟨fg, q4⟩ => ?_⟩
    refine htt _ _ _ ⟨τ4, M4, _, s4, m4, q4, fun b M5 H5 m5 e5 q5 => ?_⟩
    cases b with
    | true =>
      rw [if_pos rfl] at q5 ⊢
      refine ⟨τ4, M5, _, s4.mono e5, m5, q5, fun y M6 v H6 m6 e6 i6 q6 => ?_⟩
      obtain ⟨rfl, fy⟩ := q6
      obtain ⟨ys, hy, iy⟩ := m6 l _ updM_same
      refine ⟨ys, hy, by rw [iy.length]; exact hlen, ds.length - (i + 1), by omega, rfl, hlt, ?_⟩
      obtain ⟨m7, e7⟩ := m6.setL updM_same hy (iy.append (.cons i6 .nil))
      refine ⟨((s4.forget fg).mono (e5.trans e6)).mono e7, ?_, e2.trans (e4.trans (e5.trans (e6.trans e7)))⟩
      rw [tk, fy]
      rw [updM_upd] at m7
      exact m7
    | false =>
      rw [if_neg Bool.false_ne_true] at q5 ⊢
      obtain ⟨rfl, fy⟩ := q5
      refine ⟨ds.length - (i + 1), by omega, rfl, hlt, (s4.forget fg).mono e5, ?_, e2.trans (e4.trans e5)⟩
      rw [tk, fy, List.append_nil]
      exact m5
  · have e : i = ds.length := by omega
    subst e
    refine .inl ⟨G.stop, ?_⟩
    have q := done l hMl
    rw [List.take_length] at m2
    exact hq _ _ _ _ m2 (e1.trans e2) (.ref l) q
theorem d_comp {ti ted : TEd} {gd : TGd} {ttd : TTd} (O : CompOk X Nc js scope cl) (hc : X.calm = true) (hi : PE X iter (low X.K ti)) (hg : ∀ C s H fp, PG (compCx X Nc scope cl C s H fp) tg (lowG X.K gd)) (hif : ∀ C s H fp, DIfs (compCx X Nc scope cl C s H fp) ifs ttd) (he : ∀ C s H fp, PE (compCx X Nc scope cl C s H fp) elt (low X.K ted))
    (hs : ∀ x, foldedSetIterable iter X.env x = pure x := by intro _; rfl) : PE X (.ListComp elt [⟨tg, iter, ifs, 0⟩] scope pos) (low X.K (eComp ti gd ttd ted js)) := by
  intro pins s0 σ0 H0 Q0 I0 hw
  obtain ⟨ttv, hif', htt⟩ : ∃ ttv : TT, (∀ C s H fp, PIfs (compCx X Nc scope cl C s H fp) ifs ttv) ∧ ∀ σ H R, lowT X.K ttd σ H R → ttv σ H R := by
    rcases hif 0 s0 H0 [] with ⟨e1, e2⟩ | ⟨c, e1, _⟩
    · subst e1 e2
      exact ⟨_, fun _ _ _ _ => .inl ⟨rfl, rfl⟩, fun σ H R ⟨τ, M, Q', _, hm, h, hq⟩ => hq true M H hm (Ext.refl H) h⟩
    · subst e1
      refine ⟨lowT X.K ttd, fun C s H fp => ?_, fun σ H R h => h⟩
      rcases hif C s H fp with ⟨e1, _⟩ | ⟨c', e1, h⟩
      · cases e1
      · cases e1
        exact .inr ⟨c, rfl, h⟩
  refine ((pe_comp O hc (pi_any hi) hg hif' he hs).imp (t' := low X.K (eComp ti gd ttd ted js)) fun σ H Q ⟨τ, M, Q', hs, hm, h, hq⟩ => ⟨τ, M, _, hs, hm, h, fun x M1 v H1 m1 e1 i1 h1 => ?_⟩) pins s0 σ0 H0 Q0 I0 hw
  cases i1 with
  | @tup a xs ds hx hxs => exact .inl ⟨a, rfl, .inr ⟨⟨xs, hx⟩, low_comp (hs.mono e1) e1 m1 hq htt (fun l M2 H2 m2 e2 _ _ => gives_tup (e2.t _ _ hx) (hxs.mono e2)) h1⟩⟩
  | @rol a xs ds hx hxs => exact .inl ⟨a, rfl, .inl ⟨⟨xs, hx.sq⟩, low_comp (hs.mono e1) e1 m1 hq htt (fun l M2 H2 m2 e2 _ _ => gives_list (e2.f _ _ hx).sq (hxs.mono e2)) h1⟩⟩
  | str z => exact .inr ⟨z, rfl, low_comp (hs.mono e1) e1 m1 hq htt (fun l M2 H2 m2 e2 _ _ => gives_str z) h1⟩
  | ref l0 =>
    obtain ⟨ds, hl, w⟩ := h1
    obtain ⟨xs, hx, hxs⟩ := m1 l0 _ hl
    exact .inl ⟨l0, rfl, .inl ⟨⟨xs, SqL.of hx⟩, low_comp (hs.mono e1) e1 m1 hq htt (fun l M2 H2 m2 e2 hk _ => let ⟨ys, hy, iy⟩ := m2.lst (hk l0 ds hl); gives_list hy iy) w⟩⟩
  | _ => exact h1.elim
end
end DL

/-! Further rules over data. -/
namespace DL
open PySem PySem.Spec PyProof.Rows L2

section
variable {X : Cx} {e a b c tg : Expr} {pos : Pos} {ta tb te : TEd} {tc : TTd}
/-! ### - x, x if c else y, return -/
def eNeg (te : TEd) : TEd := fun τ M Q => te τ M fun x M1 => onInt x fun i => Q (.int (-i)) M1
theorem d_neg (h : PE X a (low X.K ta)) : PE X (.UnaryOp .USub a pos) (low X.K (eNeg ta)) :=
  L2.PE.imp (pe_un un_neg h) fun σ H Q ⟨τ, M, Q', hs, hm, h, hq⟩ => ⟨τ, M, _, hs, hm, h, fun x M1 v H1 m1 e1 i1 h1 => by
    cases i1 with
    | int i => exact ⟨i, rfl, hq _ M1 _ H1 m1 e1 (.int _) h1⟩
    | _ => exact h1.elim⟩
def eIfx (t : TTd) (ta tb : TEd) : TEd := fun τ M Q => t τ M fun k M1 => if k = true then ta τ M1 Q else tb τ M1 Q
theorem d_ifx (hc : PT X c (lowT X.K tc)) (ha : PE X a (low X.K ta)) (hb : PE X b (low X.K tb)) : PE X (.IfExp c a b pos) (low X.K (eIfx tc ta tb)) :=
  L2.PE.imp (pe_ifExp hc ha hb) fun σ H Q ⟨τ, M, Q', hs, hm, h, hq⟩ => ⟨τ, M, _, hs, hm, h, fun k M1 H1 m1 e1 h1 => by
    cases k with
    | true => rw [if_pos rfl] at h1 ⊢; exact ⟨τ, M1, Q', hs.mono e1, m1, h1, hq.ext e1⟩
    | false => rw [if_neg Bool.false_ne_true] at h1 ⊢; exact ⟨τ, M1, Q', hs.mono e1, m1, h1, hq.ext e1⟩⟩
/-! ### <=, in of texts -/
def leSD : D → D → DH → KD → Prop
  | .int i, .int j, M, Q => Q (.bl (decide (i ≤ j))) M
  | .str i, .str j, M, Q => Q (.bl (!decide (j.cps.toList < i.cps.toList))) M
  | _, _, _, _ => False
theorem od_le : OpD X (compareOp .LtE) leSD := by
  intro pins s σ H vx vy v u Q I rx ry ⟨x, y, M, Q', ix, iy, hm, q, hq⟩
  cases ix with
  | int i => cases iy with
    | int j => exact op_le pins s σ H _ _ v u Q I rx ry ⟨_, _, rfl, rfl, hq.here hm (.bl _) q⟩
    | _ => exact q.elim
  | str i => cases iy with
    | str j =>
      obtain ⟨t, rfl⟩ := rx
      obtain ⟨t', rfl⟩ := ry
      exact PySem.P.le_str ⟨.bl _, H, I, rfl, hq.here hm (.bl _) q⟩
    | _ => exact q.elim
  | _ => first | exact q.elim | (cases iy <;> exact q.elim)
theorem one_sign {i : Str} {k : Nat} (h : i.cps.toList = [k]) : i = ⟨#[k]⟩ := by
  cases i with
  | mk cps => have : cps = #[k] := by rw [← Array.toArray_toList (xs := cps), h]
              rw [this]
/-! ### range(a, b, -1) -/
/-! ### max of a list of ints, all of a list of truth values -/
theorem len_2 {i j : Nat} : ∀ ds τ M Q, hCons (hName i) (hCons (hName j) hNil) ds τ M Q → ds.length = 2 := fun ds τ M Q h => by
  match ds, h with
  | [], h => exact h.elim
  | [_], h => exact h.elim
  | [_, _], h => rfl
  | _ :: _ :: _ :: _, h => exact h.elim
/-! ### what Python's names stand for -/
theorem bt_len : bootBuiltins "len" = some (.builtin "len") := by decide +kernel
theorem bt_isinstance : bootBuiltins "isinstance" = some (.builtin "isinstance") := by decide +kernel
theorem bt_int : bootBuiltins "int" = some (.type "int") := by decide +kernel
theorem bt_tuple : bootBuiltins "tuple" = some (.type "tuple") := by decide +kernel
theorem bt_list : bootBuiltins "list" = some (.type "list") := by decide +kernel
/-! ### a comprehension without names of the def around it -/
/-! ### * -/
def mulSD : D → D → DH → KD → Prop
  | .int i, .int j, M, Q => CMul i j ∧ Q (.int (i * j)) M
  | .str z, .int n, M, Q => (z.length ≤ 100000 ∧ 0 ≤ n ∧ n ≤ 100) ∧ Q (.str (Txt.mul z n)) M
  | _, _, _, _ => False
theorem od_mulS : OpD X (binaryOp .Mult) mulSD := by
  intro pins s σ H vx vy v u Q I rx ry ⟨x, y, M, Q', ix, iy, hm, q, hq⟩
  cases ix with
  | int i => cases iy with
    | int j => exact op_mul pins s σ H _ _ v u Q I rx ry ⟨_, _, rfl, rfl, q.1, hq.here hm (.int _) q.2⟩
    | _ => exact q.elim
  | str z => cases iy with
    | int n =>
      obtain ⟨⟨h1, h2, h3⟩, q⟩ := q
      obtain ⟨t, rfl⟩ := rx
      obtain ⟨t', rfl⟩ := ry
      have hz : z.length * n.toNat ≤ 100000 * 100 := Nat.mul_le_mul h1 (by omega)
      refine SB.mul ⟨?_, fun h4 _ => ?_, fun _ _ => ?_⟩ fun t2 k => ⟨.str _, H, I.tok k, ⟨_, rfl⟩, hq.here hm (.str _) q⟩
      · have e1 : decide (n < -(2 ^ 63 : Int)) = false := decide_eq_false (by omega)
        have e2 : decide (n ≥ 2 ^ 63) = false := decide_eq_false (by omega)
        rw [e1, e2]; rfl
      · have h5 : (100 : Int) * 92233720368547758 ≤ (2 ^ 63 - 1) := by decide
        have h6 : (92233720368547758 : Int) ≤ (2 ^ 63 - 1) / n := by
          rw [Int.le_ediv_iff_mul_le (by omega)]
          calc (92233720368547758 : Int) * n ≤ 92233720368547758 * 100 := Int.mul_le_mul_of_nonneg_left h3 (by decide)
            _ ≤ _ := by decide
        omega
      · unfold Builtin.Str.tooLong
        simp only [decide_eq_false_iff_not]
        have h3 : sizeLine = 16777216 := sizeLine_eq
        omega
    | _ => exact q.elim
  | _ => first | exact q.elim | (cases iy <;> exact q.elim)
end
end DL

/-! range(a, b, -1); comprehensions with a name of the def around them. -/
namespace DL
open PySem PySem.Spec PyProof.Rows L2
section
variable {X : Cx} {tg : Expr} {g : TGd} {tb : TSd} {pos : Pos}
end
end DL

/-! Comprehensions with names of the def around them. -/
namespace DL
open PySem PySem.Spec PyProof.Rows L2
/-- the cells of the free names -/
def cloF (cells : List (Str × Addr)) : List (Str × NameKind) → List (Str × Addr) → List (Str × Addr)
  | [], acc => acc
  | (n, k) :: r, acc => cloF cells r (if k == .free then (n, (cells.lookup n).getD 0) :: acc else acc)
theorem clos_for {env : Env} : ∀ (names : List (Str × NameKind)) (acc : List (Str × Addr)), (∀ y ∈ names, y.2 = .free → ∃ c, env.cells.lookup y.1 = some c) →
    (forIn (m := Sem) names acc fun x cs => if x.2 == NameKind.free then do let c ← cellOf env x.1; pure (ForInStep.yield ((x.1, c) :: cs)) else pure (ForInStep.yield cs)) = pure (cloF env.cells names acc)
  | [], acc, _ => rfl
  | (n, k) :: r, acc, h => by
    rw [List.forIn_cons]
    have ih := fun acc' => clos_for (env := env) r acc' fun y hy => h y (List.mem_cons_of_mem _ hy)
    by_cases hk : (k == NameKind.free) = true
    · obtain ⟨c, hc⟩ := h (n, k) List.mem_cons_self (by simpa using hk)
      have hc' : env.cells.lookup n = some c := hc
      have e1 : cellOf env n = pure c := by unfold cellOf; rw [hc']
      simp only [hk, if_true, e1, pure_bind, ih]
      rw [cloF, if_pos hk, hc']
      rfl
    · have hk' : (k == NameKind.free) = false := by simpa using hk
      simp only [hk', Bool.false_eq_true, if_false, pure_bind, ih]
      rw [cloF, if_neg (by simp [hk'])]
theorem clos_of {env : Env} {scope : Scope} (h : ∀ y ∈ scope.names, y.2 = .free → ∃ c, env.cells.lookup y.1 = some c) : closureFor scope env = pure (cloF env.cells scope.names []) := by
  have z := clos_for (env := env) scope.names [] h
  simp only [closureFor]
  first
    | exact z
    | (simp only [bind_pure]; exact z)
    | (rw [z]; rfl)
theorem cloF_mem {cells : List (Str × Addr)} : ∀ (names : List (Str × NameKind)) (acc : List (Str × Addr)) (p : Str × Addr), (∀ y ∈ names, y.2 = .free → ∃ c, cells.lookup y.1 = some c) → p ∈ cloF cells names acc → p ∈ acc ∨ cells.lookup p.1 = some p.2
  | [], acc, p, _, h => .inl h
  | (n, k) :: r, acc, p, hf, h => by
    rw [cloF] at h
    rcases cloF_mem r _ p (fun y hy => hf y (List.mem_cons_of_mem _ hy)) h with h | h
    · by_cases hk : (k == NameKind.free) = true
      · rw [if_pos hk] at h
        rcases List.mem_cons.mp h with rfl | h
        · obtain ⟨c, hc⟩ := hf (n, k) List.mem_cons_self (by simpa using hk)
          have hc' : cells.lookup n = some c := hc
          exact .inr (by show cells.lookup n = some ((cells.lookup n).getD 0); rw [hc']; rfl)
        · exact .inl h
      · rw [if_neg hk] at h; exact .inl h
    · exact .inr h
theorem cloF_some {cells : List (Str × Addr)} {x : Str} : ∀ (names : List (Str × NameKind)) (acc : List (Str × Addr)), (x, NameKind.free) ∈ names ∨ (acc.lookup x).isSome = true → ((cloF cells names acc).lookup x).isSome = true
  | [], acc, h => h.elim (fun h => (nomatch h)) id
  | (n, k) :: r, acc, h => by
    rw [cloF]
    refine cloF_some r _ ?_
    by_cases hk : (k == NameKind.free) = true
    · rw [if_pos hk]
      by_cases hx : (x == n) = true
      · exact .inr (by rw [List.lookup_cons, hx]; rfl)
      · have hx' : (x == n) = false := by simpa using hx
        rcases h with h | h
        · rcases List.mem_cons.mp h with h | h
          · cases h; simp at hx
          · exact .inl h
        · exact .inr (by rw [List.lookup_cons, hx']; exact h)
    · rw [if_neg hk]
      rcases h with h | h
      · rcases List.mem_cons.mp h with h | h
        · cases h; simp at hk
        · exact .inl h
      · exact .inr h
theorem relabel_free {env : Env} (hk : env.scope.kind = .function) : ∀ {names : List (Str × NameKind)} {x : Str}, names.lookup x = some .free → env.kindOf x = some .cell →
    (names.map fun (n, k) => if (k == NameKind.free && env.scope.kind == .function && env.kindOf n == some .cell) then (n, NameKind.cell) else (n, k)).lookup x = some .cell
  | [], _, h, _ => by simp at h
  | (n, k) :: r, x, h, hx => by
    have ih := @relabel_free env hk r x
    show List.lookup x ((if (k == NameKind.free && env.scope.kind == .function && env.kindOf n == some .cell) = true then (n, NameKind.cell) else (n, k)) :: _) = _
    cases e : x == n with
    | true =>
      simp only [List.lookup_cons, e] at h
      cases h
      have en : x = n := by simpa using e
      subst en
      rw [if_pos (by simp [hk, hx])]
      simp [List.lookup_cons]
    | false =>
      simp only [List.lookup_cons, e] at h
      by_cases hc : (k == NameKind.free && env.scope.kind == .function && env.kindOf n == some .cell) = true
      · rw [if_pos hc]; simp only [List.lookup_cons, e]; exact ih h hx
      · rw [if_neg hc]; simp only [List.lookup_cons, e]; exact ih h hx
def frOk (N : List Str) (ns : List (Str × NameKind)) : List (Option Nat) → List Str → Bool
  | none :: js, _ :: Nc => frOk N ns js Nc
  | some j :: js, x :: Nc => decide (N[j]? = some x) && decide (ns.lookup x = some .free) && frOk N ns js Nc
  | [], [] => true
  | _, _ => false
theorem frOk_len {N : List Str} {ns : List (Str × NameKind)} : ∀ {js : List (Option Nat)} {Nc : List Str}, frOk N ns js Nc = true → js.length = Nc.length
  | [], [], _ => rfl
  | [], _ :: _, h => nof h
  | none :: _, [], h => nof h
  | some _ :: _, [], h => nof h
  | none :: js, _ :: Nc, h => congrArg (· + 1) (frOk_len (js := js) (Nc := Nc) h)
  | some j :: js, x :: Nc, h => congrArg (· + 1) (frOk_len (js := js) (Nc := Nc) (Bool.and_eq_true_iff.mp h).2)
theorem frOk_get {N : List Str} {ns : List (Str × NameKind)} : ∀ {js : List (Option Nat)} {Nc : List Str} {i j : Nat} {x : Str}, frOk N ns js Nc = true → js[i]? = some (some j) → Nc[i]? = some x → N[j]? = some x ∧ ns.lookup x = some .free
  | [], _, _, _, _, _, e, _ => (nomatch e)
  | _ :: _, [], _, _, _, _, _, e => (nomatch e)
  | none :: js, _ :: Nc, 0, _, _, _, e, _ => (nomatch e)
  | none :: js, _ :: Nc, i + 1, j, x, h, e1, e2 => frOk_get (js := js) (Nc := Nc) (i := i) h e1 e2
  | some j' :: js, y :: Nc, 0, j, x, h, e1, e2 => by
    cases e1
    cases e2
    have h := Bool.and_eq_true_iff.mp (Bool.and_eq_true_iff.mp h).1
    exact ⟨of_decide_eq_true h.1, of_decide_eq_true h.2⟩
  | some j' :: js, y :: Nc, i + 1, j, x, h, e1, e2 => by
    exact frOk_get (js := js) (Nc := Nc) (i := i) (Bool.and_eq_true_iff.mp h).2 e1 e2
section
variable {X : Cx}
theorem comp_okF {Nc : List Str} {js : List (Option Nat)} {scope : Scope} {n : Nat} (N : List Str) (ns : List (Str × NameKind)) (hN : X.N = N) (hS : X.env.scope.names = ns) (hE : X.env.cells = cellsFrom n X.env.scope.names []) (hK : X.env.scope.kind = .function)
    (hfr : ∀ y ∈ scope.names, y.2 = .free → ns.lookup y.1 = some .cell) (hc : ∀ y ∈ scope.names, y.2 ≠ .cell) (hn : ∀ y ∈ scope.names, y.2 = .local → scope.names.lookup y.1 = some .local)
    (hk : scope.kind = .function) (hj : frOk N scope.names js Nc = true) : CompOk X Nc js scope (cloF X.env.cells scope.names []) := by
  have hcell : ∀ y ∈ scope.names, y.2 = .free → ∃ c, X.env.cells.lookup y.1 = some c := fun y hy hf => by
    rw [hE, hS]; exact L2.cell_has (sc := { X.env.scope with names := ns }) (hfr y hy hf)
  refine ⟨hk, clos_of hcell, hc, hn, fun p hp => ?_, ?_, frOk_len hj, fun i j x e1 e2 => ?_⟩
  · rcases cloF_mem _ _ p hcell hp with h | h
    · cases h
    · exact h
  · unfold relabel
    rw [List.all_map, List.all_eq_true]
    rintro ⟨y, k⟩ hp
    by_cases hf : k = .free
    · subst hf
      have z := cloF_some (cells := X.env.cells) (x := y) scope.names [] (.inl hp)
      simp only [Function.comp]
      split <;> (rw [z]; simp)
    · have h1 : (k == NameKind.free) = false := by simpa using hf
      have h2 : k ≠ .cell := hc _ hp
      simp [h1, h2, hf]
  · obtain ⟨h1, h2⟩ := frOk_get hj e1 e2
    have hx : X.env.kindOf x = some .cell := by
      show X.env.scope.names.lookup x = _
      rw [hS]; exact hfr (x, .free) (PySem.mem_of_lookup h2) rfl
    exact ⟨by rw [hN]; exact h1, .inl hx, .inl (relabel_free hK h2 hx), rfl⟩
end
end DL

/-! Dicts over data: keys ints and texts. -/
namespace DL
open PySem PySem.Spec PyProof.Rows L2
def keyD : Key → D
  | .inl i => .int i
  | .inr x => .str x
def keyOf : D → Option Key
  | .int i => some (.inl i)
  | .str x => some (.inr x)
  | _ => none
def valD (kvs : List (Key × D)) (k : Key) : Option D := (kvs.find? fun kv => decide (kv.1 = k)).map (·.2)
def putD (kvs : List (Key × D)) (k : Key) (d : D) : List (Key × D) :=
  if (kvs.any fun kv => decide (kv.1 = k)) = true then kvs.map (fun kv => if kv.1 = k then (kv.1, d) else kv) else kvs ++ [(k, d)]
theorem valD_nil {k : Key} : valD [] k = none := rfl
theorem valD_pos {p : Key × D} {r : List (Key × D)} {k : Key} (e : p.1 = k) : valD (p :: r) k = some p.2 := by simp [valD, List.find?_cons, e]
theorem valD_neg {p : Key × D} {r : List (Key × D)} {k : Key} (e : ¬ p.1 = k) : valD (p :: r) k = valD r k := by simp [valD, List.find?_cons, e]
theorem valD_any (k : Key) : ∀ kvs : List (Key × D), (kvs.any fun kv => decide (kv.1 = k)) = (valD kvs k).isSome
  | [] => rfl
  | p :: r => by
    rw [List.any_cons]
    by_cases e : p.1 = k
    · rw [valD_pos e, decide_eq_true e]; rfl
    · rw [valD_neg e, decide_eq_false e, Bool.false_or]; exact valD_any k r
theorem putD_new {kvs : List (Key × D)} {k : Key} (d : D) (h : valD kvs k = none) : putD kvs k d = kvs ++ [(k, d)] := by
  unfold putD; rw [valD_any, h]; exact if_neg (by decide)
theorem putD_old {kvs : List (Key × D)} {k : Key} (d : D) (h : (valD kvs k).isSome = true) : putD kvs k d = kvs.map fun kv => if kv.1 = k then (kv.1, d) else kv := by
  unfold putD; rw [valD_any, h]; exact if_pos rfl
abbrev PKD (K : PySem.W.Frag) (H : Hp) : List (Key × V) → List (Key × D) → Prop := Paired fun (p : Key × V) (q : Key × D) => p.1 = q.1 ∧ Is K H p.2 q.2
section
variable {K : PySem.W.Frag} {M : DH} {H H' : Hp} {kx : List (Key × V)} {kvs : List (Key × D)} {k : Key} {p : Addr}
theorem key_is {v : V} {d : D} (i : Is K H v d) (e : keyOf d = some k) : v = kV k := by
  cases i with
  | int j => cases e; rfl
  | str x => cases e; rfl
  | _ => cases e
theorem pkd_some (r : PKD K H kx kvs) {d : D} (e : valD kvs k = some d) : ∃ v, valV kx k = some v ∧ Is K H v d := by
  induction r with
  | nil => rw [valD_nil] at e; cases e
  | @cons a b as bs h t ih =>
    by_cases hk : b.1 = k
    · rw [valD_pos hk] at e
      cases e
      exact ⟨a.2, valV_pos (h.1.trans hk), h.2⟩
    · rw [valD_neg hk] at e
      obtain ⟨v, h1, h2⟩ := ih e
      exact ⟨v, by rw [valV_neg fun z => hk (h.1.symm.trans z)]; exact h1, h2⟩
theorem pkd_none (r : PKD K H kx kvs) (e : valD kvs k = none) : valV kx k = none := by
  induction r with
  | nil => rfl
  | @cons a b as bs h t ih =>
    have hk : ¬ b.1 = k := fun z => by rw [valD_pos z] at e; cases e
    rw [valD_neg hk] at e
    rw [valV_neg fun z => hk (h.1.symm.trans z)]
    exact ih e
theorem pkd_isSome (r : PKD K H kx kvs) : (valV kx k).isSome = (valD kvs k).isSome := by
  cases e : valD kvs k with
  | none => rw [pkd_none r e]; rfl
  | some d => obtain ⟨v, h1, _⟩ := pkd_some r e; rw [h1]; rfl
theorem pkd_length (r : PKD K H kx kvs) : kx.length = kvs.length := Paired.length r
theorem pkd_mono (e : Ext K H H') (r : PKD K H kx kvs) : PKD K H' kx kvs := r.impP fun _ _ ⟨r1, r2⟩ => ⟨r1, r2.mono e⟩
theorem pkd_put (r : PKD K H kx kvs) {v : V} {d : D} (i : Is K H v d) : PKD K H (putK kx k v) (putD kvs k d) := by
  have e : (kx.any fun kv => decide (kv.1 = k)) = kvs.any fun kv => decide (kv.1 = k) := by rw [valV_any, valD_any, pkd_isSome r]
  unfold putK putD
  rw [e]
  by_cases q : (kvs.any fun kv => decide (kv.1 = k)) = true
  · rw [if_pos q, if_pos q]
    clear e q
    induction r with
    | nil => exact .nil
    | @cons a b as bs h t ih =>
      rw [List.map_cons, List.map_cons]
      refine .cons ?_ ih
      by_cases z : b.1 = k
      · rw [if_pos z, if_pos (h.1.trans z)]; exact ⟨h.1, i⟩
      · rw [if_neg z, if_neg fun y => z (h.1.symm.trans y)]; exact h
  · rw [if_neg q, if_neg q]; exact Paired.snoc r ⟨rfl, i⟩
/-- a dict that is read: one that may change, or one that a loop walks -/
abbrev DicAt (M : DH) (a : Addr) (kvs : List (Key × D)) : Prop := M a = some (.dic kvs) ∨ M a = some (.fdc kvs)
theorem HAbs.dic {kvs : List (Key × D)} {a : Addr} (h : HAbs K M H) (e : DicAt M a kvs) : ∃ kx, Rd H a (.dK kx) ∧ PKD K H kx kvs := by
  rcases e with e | e
  · obtain ⟨kx, h1, h2⟩ := h a _ e; exact ⟨kx, .inl h1, h2⟩
  · obtain ⟨o, kx, h1, h2⟩ := h a _ e; exact ⟨kx, .inr ⟨o, h1⟩, h2⟩
theorem HAbs.newK (h : HAbs K M H) (e : H p = none) : HAbs K (updM M p (.dic [])) (upd H p (.dK [])) := h.newM e (show MOk K _ p (.dic []) from ⟨[], upd_same, .nil⟩)
theorem HAbs.setK {es : List (Key × D)} {ys : List (Key × V)} (h : HAbs K M H) (hx : H p = some (.dK kx)) (hy : PKD K H ys es) : HAbs K (updM M p (.dic es)) (upd H p (.dK ys)) ∧ Ext K H (upd H p (.dK ys)) := by
  have ex : Ext K H (upd H p (.dK ys)) := ext_upd (fun zs s => by rcases s with s | ⟨u, s⟩ <;> rw [hx] at s <;> cases s) (fun u xs s => by rw [hx] at s; cases s)
  refine ⟨fun a u q => ?_, ex⟩
  by_cases z : a = p
  · subst z; rw [updM_same] at q; cases q; exact ⟨ys, upd_same, pkd_mono ex hy⟩
  · rw [updM_ne z] at q
    exact (h a u q).mono ex.e0 (fun v w => by rw [upd_ne z]; exact w) (fun dx w => by rw [upd_ne (ne_of w hx (by intro k; cases k))]; exact w)
end
section
variable {X : Cx} {e a b c o f : Expr} {es : List Expr} {pos apos cpos : Pos} {ta tb tc te td ty tx : TEd} {n : Nat}
def eDict0 : TEd := fun _ M Q => ∀ p, M p = none → Q (.ref p) (updM M p (.dic []))
theorem d_dict0 : PE X (.Dict [] [] pos) (low X.K eDict0) :=
  pe_dnewK.imp fun σ H Q ⟨τ, M, Q', hs, hm, h, hq⟩ p hp => hq _ _ _ _ (hm.newK hp) (ext_new hp) (.ref p) (h p (hm.free hp))
/-! ### in, not in -/
def D.flat : D → Bool
  | .non => true
  | .bl _ => true
  | .int _ => true
  | .str _ => true
  | _ => false
theorem flat_of {K : PySem.W.Frag} {H : Hp} {v : V} {d : D} (i : Is K H v d) (h : D.flat d = true) : flatV v = true := by
  cases i <;> first | rfl | (cases h; done)
theorem flat_all {K : PySem.W.Frag} {H : Hp} : ∀ {ds : List D} {vs : List V}, Iss K H vs ds → ds.all D.flat = true → vs.all flatV = true
  | [], _, i, _ => by cases i; rfl
  | _ :: _, _, i, h => by
    cases i with
    | cons i t =>
      rw [List.all_cons, Bool.and_eq_true] at h
      rw [List.all_cons, flat_of i h.1, flat_all t h.2]
      rfl
theorem flat_eqV {K : PySem.W.Frag} {H : Hp} {v v' : V} {d d' : D} (i : Is K H v d) (i' : Is K H v' d') (h : D.flat d = true) (h' : D.flat d' = true) : eqV v v' = D.eq d d' :=
  (flat_eq i i' (by cases d <;> cases d' <;> first | rfl | (cases h; done) | (cases h'; done)) (by cases d <;> first | rfl | (cases h; done))).2.2
theorem flat_any {K : PySem.W.Frag} {H : Hp} {v : V} {d : D} (i : Is K H v d) (h : D.flat d = true) : ∀ {vs : List V} {ds : List D}, Iss K H vs ds → ds.all D.flat = true → inV v vs = ds.any fun y => D.eq y d
  | _, _, .nil, _ => rfl
  | _, _, .cons j t, hh => by
    rw [List.all_cons, Bool.and_eq_true] at hh
    have ih := flat_any i h t hh.2
    unfold inV at ih ⊢
    rw [List.any_cons, List.any_cons, ih, flat_eqV j i hh.1 h]
/-- one sign in a text; a key in a dict; a thing in a list of flat ones -/
def inXD (neg : Bool) : D → D → DH → KD → Prop
  | .str i, .str j, M, Q => ∃ k, i.cps.toList = [k] ∧ Q (.bl (if neg then !decide (k ∈ j.cps.toList) else decide (k ∈ j.cps.toList))) M
  | d, .ref l, M, Q => (∃ k kvs, keyOf d = some k ∧ DicAt M l kvs ∧ Q (.bl (if neg then !(valD kvs k).isSome else (valD kvs k).isSome)) M) ∨
      ∃ xs, M l = some (.lst xs) ∧ D.flat d = true ∧ xs.all D.flat = true ∧ Q (.bl (if neg then !(xs.any fun y => D.eq y d) else xs.any fun y => D.eq y d)) M
  | _, _, _, _ => False
theorem inXD_ref {neg : Bool} {x : D} {l : Addr} {M : DH} {Q : KD} (h : inXD neg x (.ref l) M Q) : (∃ k kvs, keyOf x = some k ∧ DicAt M l kvs ∧ Q (.bl (if neg then !(valD kvs k).isSome else (valD kvs k).isSome)) M) ∨
      ∃ xs, M l = some (.lst xs) ∧ D.flat x = true ∧ xs.all D.flat = true ∧ Q (.bl (if neg then !(xs.any fun y => D.eq y x) else xs.any fun y => D.eq y x)) M := by
  cases x <;> exact h
theorem inXD_str {neg : Bool} {x : D} {j : Str} {M : DH} {Q : KD} (h : inXD neg x (.str j) M Q) : ∃ i k, x = .str i ∧ i.cps.toList = [k] ∧ Q (.bl (if neg then !decide (k ∈ j.cps.toList) else decide (k ∈ j.cps.toList))) M := by
  cases x with
  | str i => obtain ⟨k, h1, h2⟩ := h; exact ⟨i, k, rfl, h1, h2⟩
  | _ => exact h.elim
theorem inXD_no {b : Bool} {x y : D} {M : DH} {Q : KD} (q : inXD b x y M Q) (h1 : ∀ j, y ≠ .str j) (h2 : ∀ l, y ≠ .ref l) : False := by
  cases y with
  | str j => exact h1 _ rfl
  | ref l => exact h2 _ rfl
  | _ => cases x <;> exact q
theorem od_inX (hr : Room n X.A) : OpD X (compareOp .In) (inXD false) := by
  intro pins s σ H vx vy v u Q I rx ry ⟨x, y, M, Q', ix, iy, hm, q, hq⟩
  cases iy with
  | str j =>
    obtain ⟨i, k, rfl, hk, q⟩ := inXD_str q
    (first | cases ix.inv | cases ix)
    refine op_in_str pins s σ H _ _ v u Q I rx ry ⟨_, _, rfl, rfl, ?_⟩
    rw [one_sign hk, PySem.StrLaws.found_one]
    exact hq.here hm (.bl _) (by simpa using q)
  | ref l =>
    cases ry
    rcases inXD_ref q with ⟨k, kvs, hk, hl, q⟩ | ⟨xs, hl, h1, h2, q⟩
    · obtain ⟨kx, hx, hp⟩ := hm.dic hl
      have hv := key_is ix hk
      subst hv
      refine d_in (hu_of hr) I (.inl ⟨kx, k, hx, rfl, rfl⟩) rx fun s' I' => ⟨.bl _, H, I', rfl, ?_⟩
      rw [pkd_isSome hp]
      exact hq.here hm (.bl _) q
    · obtain ⟨ys, hy, iy⟩ := hm.lst hl
      refine op_in_seq pins s σ H _ (.ref l) v _ Q I rx rfl ⟨l, ys, rfl, .inl hy, flat_of ix h1, flat_all iy h2, ?_⟩
      rw [flat_any ix h1 iy h2]
      exact hq.here hm (.bl _) q
  | _ => exact (inXD_no q (fun _ z => D.noConfusion z) fun _ z => D.noConfusion z).elim
theorem od_notinX (hr : Room n X.A) : OpD X (compareOp .NotIn) (inXD true) := by
  intro pins s σ H vx vy v u Q I rx ry ⟨x, y, M, Q', ix, iy, hm, q, hq⟩
  cases iy with
  | str j =>
    obtain ⟨i, k, rfl, hk, q⟩ := inXD_str q
    (first | cases ix.inv | cases ix)
    refine op_notin_str pins s σ H _ _ v u Q I rx ry ⟨_, _, rfl, rfl, ?_⟩
    rw [one_sign hk, PySem.StrLaws.found_one]
    exact hq.here hm (.bl _) (by simpa using q)
  | ref l =>
    cases ry
    rcases inXD_ref q with ⟨k, kvs, hk, hl, q⟩ | ⟨xs, hl, h1, h2, q⟩
    · obtain ⟨kx, hx, hp⟩ := hm.dic hl
      have hv := key_is ix hk
      subst hv
      refine d_notIn (hu_of hr) I (.inl ⟨kx, k, hx, rfl, rfl⟩) rx fun s' I' => ⟨.bl _, H, I', rfl, ?_⟩
      rw [pkd_isSome hp]
      exact hq.here hm (.bl _) q
    · obtain ⟨ys, hy, iy⟩ := hm.lst hl
      refine op_notIn_seq pins s σ H _ (.ref l) v _ Q I rx rfl ⟨l, ys, rfl, .inl hy, flat_of ix h1, flat_all iy h2, ?_⟩
      rw [flat_any ix h1 iy h2]
      exact hq.here hm (.bl _) q
  | _ => exact (inXD_no q (fun _ z => D.noConfusion z) fun _ z => D.noConfusion z).elim
/-! ### d[k] -/
/-! ### d[k] = v -/
def setKD : D → D → D → DH → (DH → Prop) → Prop
  | .ref l, y, d, M, Q => ∃ k kvs, keyOf y = some k ∧ M l = some (.dic kvs) ∧ kvs.length < sizeLine ∧ Q (updM M l (.dic (putD kvs k d)))
  | _, _, _, _, _ => False
def hSubK (to ti : TEd) : TGd := fun d τ M Q => to τ M fun x M1 => ti τ M1 fun y M2 => setKD x y d M2 fun M3 => Q τ M3
def rSetK : TSet := fun x y v H R => ∃ l H', x = .ref l ∧ DPut H l y v H' ∧ R H'
theorem set_dict (hr : Room n X.A) : PSet X rSetK := by
  intro pins s σ H o i v ov iv u Q I ro ri rv ⟨l, H', e, g, q⟩
  subst e
  cases ro
  exact d_setItem (hu_of hr) I g ri rv fun s' I' => ⟨H', I', q⟩
theorem g_subK {i : Expr} {to ti : TEd} (hr : Room n X.A) (ho : PE X o (low X.K to)) (hi : PE X i (low X.K ti))
    (ha : ∀ v, assign (.Subscript o i pos) X.env v = (do
      let ov ← holding [v] (eval o X.env)
      let iv ← holding [v, ov] (eval i X.env)
      standAt pos
      holding [v, ov, iv] (setItem ov iv v)
      release [v, ov, iv] []) := by intro _; rfl) : PG X (.Subscript o i pos) (lowG X.K (hSubK to ti)) :=
  (pg_sub ho hi (set_dict hr) ha).imp fun v σ H Q ⟨d, τ, M, Q', i, hs, hm, h, hq⟩ =>
    ⟨τ, M, _, hs, hm, h, fun x M1 vx H1 m1 e1 i1 h1 => ⟨τ, M1, _, hs.mono e1, m1, h1, fun y M2 vy H2 m2 e2 i2 h2 => by
      cases i1 with
      | ref l =>
        obtain ⟨k, kvs, hk, hl, hz, q⟩ := h2
        obtain ⟨kx, hx, hp⟩ := m2 l _ hl
        have hy := key_is i2 hk
        subst hy
        have e12 := e1.trans e2
        obtain ⟨m3, e3⟩ := m2.setK hx (pkd_put (k := k) hp (i.mono e12))
        exact ⟨l, _, rfl, DPut.k (k := k) hx (by rw [pkd_length hp]; exact hz), hq τ _ σ _ (hs.mono (e12.trans e3)) m3 (e12.trans e3) q⟩
      | _ => exact h2.elim⟩⟩
/-! ### d.get(k, x) -/
/-! ### len(d), list(d) -/
def listKD : List D → DH → KD → Prop
  | [.ref l], M, Q => ∃ kvs, DicAt M l kvs ∧ ∀ p, M p = none → Q (.ref p) (updM M p (.lst (kvs.map fun kv => keyD kv.1)))
  | _, _, _ => False
theorem vals_by : ∀ {xs : List V} {us : List Value}, us.length = xs.length → (∀ (j : Nat) x u, xs[j]? = some x → us[j]? = some u → RelV x u) → Vals xs us
  | [], [], _, _ => .nil
  | [], _ :: _, h, _ => by simp at h
  | _ :: _, [], h, _ => by simp at h
  | x :: xs, u :: us, h, r => .cons (r 0 x u rfl rfl) (vals_by (by simpa using h) fun j y w e1 e2 => r (j + 1) y w (by simpa using e1) (by simpa using e2))
theorem keys_is {K : PySem.W.Frag} {H H' : Hp} : ∀ {kx : List (Key × V)} {kvs : List (Key × D)}, PKD K H kx kvs → Iss K H' (kx.map fun kv => kV kv.1) (kvs.map fun kv => keyD kv.1)
  | _, _, .nil => .nil
  | (k, v) :: _, (k', d) :: _, .cons h t => by
    have e : k = k' := h.1
    subst e
    refine .cons ?_ (keys_is t)
    cases k with
    | inl i => exact .int i
    | inr x => exact .str x
theorem cd_listK (hc : X.calm = true) : CallD X (.type "list") listKD := by
  intro pins s σ H vs us Q I r ⟨ds, M, Q', iss, hm, q, hq⟩
  match ds, q, iss with
  | [.ref l], q, iss =>
    obtain ⟨v, rfl, i⟩ := iss1 iss
    (first | cases i.inv | cases i)
    obtain ⟨kvs, hl, q⟩ := q
    obtain ⟨kx, hx, hp⟩ := hm.dic hl
    obtain ⟨u, rfl, rx⟩ := vals1 r
    cases rx
    obtain ⟨z, hd, vs, rel, dd⟩ := dk_rd I.hok hx
    obtain ⟨ep, hat⟩ := dd.dictAt
    have hf : H s.heap.objs.size = none := I.fresh
    refine PySem.W.kdl_call (PySem.W.kdl_dict hd) (I.ok.hd hc) hat (by rw [← rel.length]; exact z) fun h' tk acc' c' kp e hacc => ?_
    have hv : Vals (kx.map fun kv => kV kv.1) acc'.toList := by
      refine vals_by (by rw [Array.length_toList, hacc.1, List.length_map, rel.length]) fun j x w e1 e2 => ?_
      obtain ⟨k, y, h1, h2⟩ := hacc.2 j w (by rw [← Array.getElem?_toList]; exact e2)
      rw [List.getElem?_map] at e1
      cases e3 : kx[j]? with
      | none => rw [e3] at e1; cases e1
      | some pr =>
        rw [e3] at e1
        cases e1
        have e4 : (kx.map (·.1))[j]? = some pr.1 := by rw [List.getElem?_map, e3]; rfl
        rw [rel.keys, List.getElem?_map, h1] at e4
        have e5 : k = pr.1 := Option.some.inj e4
        subst e5
        show RelV (kV pr.1) w
        rcases keyIs_shape h2 with ⟨i, t, e6, rfl⟩ | ⟨i, t, e6, rfl⟩
        · rw [e6]; exact ⟨t, rfl⟩
        · rw [e6]; exact ⟨t, rfl⟩
    refine ⟨.ref s.heap.objs.size, _, I.laid (t' := tk) kp (Nat.le_refl _) (show ObjOk X.prog X.w _ h' _ (.lst (kx.map fun kv => kV kv.1)) from ⟨by rw [List.length_map]; exact z, acc'.toList, c', hv, by rw [Array.toArray_toList]; exact e⟩), rfl, ?_⟩
    exact hq _ _ _ _ (hm.newL hf (keys_is hp)) (ext_new hf) (.ref _) (q _ (hm.free hf))
end
end DL

/-! enumerate of a tuple or a list, for loops. -/
namespace DL
open PySem PySem.Spec PyProof.Rows L2
section
variable {prog : Program} {w : World} {A : Around} {E : Value → Shared → Prop} {z : Shared}
def SeqB : Bool → Heap → Addr → Array Value → Prop
  | true, h, a, ys => h.IsTuple a ys
  | false, h, a, ys => h.IsList a ys
def IterB : Bool → Heap → Addr → Addr → Nat → Prop
  | true, h, j, a, i => h.IsTupleIter j a i
  | false, h, j, a, i => h.IsListIter j a i
theorem IterB.keep {b : Bool} {h h' : Heap} {j a : Addr} {i : Nat} (x : IterB b h j a i) (k : ∀ o, h.get? j = some o → h'.get? j = some o) : IterB b h' j a i := by
  cases b with
  | true => obtain ⟨o, e, r⟩ := x; exact ⟨o, k o e, r⟩
  | false => obtain ⟨o, e, r⟩ := x; exact ⟨o, k o e, r⟩
theorem IterB.obj {b : Bool} {h : Heap} {j a : Addr} {i : Nat} (x : IterB b h j a i) : ∃ o, h.get? j = some o ∧ ∃ vs, o.data = .fields vs := by
  cases b with
  | true => obtain ⟨o, e, _, d⟩ := x; exact ⟨o, e, _, d⟩
  | false => obtain ⟨o, e, _, d⟩ := x; exact ⟨o, e, _, d⟩
theorem SeqB.keep {b : Bool} {h h' : Heap} {a : Addr} {ys : Array Value} (x : SeqB b h a ys) (k : ∀ o, h.get? a = some o → h'.get? a = some o) : SeqB b h' a ys := by
  cases b with
  | true => obtain ⟨o, e, r⟩ := x; exact ⟨o, k o e, r⟩
  | false => obtain ⟨o, e, r⟩ := x; exact ⟨o, k o e, r⟩
theorem SeqB.obj {b : Bool} {h : Heap} {a : Addr} {ys : Array Value} (x : SeqB b h a ys) : ∃ o, h.get? a = some o ∧ ∃ n, o.data = .seq ys n := by
  cases b with
  | true => obtain ⟨o, e, _, n, d⟩ := x; exact ⟨o, e, n, d⟩
  | false => obtain ⟨o, e, _, n, d⟩ := x; exact ⟨o, e, n, d⟩
end
section
variable {X : Cx} {elts : List Expr} {k : Nat} {tpos pos : Pos} {g : TGd} {tb : TSd}
end
end DL

/-! for over a dict. -/
namespace DL
open PySem PySem.Spec PyProof.Rows L2
section
variable {X : Cx} {pins : List (Addr × Obj)} {σ : St} {H : Hp} {s : Shared}
end
section
variable {X : Cx} {tg : Expr} {pos : Pos} {g : TGd} {tb : TSd} {te : TEd}
/-! over data -/
section
variable {K : PySem.W.Frag} {M : DH} {H : Hp} {l : Addr} {o : Obj} {kx : List (Key × V)} {kvs : List (Key × D)}
end
end
end DL

/-! enumerate(x, start=1), for loops. -/
namespace DL
open PySem PySem.Spec PyProof.Rows L2
section
variable {prog : Program} {w : World} {A : Around} {E : Value → Shared → Prop} {z : Shared}
end
end DL

/-! enumerate(x, start=1), for loops: the rules. -/
namespace DL
open PySem PySem.Spec PyProof.Rows L2
section
variable {X : Cx} {elts : List Expr} {k : Nat} {tpos pos : Pos} {g : TGd} {tb : TSd}
end
end DL

/-! is, == of lists, comprehensions over a range. -/
namespace DL
open PySem PySem.Spec PyProof.Rows L2
section
variable {X : Cx} {k : Nat}
/-! ### == of lists -/
theorem lists_at {pins : List (Addr × Obj)} {σ : St} {H : Hp} {s : Shared} {us ws : List V} {xs ys : List D} {its its2 : List Value} (I : Inv X pins σ H s) (i1 : Iss X.K H us xs) (i2 : Iss X.K H ws ys) (r1 : Vals us its) (r2 : Vals ws its2) (ok : D.eqOks xs ys = true) (dp : D.deps xs ≤ 150) {A : Around} (hu : A.units + 200 < cLine) :
    ∀ j (h1 : j < its.toArray.size) (h2 : j < its2.toArray.size), SeqAt.EqAt A s its.toArray[j] its2.toArray[j] (pairEq xs ys j) := by
  intro j h1 h2
  have n1 : its.toArray.size = xs.length := by rw [List.size_toArray, ← r1.length, i1.length]
  have n2 : its2.toArray.size = ys.length := by rw [List.size_toArray, ← r2.length, i2.length]
  have q1 : xs[j]? = some xs[j] := List.getElem?_eq_getElem (by omega)
  have q2 : ys[j]? = some ys[j] := List.getElem?_eq_getElem (by omega)
  obtain ⟨x, ex, ix⟩ := i1.get q1
  obtain ⟨y, ey, iy⟩ := i2.get q2
  obtain ⟨ux, eu, ru⟩ := r1.get ex
  obtain ⟨uy, ew, rw'⟩ := r2.get ey
  have g1 : its.toArray[j] = ux := by
    have : its[j]? = some its[j] := List.getElem?_eq_getElem (by simpa using h1)
    rw [this] at eu; simpa using eu
  have g2 : its2.toArray[j] = uy := by
    have : its2[j]? = some its2[j] := List.getElem?_eq_getElem (by simpa using h2)
    rw [this] at ew; simpa using ew
  rw [g1, g2]
  have pe : pairEq xs ys j = D.eq xs[j] ys[j] := by unfold pairEq; rw [q1, q2]
  rw [pe]
  have dg := deps_get q1
  exact (eqAt_D I 150 _ _ A x y ux uy (by omega) (by omega) (eqOks_get ok q1 q2) ix iy ru rw').1
theorem eqs_len : ∀ {xs ys : List D}, D.eqs xs ys = true → xs.length = ys.length
  | [], [], _ => rfl
  | [], _ :: _, h => nof h
  | _ :: _, [], h => nof h
  | x :: xs, y :: ys, h => by
    rw [List.length_cons, List.length_cons, eqs_len (Bool.and_eq_true_iff.mp h).2]
def neXD : D → D → DH → KD → Prop
  | .ref l, .ref r, M, Q => ∃ xs ys, LstAt M l xs ∧ LstAt M r ys ∧ D.eqOks xs ys = true ∧ D.deps xs ≤ 150 ∧ Q (.bl (!D.eqs xs ys)) M
  | .tup xs, .tup ys, M, Q => D.eqOks xs ys = true ∧ D.deps xs ≤ 150 ∧ Q (.bl (!D.eqs xs ys)) M
  | .int i, .int j, M, Q => Q (.bl (!decide (i = j))) M
  | .str i, .str j, M, Q => Q (.bl (!decide (i = j))) M
  | .bl i, .bl j, M, Q => Q (.bl (!decide (i = j))) M
  | _, _, _, _ => False
theorem od_neX (hk1 : Room (k + 1) X.A) : OpD X (compareOp .NotEq) neXD := by
  intro pins s σ H vx vy v u Q I rx ry ⟨x, y, M, Q', ix, iy, hm, q, hq⟩
  have hr := hk1.mono (Nat.le_succ k)
  have hu : X.A.units + 200 < cLine := by have := hr.un; omega
  by_cases hrr : ∃ l r, x = .ref l ∧ y = .ref r
  · obtain ⟨l, r, rfl, rfl⟩ := hrr
    obtain ⟨xs, ys, hl, hr', ok, dp, q⟩ := q
    (first | cases ix.inv | cases ix)
    (first | cases iy.inv | cases iy)
    cases rx
    cases ry
    obtain ⟨us, hu1, i1⟩ := hm.lst hl
    obtain ⟨ws, hw, i2⟩ := hm.lst hr'
    obtain ⟨its, r1, p1, _⟩ := I.list hu1
    obtain ⟨its2, r2, p2, _⟩ := I.list hw
    have n1 : its.toArray.size = xs.length := by rw [List.size_toArray, ← r1.length, i1.length]
    have n2 : its2.toArray.size = ys.length := by rw [List.size_toArray, ← r2.length, i2.length]
    by_cases hlen : xs.length = ys.length
    · refine SeqAt.RcNeAt.lists (e := pairEq xs ys) p1.isList p2.isList (by rw [n1, n2, hlen]) (by omega) (lists_at I i1 i2 r1 r2 ok dp (A := X.A.in1) (by rw [in1_units]; have := hk1.un; omega)) _ _ _ _ ⟨.bl _, H, I, rfl, hq.here hm (.bl _) ?_⟩
      have e := eqs_all xs ys
      rw [show min xs.length ys.length = xs.length by omega, show (xs.length == ys.length) = true by simpa using hlen, Bool.and_true] at e
      rw [n1, e]
      exact q
    · have hf : D.eqs xs ys = false := by
        cases h : D.eqs xs ys with
        | false => rfl
        | true => exact absurd (eqs_len h) hlen
      rw [hf] at q
      exact SeqAt.RcNeAt.lists_lengths p1.isList p2.isList (by rw [n1, n2]; simpa using hlen) (by omega) _ _ _ _ ⟨.bl _, H, I, rfl, hq.here hm (.bl _) q⟩
  · refine od_ne hr pins s σ H vx vy v u Q I rx ry ⟨x, y, M, Q', ix, iy, hm, ?_, hq⟩
    cases x <;> cases y <;> first | exact q | exact q.elim | exact absurd ⟨_, _, rfl, rfl⟩ hrr
end
/-! ### [.. for k in range(n)] -/
section
variable {X : Cx} {tg elt a : Expr} {ifs : List Expr} {scope : Scope} {pos p cpos : Pos} {js : List (Option Nat)} {Nc : List Str} {cl : List (Str × Addr)}
def compR (g : TGd) (tt : TTd) (te : TEd) (js : List (Option Nat)) (τ : DSt) : List D → DH → KD → Prop
  | [.int j], M, Q => (-(2 ^ 62) ≤ j ∧ j < 2 ^ 62) ∧ compD ((List.range j.toNat).map fun i : Nat => D.int (i : Int)) g tt te js τ M Q
  | _, _, _ => False
def eCompR (ta : TAd) (g : TGd) (tt : TTd) (te : TEd) (js : List (Option Nat)) : TEd := fun τ M Q => ta τ M fun vs M1 => compR g tt te js τ vs M1 Q
theorem gives_r {K : PySem.W.Frag} {H : Hp} (n : Nat) : Gives K (Itr 0 n) ((List.range n).map fun i : Nat => D.int (i : Int)) H :=
  ⟨fun j hj => by rw [List.length_map, List.length_range] at hj; exact hj, fun j x H' hj ⟨e, y⟩ => by
    rw [List.length_map, List.length_range] at hj
    refine ⟨e, .int (j : Int), by rw [List.getElem?_map, List.getElem?_range hj]; rfl, ?_⟩
    rw [y, Int.zero_add]
    exact .int _, by rw [List.length_map, List.length_range]; exact Nat.le_refl n⟩
end
end DL

/-! isinstance(x, dict). -/
namespace DL
open PySem PySem.Spec PyProof.Rows L2
section
variable {X : Cx}
end
end DL

/-! Exceptions: raised, passed on. -/
namespace DL
open PySem PySem.Spec PyProof.Rows L2

theorem _root_.L2.ObjOk.got {P : Program} {w : World} {H : Hp} {h : Heap} {a : Addr} {o : HO} (x : ObjOk P w H h a o) : ∃ u, h.get? a = some u := by
  cases o with
  | lst xs => obtain ⟨_, _, _, _, e⟩ := x; exact ⟨_, e⟩
  | tup xs => obtain ⟨_, _, _, o, e, _⟩ := x; exact ⟨_, e⟩
  | dK kvs => obtain ⟨_, _, _, _, o, _, _, e, _⟩ := x; exact ⟨_, e⟩
  | dT kvs => obtain ⟨_, _, _, _, o, _, _, e, _⟩ := x; exact ⟨_, e⟩
  | set S n => obtain ⟨o, _, _, _, e, _⟩ := x; exact ⟨_, e⟩
  | ins C dx fs => obtain ⟨_, _, _, e, _⟩ := x; exact ⟨_, e⟩
  | own y => obtain ⟨_, e⟩ := x; exact ⟨_, e⟩
  | xd fs => obtain ⟨_, ⟨_, _, _, e, _⟩, _⟩ := x; exact ⟨_, e⟩
  | rng lo hi => obtain ⟨_, _, _, e⟩ := x; exact ⟨_, e⟩
  | frz ob u => obtain ⟨e, _⟩ := x; exact ⟨_, e⟩
  | tbl ps => exact ⟨_, (show h.get? a = some _ from x)⟩
  | met f y => exact ⟨_, (show h.get? a = some _ from x)⟩
  | ext φ => obtain ⟨_, ⟨_, e⟩, _⟩ := x; exact ⟨_, e⟩

/-- an exception of the class cls lies at a, its traceback at T -/
def Tr (h : Heap) (a T : Addr) (cls : Value) : Prop :=
  ∃ oe vs a0 oT ts, h.get? a = some oe ∧ (oe.cls = cls ∧ vs[0]? = some a0) ∧ oe.data = .fields vs ∧ vs[1]? = some (.ref T) ∧ T ≠ a ∧ h.get? T = some oT ∧ oT.data = .fields ts ∧ ts[3]? = some .none
/-- behind a call: an exception flies -/
def CXE (P : Program) (w : World) : CXT := fun outer H s E e s' => ∃ (a T : Addr) (cls : Value) (H' : Hp), e = .ref a ∧ s'.os = s.os ∧ AllBare s'.gens ∧ Un (frs outer) [] H H' s.heap s'.heap ∧ HOk P w H' s'.heap ∧
  s.heap.get? a = none ∧ s.heap.get? T = none ∧ H' a = none ∧ H' T = none ∧ Tr s'.heap a T cls ∧ E cls none H'

/-- what one frame's leaving makes of the state -/
theorem cxe_of {X : Cx} {pins : List (Addr × Obj)} {σ : St} {H : Hp} {s : Shared} {E : XK} {h' : Heap} {xs : List Addr} {a : Addr} {cls a0 : Value} {t' : Nat} (I : Inv X pins σ H s) (hex : X.ex = []) (hst : X.stack = X.env :: X.outer)
    (hxs : ∀ b ∈ xs, X.s₀.heap.get? b = none ∧ H b = none) (stay : (PySem.W.hideAll s.heap (xs ++ frs X.stack)).StaysIn h') (up : s.heap.UpToSlots h') (tr : h'.TracedW (PySem.W.hideAll s.heap (xs ++ frs X.stack)) a cls a0)
    (ha : X.s₀.heap.get? a = none ∧ H a = none) (hE : E cls none H) : CXE X.prog X.w X.outer X.H₀ X.s₀ E (.ref a) { s with heap := h', toks := t' } := by
  obtain ⟨oe, vs, T, oT, ts, h1, h2, h3, h4, h5, h6, h7, h8, h9⟩ := tr
  have hexb : ∀ b : Addr, b ∉ X.ex := fun b z => by rw [hex] at z; cases z
  have hL : X.s₀.heap.get? X.env.locals = none := Heap.get?_none_of_le I.ok.above
  have kept : ∀ b o, s.heap.get? b = some o → b ∉ xs → b ∉ frs X.stack → h'.get? b = some o := fun b o e n1 n2 => stay b o (PySem.W.hideAll_get _ e fun z => (List.mem_append.mp z).elim n1 n2)
  have nx : ∀ b o, X.s₀.heap.get? b = some o → b ∉ xs := fun b o e z => by rw [(hxs b z).1] at e; cases e
  have ns : ∀ b o, X.s₀.heap.get? b = some o → b ∉ X.fs → b ∉ frs X.stack := fun b o e n z => by
    rcases List.mem_cons.mp (I.stkSub b z) with z | z
    · subst z; rw [hL] at e; cases e
    · exact n z
  have frm : ∀ b ∈ frs X.stack, ∃ o, h'.get? b = some o ∧ ∀ ws, o.data ≠ .fields ws := fun b z => by
    obtain ⟨_, o, e, d⟩ := I.stack.mem z
    obtain ⟨sl, e'⟩ := up b o e d
    exact ⟨_, e', d⟩
  have trk : ∀ b u, H b = some u → b ∉ xs ∧ b ∉ frs X.stack := fun b u e => ⟨fun z => (by rw [(hxs b z).2] at e; cases e), fun z => (by rw [I.stkFree b z] at e; cases e)⟩
  have hT : T ∉ frs X.stack := fun z => by
    obtain ⟨o, e, d⟩ := frm T z
    rw [h7] at e; cases e
    exact d ts h8
  have sT : s.heap.get? T = none ∨ T ∈ xs := by
    cases e : s.heap.get? T with
    | none => exact .inl rfl
    | some o =>
      refine .inr (Classical.byContradiction fun n => ?_)
      have z := PySem.W.hideAll_get (xs ++ frs X.stack) e fun z => (List.mem_append.mp z).elim n hT
      rw [h5] at z; cases z
  refine ⟨a, T, cls, H, rfl, I.os, I.bare, ⟨fun b o e n hb _ => ?_, fun b o e n hb _ => ?_, fun b o e n _ => I.base.free b o e n (hexb b), fun b o e _ => ?_, I.base.tups, I.base.frzs, I.base.tbls⟩, fun b u e => ?_, ha.1, ?_, ha.2, ?_, ⟨oe, vs, a0, oT, ts, h1, h2, h3, h4, h6, h7, h8, h9⟩, hE⟩
  · exact kept b o (I.base.keep b o e n hb (hexb b)) (nx b o e) (ns b o e hb)
  · obtain ⟨sl, e1⟩ := I.base.slot b o e n hb (hexb b)
    obtain ⟨_, o', e2, d⟩ := I.funs.mem hb
    rw [e1] at e2; cases e2
    obtain ⟨sl', e3⟩ := up b _ e1 d
    exact ⟨sl', e3⟩
  · obtain ⟨o', e1⟩ := I.base.there b o e (hexb b)
    by_cases hb : b ∈ frs X.stack
    · obtain ⟨o2, e2, _⟩ := frm b hb; exact ⟨o2, e2⟩
    · exact ⟨o', kept b o' e1 (nx b o e) hb⟩
  · refine (I.hok b u e).stay (fun c v hc q => ?_) (fun _ q => q) fun _ _ q => q
    rcases hc with rfl | hc
    · exact kept _ v q (trk _ u e).1 (trk _ u e).2
    · exact kept c v q (trk c _ hc).1 (trk c _ hc).2
  · rcases sT with z | z
    · cases e : X.s₀.heap.get? T with
      | none => rfl
      | some o =>
        obtain ⟨o', e1⟩ := I.base.there T o e (hexb T)
        rw [z] at e1; cases e1
    · exact (hxs T z).1
  · rcases sT with z | z
    · cases e : H T with
      | none => rfl
      | some u =>
        obtain ⟨o, e1⟩ := (I.hok T u e).got
        rw [z] at e1; cases e1
    · exact (hxs T z).2

/-- what this body wants of an exception that a callee lets fly (EX: by the names' values, the class, the heap) -/
structure XCame (X : Cx) (EX : DSt → Value → DH → Prop) : Prop where
  came : ∀ (pins : List (Addr × Obj)) (τ : DSt) (σ : St) (H : Hp) (s : Shared) (E1 : XK) (e : Value) (s' : Shared), Inv X pins σ H s → SAbs X.K τ σ H → CXE X.prog X.w X.stack H s E1 e s' → (∀ cls H1, E1 cls none H1 → ∃ M1, HAbs X.K M1 H1 ∧ EX τ cls M1) → X.xe e s'
/-- .. and of one that is made here -/
structure XOk (X : Cx) (EX : DSt → Value → DH → Prop) : Prop extends XCame X EX where
  made : ∀ (pins : List (Addr × Obj)) (τ : DSt) (σ : St) (H : Hp) (s : Shared) (C a : Addr) (h1 : Heap) (args : List Value) (M : DH), Inv X pins σ H s → SAbs X.K τ σ H → Heap.MadeExcOf s.heap h1 a (.ref C) args → HAbs X.K M H → EX τ (.ref C) M → X.xe (.ref a) { s with heap := h1 }
theorem inv_ext {X : Cx} {pins : List (Addr × Obj)} {σ : St} {H : Hp} {s : Shared} (I : Inv X pins σ H s) : Ext X.K X.H₀ H := ⟨fun a xs h => by
  rcases h with (h | ⟨o, h⟩) | h
  · exact .inl (.inl (I.base.tups a xs h))
  · exact .inl (.inr ⟨o, I.base.frzs a o _ h⟩)
  · exact .inr h, fun a o u h => I.base.frzs a o u h⟩

section
variable {P : Program} {w : World} {K : PySem.W.Frag} {mg : Str → Option Value} {base : Heap} {N : List Str} {qual : Str} {scope : Scope} {f : Addr} {cd : Value} {A : Around} {outer : List Env} {s₀ : Shared} {H₀ : Hp} {E : XK} {EX : Value → DH → Prop}
theorem xok_body (hE : ∀ cls M1 H1, HAbs K M1 H1 → Ext K H₀ H1 → EX cls M1 → E cls none H1) : XOk (cxOf (CXE P w) P w K mg base N qual scope f cd A outer s₀ H₀ E) (fun _ => EX) where
  came := fun pins τ σ H s E1 e s' I _ ⟨a, T, cls, H', he, ho, hb, un, hok, na, nT, ta, tT, tr, hE1⟩ hq => by
    subst he
    obtain ⟨M1, hm, q⟩ := hq cls H' hE1
    have I' : Inv (cxOf (CXE P w) P w K mg base N qual scope f cd A outer s₀ H₀ E) pins σ H' s' := I.call' ho un hok hb fun b z => nomatch z
    have s0n : ∀ b, s.heap.get? b = none → s₀.heap.get? b = none := fun b z => by
      cases e : s₀.heap.get? b with
      | none => rfl
      | some o =>
        obtain ⟨o', e1⟩ := I.base.there b o e (fun z => nomatch z)
        rw [z] at e1; cases e1
    have hxs : ∀ b ∈ [a, T], s₀.heap.get? b = none ∧ H' b = none := fun b z => by
      simp only [List.mem_cons, List.not_mem_nil, or_false] at z
      rcases z with rfl | rfl
      · exact ⟨s0n _ na, ta⟩
      · exact ⟨s0n _ nT, tT⟩
    obtain ⟨oe, vs, a0, oT, ts, t1, t2, t3, t4, t5, t6, t7, t8⟩ := tr
    have hin : ∀ env ∈ (cxOf (CXE P w) P w K mg base N qual scope f cd A outer s₀ H₀ E).stack, ∀ b, env.frame = some b → b ∈ [a, T] ++ frs (cxOf (CXE P w) P w K mg base N qual scope f cd A outer s₀ H₀ E).stack := fun env he b hb => List.mem_append_right _ (List.mem_filterMap.mpr ⟨env, he, hb⟩)
    refine wpAny_leaving_nextW (base := PySem.W.hideAll s'.heap ([a, T] ++ frs (cxOf (CXE P w) P w K mg base N qual scope f cd A outer s₀ H₀ E).stack)) (cls := cls) (a0 := a0) I'.ok.frames (PySem.W.funFrames_hide I'.stack hin) rfl ?_ (fun b o z => PySem.W.of_hideAll _ z) (PySem.W.hideAll_none _ (by simp)) fun h' hL => ?_
    · exact ⟨oe, vs, T, oT, ts, t1, t2, t3, t4, PySem.W.hideAll_none _ (by simp), t5, t6, t7, t8⟩
    · obtain ⟨k1, _, k3, k4⟩ := hL
      exact cxe_of (t' := s'.toks) I' rfl rfl hxs k1 k4 k3 (hxs a (by simp)) (hE cls M1 H' hm (inv_ext I') q)
  made := fun pins τ σ H s C a h1 args M I _ mk hm q => by
    have s0n : ∀ b, s.heap.get? b = none → s₀.heap.get? b = none := fun b z => by
      cases e : s₀.heap.get? b with
      | none => rfl
      | some o =>
        obtain ⟨o', e1⟩ := I.base.there b o e (fun z => nomatch z)
        rw [z] at e1; cases e1
    have hin : ∀ env ∈ (cxOf (CXE P w) P w K mg base N qual scope f cd A outer s₀ H₀ E).stack, ∀ b, env.frame = some b → b ∈ [] ++ frs (cxOf (CXE P w) P w K mg base N qual scope f cd A outer s₀ H₀ E).stack := fun env he b hb => List.mem_filterMap.mpr ⟨env, he, hb⟩
    refine wpAny_leaves_madeW (base := PySem.W.hideAll s.heap ([] ++ frs (cxOf (CXE P w) P w K mg base N qual scope f cd A outer s₀ H₀ E).stack)) (h := s.heap) I.ok.frames rfl (fun b o z => PySem.W.of_hideAll _ z) (PySem.W.funFrames_hide I.stack hin) mk fun h' t fl _ _ up => ?_
    obtain ⟨k1, k2, _, k4⟩ := fl
    have hta : H a = none := by
      cases e : H a with
      | none => rfl
      | some u =>
        obtain ⟨o, e1⟩ := (I.hok a u e).got
        rw [mk.new] at e1; cases e1
    exact cxe_of (t' := s.toks) (xs := []) I rfl rfl (fun b z => absurd z (by simp)) k1 ((Heap.UpToSlots.of_keeps mk.keeps).trans up) k4 ⟨s0n a mk.new, hta⟩ (hE _ M H hm (inv_ext I) q)
theorem passes_body : PassesOwn (model P w) (A.deeper (envOfC qual scope s₀.heap.objs.size f cd)) (envOfC qual scope s₀.heap.objs.size f cd) (cxOf (CXE P w) P w K mg base N qual scope f cd A outer s₀ H₀ E).xe := PassesOwn.leaving
end

/-! ### defs that may raise -/
abbrev SpE := List D → DH → KD → (Value → DH → Prop) → Prop
def lowSpE (K : PySem.W.Frag) (sp : SpE) : Sp := fun vs H Q E => ∃ ds M Q' E', Iss K H vs ds ∧ HAbs K M H ∧ sp ds M Q' E' ∧ lowQ K H Q' Q ∧ ∀ cls M1 H1, HAbs K M1 H1 → Ext K H H1 → E' cls M1 → E cls none H1
structure FnE (P : Program) (w : World) (K : PySem.W.Frag) (mg : Str → Option Value) (base : Heap) (k : Nat) (x : Str) (ps : List Str) (sp : SpE) : Prop where
  ex : ∃ f fd, FnOk P w K mg base (CXE P w) k f fd ps (lowSpE K sp) ∧ mg x = some (.ref f) ∧ PySem.W.keepIn K (.ref f) = true ∧ Binds K fd ps []
theorem FnE.mono {P : Program} {w : World} {K : PySem.W.Frag} {mg : Str → Option Value} {base : Heap} {j k : Nat} {x : Str} {ps : List Str} {sp : SpE} (F : FnE P w K mg base j x ps sp) (h : j ≤ k) : FnE P w K mg base k x ps sp :=
  let ⟨f, fd, a, b, c, d⟩ := F.ex; ⟨f, fd, a.mono h, b, c, d⟩
theorem FnE.imp {P : Program} {w : World} {K : PySem.W.Frag} {mg : Str → Option Value} {base : Heap} {k : Nat} {x : Str} {ps : List Str} {sp sp' : SpE} (F : FnE P w K mg base k x ps sp) (h : ∀ ds M Q E, sp' ds M Q E → sp ds M Q E) : FnE P w K mg base k x ps sp' :=
  let ⟨f, fd, a, b, c, d⟩ := F.ex; ⟨f, fd, a.imp (fun _ _ _ _ ⟨ds, M, Q', E', i, m, q, hq, he⟩ => ⟨ds, M, Q', E', i, m, h _ _ _ _ q, hq, he⟩), b, c, d⟩
section
variable {P : Program} {w : World} {K : PySem.W.Frag} {mg : Str → Option Value} {base : Heap}
theorem def_okE {x : Str} {st : Stmt} {N ps : List Str} {k : Nat} {sp : SpE} (T : Stands K mg x st ps) (S : FnScope N ps (defScope st)) (len : ∀ ds M Q E, sp ds M Q E → ds.length = ps.length)
    (hbody : ∀ (f : Addr) (cdv : Value) (A : Around) (outer : List Env) (s : Shared) (H : Hp) (E : XK) (EX : Value → DH → Prop), Room k (A.deeper (envOfC x (defScope st) s.heap.objs.size f cdv)) →
      XOk (cxOf (CXE P w) P w K mg base N x (defScope st) f cdv A outer s H E) (fun _ => EX) →
      PassesOwn (model P w) (A.deeper (envOfC x (defScope st) s.heap.objs.size f cdv)) (envOfC x (defScope st) s.heap.objs.size f cdv) (cxOf (CXE P w) P w K mg base N x (defScope st) f cdv A outer s H E).xe →
      ∃ t : TSd, PSs (cxOf (CXE P w) P w K mg base N x (defScope st) f cdv A outer s H E) (defBody st) (lowS K t) ∧ ∀ ds M Q, sp ds M Q EX → t (endsOf Q) (startD N ds) M) : FnE P w K mg base (k + 1) x ps sp := by
  obtain ⟨f, fd, F, hb, hm⟩ := T
  refine ⟨f, fd, ?_, hm, F.kp, hb⟩
  obtain ⟨oc, od, kV, doc, pm, an, cdv, ct, osl, rfl, lk, hcd⟩ := F.ex
  refine fn_of lk hcd S (fun vs H Q E h => ?_) fun A outer s H vs Q E hr h => ?_
  · obtain ⟨ds, M, Q', E', i, _, q, _⟩ := h
    rw [i.length]
    exact len _ _ _ _ q
  · obtain ⟨ds, M, Q', E', i, hm, q, hq, hE⟩ := h
    obtain ⟨t, h1, h2⟩ := hbody f cdv A outer s H E E' hr (xok_body hE) passes_body
    refine ⟨_, h1, startD N ds, M, endsOf Q', start_abs i, hm, h2 _ _ _ q, ⟨?_, ?_, ?_, ?_⟩⟩
    · rintro τ M1 σ H1 s1 m1 e1 ⟨M0, sub, q0⟩
      exact hq _ M0 _ H1 (m1.sub sub) e1 .non q0
    · rintro d M1 v H1 m1 e1 i1 ⟨M0, sub, q0⟩
      exact hq d M0 v H1 (m1.sub sub) e1 i1 q0
    · intro τ M1 σ H1 _ _ _ q0; exact q0.elim
    · intro τ M1 σ H1 _ _ _ q0; exact q0.elim
end

section
variable {X : Cx} {e : Expr} {es : List Expr} {pos : Pos} {t : TAd} {EX : DSt → Value → DH → Prop}
/-- f(..) of a def that may raise -/
def eCallE (sp : SpE) (EX : DSt → Value → DH → Prop) (t : TAd) : TEd := fun τ M Q => t τ M fun ds M1 => sp ds M1 Q fun cls M2 => ∃ M0, Sub M0 M2 ∧ EX τ cls M0
theorem d_callE {k : Nat} {x : Str} {ps : List Str} {sp : SpE} {p : Pos} (F : FnE X.prog X.w X.K X.mg X.base k x ps sp) (hx : XCame X EX) (hr : Room k X.A) (ha : PA X (e :: es) (lowA X.K t)) (hg : Gl X x := by rfl) (hdb : (x == ("__debug__" : Str)) = false := by decide)
    (he : starEach (e :: es) X.env = (false, eval e X.env) :: starEach es X.env := by rfl) (hpl : (backTo pos (starEach es X.env)).any (·.1) = false := by rfl) : PE X (.Call (.Name x p) (e :: es) [] pos) (low X.K (eCallE sp EX t)) := by
  obtain ⟨f, fd, F, hmg, hk, hb⟩ := F.ex
  intro pins s σ H Q I ⟨τ, M, Q', hs, hm, h, hq⟩
  refine wpAny_Call_Name_kw (ld_glob I hg hmg ?_ hdb)
  have hA := ha pos pins s σ H (fun vs H1 => ∃ ds M1, HAbs X.K M1 H1 ∧ Ext X.K H H1 ∧ Iss X.K H1 vs ds ∧ sp ds M1 Q' fun cls M2 => ∃ M0, Sub M0 M2 ∧ EX τ cls M0) I ⟨τ, M, _, hs, hm, h, fun ds M1 vs H1 m1 e1 i1 h1 => ⟨ds, M1, m1, e1, i1, h1⟩⟩
  refine PySem.W.callWith_K (h₀ := X.base) I.ok.mod.kin hk (thn hA fun us s1 ⟨vs, H1, I1, r, ⟨ds, M1, m1, e1, i1, h1⟩⟩ => ⟨I1.kIn, ?_⟩) he hpl
  have h2 : lowSpE X.K sp vs H1 Q fun cls _ H2 => ∃ M2, HAbs X.K M2 H2 ∧ EX τ cls M2 := ⟨ds, M1, Q', _, i1, m1, h1, hq.ext e1, fun cls M2 H2 m2 _ ⟨M0, sub, q⟩ => ⟨M0, m2.sub sub, q⟩⟩
  have hl : us.length = ps.length := by rw [← r.length]; exact F.len _ _ _ _ h2
  have hbn := hb s1 us I1.kIn (by rw [List.append_nil]; exact hl)
  rw [List.append_nil] at hbn
  refine wpAny_call (codeAny_mono (F.run X.A X.stack s1 H1 ⟨us, []⟩ us vs Q _ hr I1.env0 hbn r h2) fun rr s' hq' => ?_)
  cases rr with
  | error e => exact hx.came pins τ σ H1 s1 (fun cls _ H2 => ∃ M2, HAbs X.K M2 H2 ∧ EX τ cls M2) e s' I1 (hs.mono e1) hq' fun cls H2 z => z
  | ok fl =>
    cases fl with
    | ret u => exact I1.after hq'
    | next => exact False.elim hq'
    | brk => exact False.elim hq'
    | cont => exact False.elim hq'
/-- a class of the text that is an exception's -/
structure XC (K : PySem.W.Frag) (mg : Str → Option Value) (x : Str) (C : Addr) : Prop where
  nm : mg x = some (.ref C)
  ow : PySem.W.excIn K C [.type "ValueError", .type "Exception", .type "BaseException", .type "object"] "ValueError.__new__" = true
theorem exc_obj {K : PySem.W.Frag} {h : Heap} {C : Addr} {bmB : List Value} {newId : String} (X : K.In h) (q : PySem.W.excIn K C bmB newId = true) :
    ∃ (bm : List Value) (N : Addr) (nm qn : Str) (bs : List Value) (hd : Bool) (sn : List Str) (sub : List Value) (ab : Bool) (col : Option Bool) (dd : Option Addr) (k0 k1 k2 k3 k5 : Option Value) (mN : Str → Option Value),
      h.get? C = some (excClassObj nm qn C N bs bm hd sn sub ab col dd k0 k1 k2 k3 k5 newId) ∧ h.Ns N mN ∧ mN "__init__" = none ∧ OwnTail h bmB bm := by
  unfold PySem.W.excIn at q
  split at q
  · rename_i dd cd sl ho
    split at q
    · rename_i C' bm k0 k1 k2 k3 n k5 hm hs
      simp only [Bool.and_eq_true, beq_iff_eq, Bool.not_eq_true'] at q
      obtain ⟨⟨⟨⟨⟨rfl, rfl⟩, hdel⟩, ht⟩, hok⟩, hni⟩ := q
      obtain ⟨nm, bs, mro, ns, qn, hd, sn, sub, ab, col, del⟩ := cd
      dsimp only at hm hdel hok hni
      subst hm hdel
      have hsl : sl = #[k0, k1, k2, k3, some (.builtin n), k5] := by
        obtain ⟨l⟩ := sl
        simp only at hs
        rw [hs]
      subst hsl
      exact ⟨bm, ns, nm, qn, bs, hd, sn, sub, ab, col, dd, k0, k1, k2, k3, k5, _, X _ _ ho, .of_isNs (PySem.W.isNs_of_in X hok), PySem.W.nsMap_none_of_in X hok hni, PySem.W.tail_of_in X ht⟩
    · cases q
  · cases q
/-- raise C('..') -/
def sRaise (C : Addr) (EX : DSt → Value → DH → Prop) (t : TAd) : TSd := fun _ τ M => t τ M fun ds M1 => ds.length ≤ 1000 ∧ EX τ (.ref C) M1
theorem s_raise {x : Str} {C : Addr} {np cpos : Pos} (hx : XOk X EX) (hc : X.calm = true) (xc : XC X.K X.mg x C) (ha : PA X (e :: es) (lowA X.K t)) (hg : Gl X x := by rfl) (hd : (x == ("__debug__" : Str)) = false := by decide)
    (he : starEach (e :: es) X.env = (false, eval e X.env) :: starEach es X.env := by rfl) (hpl : (backTo cpos (starEach (e :: es) X.env)).any (·.1) = false := by rfl) :
    PS X (.Raise (some (.Call (.Name x np) (e :: es) [] cpos)) none pos) (lowS X.K (sRaise C EX t)) := by
  intro pins s σ H D I ⟨τ, M, D', hs, hm, h, hd'⟩
  obtain ⟨bm, N, nm, qn, bs, hdct, sn, sub, ab, col, dd, k0, k1, k2, k3, k5, mN, hC, hN, hni, TL⟩ := exc_obj I.mod.kin xc.ow
  refine wpAny_Raise_call_subT (C := C) (nm := nm) (q := qn) (N := N) (bs := bs) (bm := bm) (hdct := hdct) (sn := sn) (sub := sub) (ab := ab) (col := col) (dd := dd) (k0 := k0) (k1 := k1) (k2 := k2) (k3 := k3) (k5 := k5) PySem.F.excBase_ValueError (TL.hasType rfl) (I.ok.hd hc) hpl hni (ld_glob I hg xc.nm ⟨rfl, ?_⟩ hd)
  have hsp := ha cpos pins s σ H _ I ⟨τ, M, _, hs, hm, h, fun ds M1 vs H1 m1 e1 i1 h1 => (show ∃ M1 : DH, HAbs X.K M1 H1 ∧ Ext X.K H H1 ∧ vs.length ≤ 1000 ∧ EX τ (.ref C) M1 from ⟨M1, m1, e1, by rw [i1.length]; exact h1.1, h1.2⟩)⟩
  have e0 : backTo cpos (starEach (e :: es) X.env) = (false, eval e X.env) :: backTo cpos (starEach es X.env) := by rw [he]; rfl
  rw [e0] at hsp ⊢
  refine Calls.evalArgs_plain (thn hsp fun us s2 ⟨vs, H2, I2, r2, M2, m2, e2, hl, q2⟩ => ?_)
  refine ⟨rfl, by rw [← r2.length]; exact line1000 hl, I2.bk _ _ hC, hN.keeps I2.bk, TL.keeps I2.bk, fun h' a mk => ?_⟩
  exact hx.made pins τ σ H2 s2 C a h' us M2 I2 (hs.mono e2) mk m2 q2
end
end DL

/-! try .. except. -/
namespace DL
open PySem PySem.Spec PyProof.Rows L2

theorem un_ext {K : PySem.W.Frag} {fs ex : List Addr} {H H' : Hp} {h h' : Heap} (u : Un fs ex H H' h h') : Ext K H H' := ⟨fun a xs h => by
  rcases h with (h | ⟨o, h⟩) | h
  · exact .inl (.inl (u.tups a xs h))
  · exact .inl (.inr ⟨o, u.frzs a o _ h⟩)
  · exact .inr h, fun a o v h => u.frzs a o v h⟩
/-- an exception has come into this body -/
structure Fly (X : Cx) (pins : List (Addr × Obj)) (σ : St) (H : Hp) (s : Shared) (a T : Addr) (cls : Value) : Prop where
  inv : Inv X pins σ H s
  new : ∀ b ∈ [a, T], X.s₀.heap.get? b = none ∧ H b = none ∧ b ≠ X.env.locals ∧ (∀ x c, X.env.cells.lookup x = some c → c ≠ b) ∧ ∀ p ∈ X.pn ++ pins, p.1 ≠ b
  tr : Tr s.heap a T cls
section
variable {X : Cx} {pins : List (Addr × Obj)} {σ : St} {H : Hp} {s : Shared}
/-- what is nowhere yet -/
theorem Inv.nowhere (I : Inv X pins σ H s) (hex : X.ex = []) {b : Addr} (e : s.heap.get? b = none) : X.s₀.heap.get? b = none ∧ b ≠ X.env.locals ∧ (∀ x c, X.env.cells.lookup x = some c → c ≠ b) ∧ ∀ p ∈ X.pn ++ pins, p.1 ≠ b := by
  refine ⟨?_, ?_, ?_, ?_⟩
  · cases q : X.s₀.heap.get? b with
    | none => rfl
    | some o =>
      obtain ⟨o', e1⟩ := I.base.there b o q (by rw [hex]; simp)
      rw [e] at e1; cases e1
  · intro z
    obtain ⟨m, ⟨o, es, ep, ho, _⟩, _⟩ := I.loc
    rw [← z, e] at ho; cases ho
  · intro x c hc z
    obtain ⟨v, o, ho, _⟩ := I.cell x c hc
    rw [z, e] at ho; cases ho
  · intro p hp z
    have ho := (I.pin p hp).1
    rw [z, e] at ho; cases ho
theorem fly_of {E1 : XK} {e : Value} {s' : Shared} (I : Inv X pins σ H s) (hex : X.ex = []) (c : CXE X.prog X.w X.stack H s E1 e s') : ∃ a T cls H', e = .ref a ∧ Fly X pins σ H' s' a T cls ∧ Ext X.K H H' ∧ E1 cls none H' := by
  obtain ⟨a, T, cls, H', he, ho, hb, un, hok, na, nT, ta, tT, tr, hE1⟩ := c
  refine ⟨a, T, cls, H', he, ⟨I.call' ho un hok hb (fun b z => absurd z (by simp)), fun b z => ?_, tr⟩, un_ext un, hE1⟩
  simp only [List.mem_cons, List.not_mem_nil, or_false] at z
  rcases z with rfl | rfl
  · have := Inv.nowhere I hex na; exact ⟨this.1, ta, this.2⟩
  · have := Inv.nowhere I hex nT; exact ⟨this.1, tT, this.2⟩
/-- the exception's records have turned, all else is kept but for slots of frames -/
theorem Inv.flown {h' : Heap} {t' : Nat} {xs : List Addr} (I : Inv X pins σ H s) (hex : X.ex = []) (hst : X.stack = X.env :: X.outer) (new : ∀ b ∈ xs, X.s₀.heap.get? b = none ∧ H b = none ∧ b ≠ X.env.locals ∧ (∀ x c, X.env.cells.lookup x = some c → c ≠ b) ∧ ∀ p ∈ X.pn ++ pins, p.1 ≠ b)
    (stay : (PySem.W.hideAll s.heap (xs ++ frs X.stack)).StaysIn h') (up : s.heap.UpToSlots h') : Inv X pins σ H { s with heap := h', toks := t' } := by
  have hexb : ∀ b : Addr, b ∉ X.ex := fun b z => by rw [hex] at z; cases z
  have hL : X.s₀.heap.get? X.env.locals = none := Heap.get?_none_of_le I.ok.above
  have kept : ∀ b o, s.heap.get? b = some o → b ∉ xs → b ∉ frs X.stack → h'.get? b = some o := fun b o e n1 n2 => stay b o (PySem.W.hideAll_get _ e fun z => (List.mem_append.mp z).elim n1 n2)
  have nx : ∀ b o, X.s₀.heap.get? b = some o → b ∉ xs := fun b o e z => by rw [(new b z).1] at e; cases e
  have ns : ∀ b o, X.s₀.heap.get? b = some o → b ∉ X.fs → b ∉ frs X.stack := fun b o e n z => by
    rcases List.mem_cons.mp (I.stkSub b z) with z | z
    · subst z; rw [hL] at e; cases e
    · exact n z
  have frm : ∀ b ∈ frs X.stack, ∃ o, h'.get? b = some o := fun b z => by
    obtain ⟨_, o, e, d⟩ := I.stack.mem z
    obtain ⟨sl, e'⟩ := up b o e d
    exact ⟨_, e'⟩
  have trk : ∀ b u, H b = some u → b ∉ xs ∧ b ∉ frs X.stack := fun b u e => ⟨fun z => (by rw [(new b z).2.1] at e; cases e), fun z => (by rw [I.stkFree b z] at e; cases e)⟩
  have cel : ∀ x c v, X.env.cells.lookup x = some c → s.heap.IsCell c v → h'.IsCell c v := fun x c v hc ⟨o, ho, hd⟩ => by
    obtain ⟨sl, e⟩ := up c o ho (fun ws q => by rw [hd] at q; cases q)
    exact ⟨_, e, hd⟩
  refine ⟨I.ok, I.os, I.bare, ⟨fun b o e n hb hx => ?_, fun b o e n hb hx => ?_, I.base.free, fun b o e hx => ?_, I.base.tups, I.base.frzs, I.base.tbls⟩, ?_, fun x c hc => ?_, I.free, I.freeC, fun p hp => ?_, fun b u e => ?_, I.len⟩
  · exact kept b o (I.base.keep b o e n hb hx) (nx b o e) (ns b o e hb)
  · obtain ⟨sl, e1⟩ := I.base.slot b o e n hb hx
    obtain ⟨_, o', e2, d⟩ := I.funs.mem hb
    rw [e1] at e2; cases e2
    obtain ⟨sl', e3⟩ := up b _ e1 d
    exact ⟨sl', e3⟩
  · obtain ⟨o', e1⟩ := I.base.there b o e hx
    by_cases hb : b ∈ frs X.stack
    · exact frm b hb
    · exact ⟨o', kept b o' e1 (nx b o e) hb⟩
  · obtain ⟨m, hn, hl⟩ := I.loc
    refine ⟨m, up.ns hn, fun i x v e1 e2 e3 => ?_⟩
    obtain ⟨u, r, l⟩ := hl i x v e1 e2 e3
    refine ⟨u, r, ?_⟩
    rcases l with l | ⟨k, c, hc, z⟩
    · exact .inl l
    · exact .inr ⟨k, c, hc, cel x c _ hc z⟩
  · obtain ⟨v, z⟩ := I.cell x c hc
    exact ⟨v, cel x c v hc z⟩
  · obtain ⟨e, n, ne, nf, d⟩ := I.pin p hp
    refine ⟨kept p.1 p.2 e (fun z => (new p.1 z).2.2.2.2 p hp rfl) (fun z => ?_), n, ne, nf, d⟩
    rcases List.mem_cons.mp (I.stkSub p.1 z) with z | z
    · exact ne z
    · exact nf z
  · refine (I.hok b u e).stay (fun c v hc q => ?_) (fun _ q => q) fun _ _ q => q
    rcases hc with rfl | hc
    · exact kept _ v q (trk _ u e).1 (trk _ u e).2
    · exact kept c v q (trk c _ hc).1 (trk c _ hc).2
/-- .. and the exception lies anew -/
theorem Fly.next {h' : Heap} {t' : Nat} {a T : Addr} {cls a0 : Value} (F : Fly X pins σ H s a T cls) (hex : X.ex = []) (hst : X.stack = X.env :: X.outer)
    (stay : (PySem.W.hideAll s.heap ([a, T] ++ frs X.stack)).StaysIn h') (up : s.heap.UpToSlots h') (tr : h'.TracedW (PySem.W.hideAll s.heap ([a, T] ++ frs X.stack)) a cls a0) : ∃ T', Fly X pins σ H { s with heap := h', toks := t' } a T' cls := by
  obtain ⟨oe, vs, T', oT, ts, h1, h2, h3, h4, h5, h6, h7, h8, h9⟩ := tr
  have I' := Inv.flown (t' := t') F.inv hex hst F.new stay up
  refine ⟨T', I', fun b z => ?_, oe, vs, a0, oT, ts, h1, h2, h3, h4, h6, h7, h8, h9⟩
  simp only [List.mem_cons, List.not_mem_nil, or_false] at z
  rcases z with rfl | rfl
  · exact F.new _ (by simp)
  · cases e : s.heap.get? b with
    | none =>
      have q := Inv.nowhere F.inv hex e
      refine ⟨q.1, ?_, q.2⟩
      cases e2 : H b with
      | none => rfl
      | some u =>
        obtain ⟨o, e1⟩ := (F.inv.hok b u e2).got
        rw [e] at e1; cases e1
    | some o =>
      by_cases hb : b ∈ [a, T]
      · exact F.new b hb
      · by_cases hf : b ∈ frs X.stack
        · obtain ⟨_, o', e', d⟩ := F.inv.stack.mem hf
          obtain ⟨sl, e2⟩ := up b o' e' d
          rw [h7] at e2; cases e2
          exact absurd h8 (d ts)
        · have z := PySem.W.hideAll_get ([a, T] ++ frs X.stack) e fun z => (List.mem_append.mp z).elim hb hf
          rw [h5] at z; cases z
end
/-- within an except suite -/
abbrev _root_.L2.Cx.mark (X : Cx) (a : Addr) : Cx := { X with A := X.A.mark (some (.ref a)), calm := false, xe := fun _ _ => False }
section
variable {X : Cx} {pins : List (Addr × Obj)} {σ : St} {H : Hp} {s : Shared}
theorem Cx.Ok.mark {a : Addr} (ok : X.Ok) : (X.mark a).Ok :=
  ⟨ok.mod, ok.kind, ok.glob, ok.blt, ok.above, ok.inj, ok.has, ok.cab, (fun z => (nomatch z)), ok.frames, ok.stk, ok.exf, ok.bs, ok.bsz, ok.noex, ok.exfs, ok.funs, ok.frf⟩
theorem Cx.Ok.unmark {a : Addr} (hd : X.calm = true → X.A.handled = none) (ok : (X.mark a).Ok) : X.Ok :=
  ⟨ok.mod, ok.kind, ok.glob, ok.blt, ok.above, ok.inj, ok.has, ok.cab, hd, ok.frames, ok.stk, ok.exf, ok.bs, ok.bsz, ok.noex, ok.exfs, ok.funs, ok.frf⟩
theorem Inv.mark (a : Addr) (I : Inv X pins σ H s) : Inv (X.mark a) pins σ H s := ⟨Cx.Ok.mark I.ok, I.os, I.bare, I.base, I.loc, I.cell, I.free, I.freeC, I.pin, I.hok, I.len⟩
theorem Inv.unmark {a : Addr} (hd : X.calm = true → X.A.handled = none) (I : Inv (X.mark a) pins σ H s) : Inv X pins σ H s := ⟨Cx.Ok.unmark hd I.ok, I.os, I.bare, I.base, I.loc, I.cell, I.free, I.freeC, I.pin, I.hok, I.len⟩
end
section
variable {X : Cx} {pins : List (Addr × Obj)} {σ : St} {H : Hp} {s : Shared} {a T : Addr} {cls : Value}
theorem Fly.frames (F : Fly X pins σ H s a T cls) (hst : X.stack = X.env :: X.outer) : s.heap.FunFrames (PySem.W.hideAll s.heap ([a, T] ++ frs X.stack)) (X.env :: X.outer) := by
  have h := PySem.W.funFrames_hide (as := [a, T] ++ frs X.stack) F.inv.stack fun env he b hb => List.mem_append_right _ (List.mem_filterMap.mpr ⟨env, he, hb⟩)
  rw [hst] at h ⊢
  exact h
theorem Fly.traced (F : Fly X pins σ H s a T cls) : ∃ a0, s.heap.TracedW (PySem.W.hideAll s.heap ([a, T] ++ frs X.stack)) a cls a0 := by
  obtain ⟨oe, vs, a0, oT, ts, t1, t2, t3, t4, t5, t6, t7, t8⟩ := F.tr
  exact ⟨a0, oe, vs, T, oT, ts, t1, t2, t3, t4, PySem.W.hideAll_none _ (by simp), t5, t6, t7, t8⟩
/-- the exception is looked at here -/
theorem Fly.look {Q : Flow → Shared → Prop} {E : Value → Shared → Prop} {hs : List ExceptHandler} (F : Fly X pins σ H s a T cls) (hex : X.ex = []) (hst : X.stack = X.env :: X.outer) (hf : X.env.frame = some X.env.locals)
    (k : ∀ h' T', Fly X pins σ H { s with heap := h' } a T' cls → wpAny (model X.prog X.w) X.A (handleBy (.ref a) X.env hs) Q E { s with heap := h' }) :
    wpAny (model X.prog X.w) X.A (noteFrame (.ref a) X.env) (fun _ s₂ => wpAny (model X.prog X.w) X.A (setFlight (.ref a) none) (fun _ s₃ => wpAny (model X.prog X.w) X.A (handleBy (.ref a) X.env hs) Q E s₃) E s₂) E s := by
  obtain ⟨a0, tr⟩ := F.traced
  refine wpAny_noteFrame_onW (outer := X.outer) (by rw [← hst]; exact F.inv.ok.frames) (F.frames hst) hf tr (fun b o z => PySem.W.of_hideAll _ z) (PySem.W.hideAll_none _ (by simp)) fun h1 hN => ?_
  obtain ⟨k1, k2, k3, k4⟩ := hN
  refine wpAny_setFlight_noneW (s := { s with heap := h1 }) k1 k2 k3 fun h2 j1 j2 j3 j4 => ?_
  obtain ⟨T', F'⟩ := F.next (t' := s.toks) hex hst j1 (fun b o e d => let ⟨sl, e1⟩ := k4 b o e d; ⟨sl, j4 b _ e1 d⟩) j3
  exact k h2 T' F'
/-- .. and its suite begins -/
theorem Fly.again {A : Around} {Q : Unit → Shared → Prop} {E : Value → Shared → Prop} (F : Fly X pins σ H s a T cls) (hex : X.ex = []) (hst : X.stack = X.env :: X.outer) (k : ∀ h' T', Fly X pins σ H { s with heap := h' } a T' cls → Q () { s with heap := h' }) :
    wpAny (model X.prog X.w) A (setFlight (.ref a) none) Q E s := by
  obtain ⟨a0, tr⟩ := F.traced
  refine wpAny_setFlight_noneW (fun b o z => PySem.W.of_hideAll _ z) (F.frames hst) tr.at fun h2 j1 j2 j3 j4 => ?_
  obtain ⟨T', F'⟩ := F.next (t' := s.toks) hex hst j1 (fun b o e d => ⟨o.slots, j4 b _ e d⟩) j3
  exact k h2 T' F'
/-- the classes above an own class -/
def isaIn (K : PySem.W.Frag) (C : Addr) (v : Value) : Option Bool := match K.lookup C with
  | some ⟨_, _, .cls cd, _⟩ => some (cd.mro.contains v)
  | _ => none
abbrev bmVE : List Value := [.type "ValueError", .type "Exception", .type "BaseException", .type "object"]
structure IsA (K : PySem.W.Frag) (C F : Addr) (b : Bool) : Prop where
  c : PySem.W.excIn K C bmVE "ValueError.__new__" = true
  f : PySem.W.excIn K F bmVE "ValueError.__new__" = true
  m : isaIn K C (.ref F) = some b
theorem wpAny_excMatches_own {M : Model} {A : Around} {E : Value → Shared → Prop} {h : Heap} {g : Array GenState} {d : Drawn} {t : Nat} {os : OsState} {e C F N N' : Addr} {oe : Obj} {Q : Bool → Shared → Prop} {nm q nm' q' : Str} {bs bm bs' bm' : List Value} {hdct hdct' : Bool} {sn sn' : List Str} {sub sub' : List Value} {ab ab' : Bool} {col col' : Option Bool} {dd dd' : Option Addr} {k0 k1 k2 k3 k5 l0 l1 l2 l3 l5 : Option Value} {newId newId' : String} {b : Bool}
    (hC : h.get? C = some (excClassObj nm q C N bs bm hdct sn sub ab col dd k0 k1 k2 k3 k5 newId)) (hF : h.get? F = some (excClassObj nm' q' F N' bs' bm' hdct' sn' sub' ab' col' dd' l0 l1 l2 l3 l5 newId')) (he : h.get? e = some oe) (hcls : oe.cls = .ref C) (hbase : bm'.contains (.type "BaseException") = true)
    (hb : (Value.ref C :: bm).contains (.ref F) = b) (hq : Q b ⟨h, g, d, t, os⟩) : wpAny M A (excMatches (.ref e) (.ref F)) Q E ⟨h, g, d, t, os⟩ := by
  have hcB : (Value.ref F :: bm').contains (.type "BaseException") = true := by rw [List.contains_cons, hbase, Bool.or_true]
  have f := tc_notTuple
  unfold excMatches
  repeat (first | (with_reducible refine wpAny_loadPart_at he ?_; rw [hcls]) | with_reducible refine wpAny_loadPart_at hF ?_ | with_reducible refine wpAny_loadPart_at hC ?_ | (with_reducible refine wpAny_isSubtype_exc hF ?_; rw [hcB]) | (with_reducible refine wpAny_isSubtype_exc hC ?_; rw [hb]) | wp_step)
  cases b <;> (wp_walk; exact hq)
end
end DL

/-! Handlers, and try around a call. -/
namespace DL
open PySem PySem.Spec PyProof.Rows L2

section
variable {X : Cx} {pins : List (Addr × Obj)} {σ : St} {H : Hp} {s : Shared}
theorem isa_mro {K : PySem.W.Frag} {h : Heap} {C N : Addr} {v : Value} {b : Bool} {nm q : Str} {bs bm : List Value} {hdct : Bool} {sn : List Str} {sub : List Value} {ab : Bool} {col : Option Bool} {dd : Option Addr} {k0 k1 k2 k3 k5 : Option Value} {newId : String} (X : K.In h) (m : isaIn K C v = some b)
    (hC : h.get? C = some (excClassObj nm q C N bs bm hdct sn sub ab col dd k0 k1 k2 k3 k5 newId)) : (Value.ref C :: bm).contains v = b := by
  cases ho : K.lookup C with
  | none => unfold isaIn at m; rw [ho] at m; cases m
  | some o =>
    have e := X _ _ ho
    rw [hC] at e
    cases e
    unfold isaIn at m
    rw [ho] at m
    exact Option.some.inj m
/-- the name goes behind the suite -/
theorem Inv.goes {M : Model} {A : Around} {E : Value → Shared → Prop} {Q : Unit → Shared → Prop} {i : Nat} {n : Str} {pos : Pos} (I : Inv X pins σ H s) (hl : X.env.kindOf n = some .local) (hN : X.N.Nodup) (hi : X.N[i]? = some n)
    (k : ∀ s', Inv X pins (σ.set i none) H s' → Q () s') : wpAny M A (do bindName X.env n .none; unbindBehindTheSuite X.env n pos) Q E s := by
  obtain ⟨m, hn, hlk⟩ := id I.loc
  have hcls : (X.env.scope.kind == .class || (X.env.scope.kind == .module && X.env.locals != X.env.globals)) = false := by rw [I.ok.kind]; rfl
  have hiσ : i < σ.length := by rw [I.len]; exact (List.getElem?_eq_some_iff.mp hi).1
  have cne := I.cne
  refine wpAny_nameGoes_keeps hl hn hcls fun h' v hn' hs => ?_
  have ne0 : ∀ b o, X.s₀.heap.get? b = some o → b ≠ X.env.locals := fun b o e => Nat.ne_of_lt (Nat.lt_of_lt_of_le (Heap.lt_size e) I.ok.above)
  refine k _ ⟨I.ok, I.os, I.bare, ⟨fun b o e n hb hx => ?_, fun b o e n hb hx => ?_, I.base.free, fun b o e hx => ?_, I.base.tups, I.base.frzs, I.base.tbls⟩, ⟨_, hn', fun j y v' e1 e2 e3 => ?_⟩, fun y c e => ?_, I.free, I.freeC, fun p hp => ?_, fun b u e => ?_, by simpa using I.len⟩
  · exact (hs.2 b (ne0 b o e)).trans (I.base.keep b o e n hb hx)
  · obtain ⟨sl, e1⟩ := I.base.slot b o e n hb hx
    exact ⟨sl, (hs.2 b (ne0 b o e)).trans e1⟩
  · obtain ⟨o', e1⟩ := I.base.there b o e hx
    exact ⟨o', (hs.2 b (ne0 b o e)).trans e1⟩
  · by_cases hj : j = i
    · subst hj
      rw [List.getElem?_set_self hiσ] at e2
      cases e2
    · rw [List.getElem?_set_ne (Ne.symm hj)] at e2
      obtain ⟨u', r', q⟩ := hlk j y v' e1 e2 e3
      refine ⟨u', r', ?_⟩
      rcases q with ⟨k, e⟩ | ⟨k, c, e, z⟩
      · refine .inl ⟨k, ?_⟩
        have : y ≠ n := fun e => hj (nodup_ix hN e1 (e ▸ hi))
        simp [this, e]
      · exact .inr ⟨k, c, e, z.sameBut hs (cne y c e)⟩
  · obtain ⟨w', z⟩ := I.cell y c e
    exact ⟨w', z.sameBut hs (cne y c e)⟩
  · obtain ⟨e, n, ne, nf, d⟩ := I.pin p hp
    exact ⟨(hs.2 p.1 ne).trans e, n, ne, nf, d⟩
  · refine (I.hok b u e).stay (fun c w' hc q => (hs.2 c ?_).trans q) (fun _ q => q) fun _ _ q => q
    rintro rfl
    rcases hc with rfl | hc
    · rw [I.free] at e; cases e
    · rw [I.free] at hc; cases hc
/-- a record is tracked from here on -/
theorem Inv.track {a : Addr} {φ : Heap → Prop} (I : Inv X pins σ H s) (new : X.s₀.heap.get? a = none ∧ H a = none ∧ a ≠ X.env.locals ∧ (∀ x c, X.env.cells.lookup x = some c → c ≠ a) ∧ ∀ p ∈ X.pn ++ pins, p.1 ≠ a) (hφ : φ s.heap) (hob : ∃ o, s.heap.get? a = some o) (hst : ∀ h1 h2 : Heap, φ h1 → (∀ o, h1.get? a = some o → h2.get? a = some o) → φ h2) :
    Inv X pins σ (upd H a (.ext φ)) s := by
  obtain ⟨n0, na, nl, nc, np⟩ := new
  have other : ∀ b u, H b = some u → upd H a (.ext φ) b = some u := fun b u e => by rw [upd_ne (ne_of_none e na)]; exact e
  refine ⟨I.ok, I.os, I.bare, ⟨I.base.keep, I.base.slot, fun b o e n hx => ?_, I.base.there, fun b xs e => other b _ (I.base.tups b xs e), fun b o u e => other b _ (I.base.frzs b o u e), fun b ps e => ?_⟩, I.loc, I.cell, ?_, fun x c e => ?_, fun p hp => ?_, fun b u e => ?_, I.len⟩
  · rw [upd_ne (by intro z; subst z; rw [n0] at e; cases e)]; exact I.base.free b o e n hx
  · obtain ⟨more, e1⟩ := I.base.tbls b ps e
    exact ⟨more, other b _ e1⟩
  · rw [upd_ne (Ne.symm nl)]; exact I.free
  · rw [upd_ne (nc x c e)]; exact I.freeC x c e
  · obtain ⟨e, n, r⟩ := I.pin p hp
    exact ⟨e, by rw [upd_ne (np p hp)]; exact n, r⟩
  · by_cases hb : b = a
    · subst hb; rw [upd_same] at e; cases e; exact ⟨hφ, hob, hst⟩
    · rw [upd_ne hb] at e
      exact (I.hok b u e).stay (fun _ _ _ q => q) (fun c q => other c _ q) fun c xs q => other c _ q
theorem SAbs.drop {K : PySem.W.Frag} {τ : DSt} {i : Nat} (h : SAbs K τ σ H) : SAbs K (τ.set i none) (σ.set i none) H := by
  refine ⟨by rw [List.length_set, List.length_set]; exact h.1, fun j e q => ?_⟩
  rw [List.getElem?_set] at q
  by_cases hj : i = j
  · subst hj
    rw [if_pos rfl] at q
    split at q <;> cases q
  · rw [if_neg hj] at q
    obtain ⟨u, h1, h2⟩ := h.2 j e q
    exact ⟨u, by rw [List.getElem?_set, if_neg hj]; exact h1, h2⟩
end

/-- the handlers: what they make of an exception of this class -/
def PH (X : Cx) (hs : List ExceptHandler) (th : Value → TSd) : Prop := ∀ (pins : List (Addr × Obj)) (s : Shared) (σ : St) (H : Hp) (D : Ends) (a T : Addr) (cls : Value), Fly X pins σ H s a T cls → lowS X.K (th cls) D σ H → wpAny (model X.prog X.w) X.A (handleBy (.ref a) X.env hs) (SP X pins D) X.xe s
def hNone : Value → TSd := fun _ _ _ _ => False
def endsAs (i : Nat) (D : EndsD) : EndsD := { nx := fun τ M => D.nx (τ.set i none) M, rt := D.rt, bk := fun τ M => D.bk (τ.set i none) M, ct := fun τ M => D.ct (τ.set i none) M }
def hCatchAs (K : PySem.W.Frag) (F : Addr) (i : Nat) (ts : TSd) (tr : Value → TSd) : Value → TSd := fun cls D τ M => ∃ C b, cls = .ref C ∧ IsA K C F b ∧ if b = true then ∀ p, M p = none → ts (endsAs i D) (τ.set i (some (.ref p))) (updM M p (.exc cls)) else tr cls D τ M
section
variable {X : Cx} {y : Str} {F : Addr} {np hpos : Pos} {b₀ : Stmt} {body : List Stmt} {ts : TSd} {rest : List ExceptHandler} {tr : Value → TSd}
theorem h_none : PH X [] hNone := fun _ _ _ _ _ _ _ _ _ ⟨_, _, _, _, _, h, _⟩ => h.elim
theorem h_catchAs {i : Nat} {n : Str} (hex : X.ex = []) (hst : X.stack = X.env :: X.outer) (hc : X.calm = true) (hN : X.N.Nodup) (nm : X.mg y = some (.ref F)) (hsuite : ∀ a, PSs (X.mark a) (b₀ :: body) (lowS X.K ts)) (hrest : PH X rest tr) (hi : X.N[i]? = some n := by rfl) (hl : X.env.scope.names.lookup n = some .local := by rfl) (hl' : X.env.kindOf n = some .local := by rfl) (hg : Gl X y := by rfl) (hdb : (y == ("__debug__" : Str)) = false := by decide) :
    PH X (.ExceptHandler (some (.Name y np)) (some n) (b₀ :: body) hpos :: rest) (hCatchAs X.K F i ts tr) := by
  intro pins s σ H D a T cls FL ⟨τ, M, D', hs, hm, ⟨C, b, hcl, isa, q⟩, hd'⟩
  subst hcl
  have I := FL.inv
  obtain ⟨bm, N, nmC, qn, bs, hdct, sn, sub, ab, col, dd, k0, k1, k2, k3, k5, mN, hC, _, _, _⟩ := exc_obj I.mod.kin isa.c
  obtain ⟨bm', N', nm', qn', bs', hdct', sn', sub', ab', col', dd', l0, l1, l2, l3, l5, mN', hF, _, _, TL'⟩ := exc_obj I.mod.kin isa.f
  obtain ⟨oe, vs, a0, oT, ts', t1, ⟨hcls, _⟩, _⟩ := id FL.tr
  have hmro := isa_mro I.mod.kin isa.m hC
  refine wpAny_handleBy_cons (codeAny_handlers_test (ld_glob (X := X.mark a) (Inv.mark a I) hg nm ?_ hdb)) (by intro q; cases q)
  refine wpAny_excMatches_own (g := s.gens) (d := s.drawn) (t := s.toks) (os := s.os) (I.bk _ _ hC) (I.bk _ _ hF) t1 hcls (TL'.hasType rfl) hmro ?_
  cases b with
  | false => exact hrest pins _ σ H D a T (.ref C) FL ⟨τ, M, D', hs, hm, q, hd'⟩
  | true =>
    refine codeAny_handlers_suite_as (FL.again hex hst fun h' T' FL' => ?_)
    have hne := FL'.new a (by simp)
    refine store_ok2 (X := X.mark a) (v := .ref a) (Inv.mark a FL'.inv) hN hi (.inl hl) rfl (fun s2 I2 ⟨b, hsb, hb⟩ => ?_) (.inr hl)
    have hab : a ≠ b := by
      rcases hb with rfl | hb
      · exact hne.2.2.1
      · exact fun z => hne.2.2.2.1 _ _ hb z.symm
    obtain ⟨oe2, _, _, _, _, u1, ⟨u2, _⟩, _⟩ := id FL'.tr
    have hob2 : s2.heap.get? a = some oe2 := (hsb.2 a hab).trans u1
    have I3 := Inv.track (φ := fun h => ∃ ob, h.get? a = some ob ∧ ob.cls = .ref C) I2 hne ⟨oe2, hob2, u2⟩ ⟨oe2, hob2⟩ fun h1 h2 ⟨ob, e1, e2⟩ k => ⟨ob, k ob e1, e2⟩
    have q' : ∀ p, M p = none → ts (endsAs i D') (τ.set i (some (.ref p))) (updM M p (.exc (.ref C))) := q
    have ex : Ext X.K H (upd H a (.ext fun h => ∃ ob, h.get? a = some ob ∧ ob.cls = .ref C)) := ext_new hne.2.1
    have hM3 : HAbs X.K (updM M a (.exc (.ref C))) (upd H a (.ext fun h => ∃ ob, h.get? a = some ob ∧ ob.cls = .ref C)) := hm.newM hne.2.1 (show MOk X.K _ a (.exc (.ref C)) from ⟨_, upd_same, fun h z => z⟩)
    have hs3 : SAbs X.K (τ.set i (some (.ref a))) (σ.set i (some (.ref a))) (upd H a (.ext fun h => ∃ ob, h.get? a = some ob ∧ ob.cls = .ref C)) := (hs.mono ex).set (.ref a)
    have hrun := hsuite a pins s2 _ _ { nx := fun σ' H' => D.nx (σ'.set i none) H', rt := D.rt, bk := fun σ' H' => D.bk (σ'.set i none) H', ct := fun σ' H' => D.ct (σ'.set i none) H' } I3 ⟨_, _, endsAs i D', hs3, hM3, q' a (hm.free hne.2.1), ⟨fun τ1 M1 σ1 H1 a1 a2 a3 a4 => hd'.nx _ M1 _ H1 (SAbs.drop a1) a2 (ex.trans a3) a4, hd'.rt.ext ex, fun τ1 M1 σ1 H1 a1 a2 a3 a4 => hd'.bk _ M1 _ H1 (SAbs.drop a1) a2 (ex.trans a3) a4, fun τ1 M1 σ1 H1 a1 a2 a3 a4 => hd'.ct _ M1 _ H1 (SAbs.drop a1) a2 (ex.trans a3) a4⟩⟩
    refine wpAny_mono hrun (fun f s3 z => ?_) fun _ _ z => False.elim z
    cases f with
    | next => obtain ⟨σ', H', J, z⟩ := z; exact Inv.goes (Inv.unmark I.ok.hd J) hl' hN hi fun s4 J4 => ⟨_, H', J4, z⟩
    | brk => obtain ⟨σ', H', J, z⟩ := z; exact Inv.goes (Inv.unmark I.ok.hd J) hl' hN hi fun s4 J4 => ⟨_, H', J4, z⟩
    | cont => obtain ⟨σ', H', J, z⟩ := z; exact Inv.goes (Inv.unmark I.ok.hd J) hl' hN hi fun s4 J4 => ⟨_, H', J4, z⟩
    | ret u => obtain ⟨v, σ', H', J, r, z⟩ := z; exact Inv.goes (Inv.unmark I.ok.hd J) hl' hN hi fun s4 J4 => ⟨v, _, H', J4, r, z⟩
end

/-! ### try around a call -/
def XP (X : Cx) (pins : List (Addr × Obj)) (σ : St) (H : Hp) (EX : Value → DH → Prop) (e : Value) (s' : Shared) : Prop := ∃ a T cls H2 M2, e = .ref a ∧ Fly X pins σ H2 s' a T cls ∧ HAbs X.K M2 H2 ∧ Ext X.K H H2 ∧ EX cls M2
section
variable {X : Cx} {e : Expr} {es : List Expr} {pos : Pos} {t : TAd}
theorem callX {k : Nat} {x : Str} {ps : List Str} {sp : SpE} {p : Pos} {pins : List (Addr × Obj)} {s : Shared} {σ : St} {H : Hp} {Q : VK} {Q' : KD} {τ : DSt} {M : DH} {EX : Value → DH → Prop} (F : FnE X.prog X.w X.K X.mg X.base k x ps sp) (hex : X.ex = []) (hr : Room k X.A) (ha : PA X.nox (e :: es) (lowA X.K t)) (hg : Gl X x) (hdb : (x == ("__debug__" : Str)) = false)
    (he : starEach (e :: es) X.env = (false, eval e X.env) :: starEach es X.env) (hpl : (backTo pos (starEach es X.env)).any (·.1) = false) (I : Inv X pins σ H s) (hs : SAbs X.K τ σ H) (hm : HAbs X.K M H) (h : t τ M fun ds M1 => sp ds M1 Q' EX) (hq : lowQ X.K H Q' Q) :
    wpAny (model X.prog X.w) X.A (eval (.Call (.Name x p) (e :: es) [] pos) X.env) (EP X pins σ Q) (XP X pins σ H EX) s := by
  obtain ⟨f, fd, F, hmg, hk, hb⟩ := F.ex
  refine wpAny_Call_Name_kw (ld_glob I hg hmg ?_ hdb)
  have hA := ha pos pins s σ H (fun vs H1 => ∃ ds M1, HAbs X.K M1 H1 ∧ Ext X.K H H1 ∧ Iss X.K H1 vs ds ∧ sp ds M1 Q' EX) (I.wish _) ⟨τ, M, _, hs, hm, h, fun ds M1 vs H1 m1 e1 i1 h1 => ⟨ds, M1, m1, e1, i1, h1⟩⟩
  refine PySem.W.callWith_K (h₀ := X.base) I.ok.mod.kin hk (wpAny_mono hA (fun us s1 ⟨vs, H1, I1, r, ⟨ds, M1, m1, e1, i1, h1⟩⟩ => ⟨I1.unwish.kIn, ?_⟩) fun _ _ z => False.elim z) he hpl
  have J1 := I1.unwish
  have h2 : lowSpE X.K sp vs H1 Q fun cls _ H2 => ∃ M2, HAbs X.K M2 H2 ∧ EX cls M2 := ⟨ds, M1, Q', EX, i1, m1, h1, hq.ext e1, fun cls M2 H2 m2 _ q => ⟨M2, m2, q⟩⟩
  have hl : us.length = ps.length := by rw [← r.length]; exact F.len _ _ _ _ h2
  have hbn := hb s1 us J1.kIn (by rw [List.append_nil]; exact hl)
  rw [List.append_nil] at hbn
  refine wpAny_call (codeAny_mono (F.run X.A X.stack s1 H1 ⟨us, []⟩ us vs Q _ hr J1.env0 hbn r h2) fun rr s' hq' => ?_)
  cases rr with
  | error e =>
    obtain ⟨a, T, cls, H2, ea, FL, ex, M2, m2, q2⟩ := fly_of (E1 := fun cls _ H2 => ∃ M2, HAbs X.K M2 H2 ∧ EX cls M2) J1 hex hq'
    exact ⟨a, T, cls, H2, M2, ea, FL, m2, e1.trans ex, q2⟩
  | ok fl =>
    cases fl with
    | ret u => exact J1.after hq'
    | next => exact False.elim hq'
    | brk => exact False.elim hq'
    | cont => exact False.elim hq'
def sTryE (sp : SpE) (t : TAd) (th : Value → TSd) : TSd := fun D τ M => t τ M fun ds M1 => sp ds M1 (fun _ M2 => D.nx τ M2) fun cls M2 => ∃ M0, Sub M0 M2 ∧ th cls D τ M0
theorem came_in {h₀ : ExceptHandler} {hs : List ExceptHandler} {th : Value → TSd} {pins : List (Addr × Obj)} {σ : St} {H : Hp} {D : Ends} {D' : EndsD} {τ : DSt} {v : Value} {s' : Shared} (hex : X.ex = []) (hst : X.stack = X.env :: X.outer) (hf : X.env.frame = some X.env.locals) (hh : PH X (h₀ :: hs) th) (hS : SAbs X.K τ σ H) (hd : LowD X.K H D' D)
    (h : XP X pins σ H (fun cls M2 => ∃ M0, Sub M0 M2 ∧ th cls D' τ M0) v s') : wpAny (model X.prog X.w) X.A (noteFrame v X.env) (fun _ s₂ => wpAny (model X.prog X.w) X.A (setFlight v none) (fun _ s₃ => wpAny (model X.prog X.w) X.A (handleBy v X.env (h₀ :: hs)) (SP X pins D) X.xe s₃) X.xe s₂) X.xe s' := by
  obtain ⟨a, T, cls, H2, M2, rfl, FL, m2, e2, M0, sub, q⟩ := h
  exact FL.look hex hst hf fun h' T' FL' => hh pins _ σ H2 D a T' cls FL' ⟨τ, M0, D', hS.mono e2, m2.sub sub, q, hd.ext e2⟩
theorem s_tryE {k : Nat} {x : Str} {ps : List Str} {sp : SpE} {p ep tpos : Pos} {h₀ : ExceptHandler} {hs : List ExceptHandler} {th : Value → TSd} (F : FnE X.prog X.w X.K X.mg X.base k x ps sp) (hex : X.ex = []) (hst : X.stack = X.env :: X.outer) (hf : X.env.frame = some X.env.locals) (hr : Room k X.A) (ha : PA X.nox (e :: es) (lowA X.K t)) (hh : PH X (h₀ :: hs) th)
    (hg : Gl X x := by rfl) (hdb : (x == ("__debug__" : Str)) = false := by decide) (he : starEach (e :: es) X.env = (false, eval e X.env) :: starEach es X.env := by rfl) (hpl : (backTo pos (starEach es X.env)).any (·.1) = false := by rfl)
    (hsw : swapsWith (.Call (.Name x p) (e :: es) [] pos) none ep.line X.env = pure false := by rfl) : PS X (.Try [.Expr (.Call (.Name x p) (e :: es) [] pos) ep] (h₀ :: hs) [] [] tpos) (lowS X.K (sTryE sp t th)) := by
  intro pins s σ H D I ⟨τ, M, D', hS, hm, h, hd⟩
  refine wpAny_Try_except (wpAny_mono (E := XP X pins σ H fun cls M2 => ∃ M0, Sub M0 M2 ∧ th cls D' τ M0) (Q := fun f s1 => f = .next ∧ ∃ H1, Inv X pins σ H1 s1 ∧ D.nx σ H1) ?_ (fun f s1 z => ?_) fun v s' z => came_in hex hst hf hh hS hd z)
  · have hc := callX (p := p) (pos := pos) (Q := fun _ H1 => D.nx σ H1) (Q' := fun _ M2 => D'.nx τ M2) F hex hr ha hg hdb he hpl I hS hm h (fun d M1 v H1 m1 e1 i1 q => hd.nx τ M1 σ H1 (hS.mono e1) m1 e1 q)
    refine wpAny_execs_cons (wpAny_Expr_any (wpAny_mono hc (fun v s1 ⟨y, H1, I1, r1, q1⟩ => ?_) fun _ _ z => z) I.quiet hsw)
    exact wpAny_execs_nil ⟨rfl, H1, I1, q1⟩
  · obtain ⟨rfl, H1, I1, q1⟩ := z
    exact wpAny_execs_nil ⟨σ, H1, I1, q1⟩
end
end DL

/-! isinstance of an exception. -/
namespace DL
open PySem PySem.Spec PyProof.Rows L2

section
variable {prog : Program} {w : World} {A : Around} {E : Value → Shared → Prop} {h : Heap} {g : Array GenState} {d : Drawn} {t : Nat} {os : OsState} {a : Addr} {o : Obj}
  {nm q : Str} {C N : Addr} {bs bm : List Value} {hdct : Bool} {sn : List Str} {sub : List Value} {ab : Bool} {col : Option Bool} {dd : Option Addr} {k0 k1 k2 k3 k5 : Option Value} {newId : String}
theorem class_get_exc {R : Result → Shared → Prop} (hC : h.get? C = some (excClassObj nm q C N bs bm hdct sn sub ab col dd k0 k1 k2 k3 k5 newId)) (ho : bm.contains (.type "object") = true) (hx : h.get? a = some o) (hc : o.cls = .ref C) (hq : R (.ok (.ret (.ref C))) ⟨h, g, d, t, os⟩) :
    codeAny (model prog w) A (.call (.builtin "getset_descriptor.__get__") ⟨[.builtin "object.__class__", .ref a, .ref C], []⟩) R ⟨h, g, d, t, os⟩ := by
  have hT5 : (⟨h, g, d, t, os⟩ : Shared).TypeIs (.builtin "object.__class__") "getset_descriptor" := F.typeOf_object_class
  have hcB : (Value.ref C :: bm).contains (.type (".".intercalate ("object.__class__".cutAt '.').dropLast)) = true := by
    rw [F.owner_object_class, List.contains_cons, ho]; rfl
  refine codeAny_call_builtin F.slot_gs_get.plain F.entry_gs_get (F.slot_gs_get.check _ _ _ _ _ _ _ _ hT5 (F.args_gs_get _ _ _) ?_)
  repeat (any_goals (first | assumption | (with_reducible refine wpAny_loadPart_at hx ?_; rw [hc]) | (with_reducible refine wpAny_isSubtype_exc hC ?_; rw [hcB]) | wp_step))
  refine ⟨Code.quiet_builtin _ (by decide +kernel), codeAny_builtin F.entry_object_class ?_⟩
  repeat (any_goals (first | assumption | (with_reducible refine wpAny_loadPart_at hx ?_; rw [hc]) | wp_step))
theorem class_entry_exc {tk : Tok} {Q : Fin → Shared → Prop} (hC : h.get? C = some (excClassObj nm q C N bs bm hdct sn sub ab col dd k0 k1 k2 k3 k5 newId)) (ho : bm.contains (.type "object") = true) (L : PySem.W.Looks (model prog w) h (typeLookup (.ref C) "__class__") (some (.builtin "object.__class__")))
    (hx : h.get? a = some o) (hc : o.cls = .ref C) (hq : Q (.done (.ret (.ref C))) ⟨h, g, d, t, os⟩) :
    wpAny (model prog w) A (Builtin.«object.__getattribute__» ⟨[.ref a, .str "__class__" tk], []⟩) Q E ⟨h, g, d, t, os⟩ := by
  have hT5 : (⟨h, g, d, t, os⟩ : Shared).TypeIs (.builtin "object.__class__") "getset_descriptor" := F.typeOf_object_class
  have f5 := F.typeOf_object_class
  have f6 := F.slot_gs_get.lookup
  have f7 := F.slot_gs_set.lookup
  repeat (any_goals (first | assumption | (with_reducible refine wpAny_loadPart_at hx ?_; rw [hc]) | with_reducible refine L.at ?_ | wp_step))
  refine class_get_exc hC ho hx hc ?_
  repeat (any_goals (first | assumption | wp_step))
theorem check_ga_exc {M : Model} {nameV : Value} {Q : Unit → Shared → Prop} (hC : h.get? C = some (excClassObj nm q C N bs bm hdct sn sub ab col dd k0 k1 k2 k3 k5 newId)) (hb : bm.contains (.type "BaseException") = true)
    (hx : h.get? a = some o) (hc : o.cls = .ref C) (hq : Q () ⟨h, g, d, t, os⟩) : wpAny M A (checkBuiltinCall "BaseException.__getattribute__" ⟨[.ref a, nameV], []⟩) Q E ⟨h, g, d, t, os⟩ := by
  have hk : builtinKind "BaseException.__getattribute__" = some .slot := by decide +kernel
  have hsplit : splitId "BaseException.__getattribute__" = some ("BaseException", "__getattribute__") := by decide +kernel
  have hcB : (Value.ref C :: bm).contains (.type "BaseException") = true := by rw [List.contains_cons, hb]; rfl
  have ha := F.args_bexc_ga (.ref a) nameV
  simp only [checkBuiltinCall, hk, hsplit]
  refine wpAny_bind ?_
  · unfold isInstance
    repeat (first | (with_reducible refine wpAny_loadPart_at hx ?_; rw [hc]) | (with_reducible refine wpAny_isSubtype_exc hC ?_; rw [hcB]) | wp_step)
    exact hq
theorem class_by_exc {tk : Tok} {fill expr : Bool} {Q : Value → Shared → Prop} (hC : h.get? C = some (excClassObj nm q C N bs bm hdct sn sub ab col dd k0 k1 k2 k3 k5 newId)) (ho : bm.contains (.type "object") = true) (hb : bm.contains (.type "BaseException") = true)
    (L : PySem.W.Looks (model prog w) h (typeLookup (.ref C) "__class__") (some (.builtin "object.__class__"))) (L1 : PySem.W.Looks (model prog w) h (typeLookup (.ref C) "__getattribute__") (some (.builtin "BaseException.__getattribute__"))) (L2 : PySem.W.Looks (model prog w) h (typeLookup (.ref C) "__getattr__") none)
    (hx : h.get? a = some o) (hc : o.cls = .ref C) (hq : Q (.ref C) ⟨h, g, d, t, os⟩) : wpAny (model prog w) A (getAttrBy (.ref a) (.str "__class__" tk) fill expr) Q E ⟨h, g, d, t, os⟩ := by
  have f3 := F.excAttr_ValueError.ga.bind (.ref a)
  have hx0 : (expr && onTheHeap (Value.builtin "BaseException.__getattribute__")) = false := by cases expr <;> rfl
  have hx2 : (Value.builtin "BaseException.__getattribute__" == Value.builtin "object.__getattribute__") = false := by decide +kernel
  have hx1 : (onTheHeap (Value.ref C) && Value.builtin "BaseException.__getattribute__" == Value.builtin "object.__getattribute__") = false := by rw [hx2]; rfl
  repeat (any_goals (first | assumption | (with_reducible refine wpAny_loadPart_at hx ?_; rw [hc]) | with_reducible refine L1.at ?_ | with_reducible refine L2.at ?_ | wp_step))
  refine codeAny_call_builtin F.excAttr_ValueError.ga.plain F.entry_bexc_ga (check_ga_exc hC hb hx hc (class_entry_exc hC ho L hx hc ?_))
  repeat (any_goals (first | assumption | wp_step))
theorem class_attr_exc {Q : Option Value → Shared → Prop} (hC : h.get? C = some (excClassObj nm q C N bs bm hdct sn sub ab col dd k0 k1 k2 k3 k5 newId)) (ho : bm.contains (.type "object") = true) (hb : bm.contains (.type "BaseException") = true)
    (L : PySem.W.Looks (model prog w) h (typeLookup (.ref C) "__class__") (some (.builtin "object.__class__"))) (L1 : PySem.W.Looks (model prog w) h (typeLookup (.ref C) "__getattribute__") (some (.builtin "BaseException.__getattribute__"))) (L2 : PySem.W.Looks (model prog w) h (typeLookup (.ref C) "__getattr__") none)
    (hx : h.get? a = some o) (hc : o.cls = .ref C) (hq : Q (some (.ref C)) ⟨h, g, d, t + 1, os⟩) : wpAny (model prog w) A (getAttr? (.ref a) "__class__") Q E ⟨h, g, d, t, os⟩ := by
  unfold getAttr? getAttrBy?
  repeat (any_goals (first | assumption | with_reducible apply class_by_exc hC ho hb L L1 L2 hx hc | wp_step))
end
/-- an own exception class: it is made as ValueError is, and shows its class -/
structure XCl (K : PySem.W.Frag) (C : Addr) : Prop where
  ow : PySem.W.excIn K C bmVE "ValueError.__new__" = true
  f1 : PySem.W.findIn K (.ref C) "__class__" = some (some (.builtin "object.__class__"))
  f2 : PySem.W.findIn K (.ref C) "__getattribute__" = some (some (.builtin "BaseException.__getattribute__"))
  f3 : PySem.W.findIn K (.ref C) "__getattr__" = some none
theorem kitx_exc {K : PySem.W.Frag} {C a : Addr} (x : XCl K C) : PySem.W.KitX K (.ref a) (.ref C) (fun h => ∃ ob, h.get? a = some ob ∧ ob.cls = .ref C) where
  ty := fun M h _ ⟨o, h1, h2⟩ => h2 ▸ (PySem.W.Looks.ld h1).andThen .now
  it := fun _ _ X _ => by
    obtain ⟨bm, N, nmC, qn, bs, hdct, sn, sub, ab, col, dd, k0, k1, k2, k3, k5, mN, hC, _, _, _⟩ := exc_obj X x.ow
    intro A' Q' E' s' k q
    unfold isType PySem.loadHead
    exact wpAny_bind (wpAny_loadPart (k _ _ hC) (wpAny_pure q))
  ne := fun h tp dd its n sl X htp => by
    obtain ⟨bm, N, nmC, qn, bs, hdct, sn, sub, ab, col, dd', k0, k1, k2, k3, k5, mN, hC, _, _, _⟩ := exc_obj X x.ow
    refine Bool.eq_false_iff.mpr fun q => ?_
    have e : C = tp := Value.ref.inj (beq_iff_eq.mp q)
    subst e
    rw [hC] at htp
    have z := congrArg Obj.data (Option.some.inj htp)
    simp at z
  ca := fun {prog w A E Q s} X ⟨o, h1, h2⟩ k => by
    obtain ⟨bm, N, nmC, qn, bs, hdct, sn, sub, ab, col, dd', k0, k1, k2, k3, k5, mN, hC, _, _, TL⟩ := exc_obj X x.ow
    obtain ⟨h, g, d, t, os⟩ := s
    exact class_attr_exc hC (TL.hasType rfl) (TL.hasType rfl) (PySem.W.looks_findIn X x.f1) (PySem.W.looks_findIn X x.f2) (PySem.W.looks_findIn X x.f3) h1 h2 k
def isiED (K : PySem.W.Frag) : List D → DH → KD → Prop
  | [.ref p, .ref F], M, Q => ∃ C b, M p = some (.exc (.ref C)) ∧ XCl K C ∧ PySem.W.kitOne K (.ref C) (.ref F) = some b ∧ Q (.bl b) M
  | [.ref p, .ty T], M, Q => ∃ C b, M p = some (.exc (.ref C)) ∧ XCl K C ∧ PySem.W.kitOne K (.ref C) (.type T) = some b ∧ Q (.bl b) M
  | _, _, _ => False
theorem cd_isiE {X : Cx} {K : PySem.W.Frag} (hK : X.K = K) : CallD X (.builtin "isinstance") (isiED K) := by
  subst hK
  intro pins s σ H vs us Q I r ⟨ds, M, Q', iss, hm, q, hq⟩
  match ds, q, iss with
  | [.ref p, .ref F], q, iss =>
    obtain ⟨v, v', rfl, h1, h2⟩ := iss2 iss
    (first | cases h1.inv | cases h1); (first | cases h2.inv | cases h2)
    obtain ⟨u, w', rfl, r1, r2⟩ := vals2 r
    cases r1; cases r2
    obtain ⟨C, b, hp, xc, hk, q⟩ := q
    obtain ⟨φ, e1, e2⟩ := hm p _ hp
    exact PySem.W.kia_one (kitx_exc xc) I.kIn (e2 _ (I.hok p _ e1).1) hk (fun z => nomatch z) fun tk => ⟨.bl _, H, I.tok tk, rfl, hq.here hm (.bl _) q⟩
  | [.ref p, .ty T], q, iss =>
    obtain ⟨v, v', rfl, h1, h2⟩ := iss2 iss
    (first | cases h1.inv | cases h1); (first | cases h2.inv | cases h2)
    obtain ⟨u, w', rfl, r1, r2⟩ := vals2 r
    cases r1; cases r2
    obtain ⟨C, b, hp, xc, hk, q⟩ := q
    obtain ⟨φ, e1, e2⟩ := hm p _ hp
    exact PySem.W.kia_one (kitx_exc xc) I.kIn (e2 _ (I.hok p _ e1).1) hk (fun z => nomatch z) fun tk => ⟨.bl _, H, I.tok tk, rfl, hq.here hm (.bl _) q⟩
theorem d_cls {X : Cx} {x : Str} {C : Addr} {pos : Pos} (hg : Gl X x) (hm : X.mg x = some (.ref C)) (hd : (x == ("__debug__" : Str)) = false := by decide) : PE X (.Name x pos) (low X.K (eC (.ref C))) :=
  (pe_glob (v := .ref C) hg hm rfl hd).imp fun _ _ _ h => low_const (fun _ => .ref C) h
theorem bt_ValueError : bootBuiltins "ValueError" = some (.type "ValueError") := by decide +kernel
/-! ### the text's classes of exceptions, by their names -/
def cl (mg : Str → Option Value) (x : Str) : Addr := match mg x with
  | some (.ref C) => C
  | _ => 0
theorem cl_of {mg : Str → Option Value} {x : Str} {C : Addr} (h : mg x = some (.ref C)) : cl mg x = C := by unfold cl; rw [h]
def kitTab (K : PySem.W.Frag) (cs : List Addr) : List (List (Option Bool)) := cs.map fun c => cs.map fun f => PySem.W.kitOne K (.ref c) (.ref f)
def isaTab (K : PySem.W.Frag) (cs : List Addr) : List (List (Option Bool)) := cs.map fun c => cs.map fun f => isaIn K c (.ref f)
structure XTab (K : PySem.W.Frag) (cs : List Addr) (tab : List (List Bool)) : Prop where
  ow : ∀ c ∈ cs, PySem.W.excIn K c bmVE "ValueError.__new__" = true
  kt : kitTab K cs = tab.map fun r => r.map some
  ia : isaTab K cs = tab.map fun r => r.map some
  ve : cs.map (fun c => PySem.W.kitOne K (.ref c) (.type "ValueError")) = cs.map fun _ => some true
  f1 : cs.map (fun c => PySem.W.findIn K (.ref c) "__class__") = cs.map fun _ => some (some (.builtin "object.__class__"))
  f2 : cs.map (fun c => PySem.W.findIn K (.ref c) "__getattribute__") = cs.map fun _ => some (some (.builtin "BaseException.__getattribute__"))
  f3 : cs.map (fun c => PySem.W.findIn K (.ref c) "__getattr__") = cs.map fun _ => some none
section
variable {K : PySem.W.Frag} {cs : List Addr} {tab : List (List Bool)} {i j : Nat} {c f : Addr} {r : List Bool} {b : Bool}
theorem map_at {α β : Type} {g g' : α → β} {xs : List α} {i : Nat} {x : α} (h : xs.map g = xs.map g') (e : xs[i]? = some x) : g x = g' x := by
  have h1 := congrArg (fun l => l[i]?) h
  simp only [List.getElem?_map, e, Option.map_some, Option.some.injEq] at h1
  exact h1
theorem tab_at {g : Addr → Addr → Option Bool} (h : (cs.map fun c => cs.map fun f => g c f) = tab.map fun r => r.map some) (hc : cs[i]? = some c) (hf : cs[j]? = some f) (hr : tab[i]? = some r) (hb : r[j]? = some b) : g c f = some b := by
  have h1 := congrArg (fun l => l[i]?) h
  simp only [List.getElem?_map, hc, hr, Option.map_some, Option.some.injEq] at h1
  have h2 := congrArg (fun l => l[j]?) h1
  simp only [List.getElem?_map, hf, hb, Option.map_some, Option.some.injEq] at h2
  exact h2
theorem XTab.kit (X : XTab K cs tab) (i j : Nat) (hc : cs[i]? = some c) (hf : cs[j]? = some f) (hr : tab[i]? = some r) (hb : r[j]? = some b) : PySem.W.kitOne K (.ref c) (.ref f) = some b := tab_at X.kt hc hf hr hb
theorem XTab.isa (X : XTab K cs tab) (i j : Nat) (hc : cs[i]? = some c) (hf : cs[j]? = some f) (hr : tab[i]? = some r) (hb : r[j]? = some b) : IsA K c f b := ⟨X.ow c (List.mem_of_getElem? hc), X.ow f (List.mem_of_getElem? hf), tab_at X.ia hc hf hr hb⟩
theorem XTab.xcl (X : XTab K cs tab) (i : Nat) (hc : cs[i]? = some c) : XCl K c := ⟨X.ow c (List.mem_of_getElem? hc), map_at X.f1 hc, map_at X.f2 hc, map_at X.f3 hc⟩
theorem XTab.vee (X : XTab K cs tab) (i : Nat) (hc : cs[i]? = some c) : PySem.W.kitOne K (.ref c) (.type "ValueError") = some true := map_at X.ve hc
end
/-- no exception: a promise without them -/
theorem FnE.nox {P : Program} {w : World} {K : PySem.W.Frag} {mg : Str → Option Value} {base : Heap} {k : Nat} {x : Str} {ps : List Str} {sp : SpE} (F : FnE P w K mg base k x ps sp) : FnD P w K mg base k x ps (fun ds M Q => sp ds M Q fun _ _ => False) := by
  obtain ⟨f, fd, a, b, c, d⟩ := F.ex
  refine ⟨f, fd, ⟨fun vs H Q E ⟨ds, M, Q', i, m, q, hq⟩ => a.len vs H Q E ⟨ds, M, Q', _, i, m, q, hq, fun _ _ _ _ _ z => z.elim⟩, fun A outer s H args us vs Q E hr he hb hv ⟨ds, M, Q', i, m, q, hq⟩ => ?_⟩, b, c, d⟩
  refine codeAny_mono (a.run A outer s H args us vs Q (fun _ _ _ => False) hr he hb hv ⟨ds, M, Q', _, i, m, q, hq, fun _ _ _ _ _ z => z.elim⟩) fun r s' h => ?_
  cases r with
  | ok fl => cases fl <;> exact h
  | error e => obtain ⟨_, _, _, _, _, _, _, _, _, _, _, _, _, _, z⟩ := h; exact z.elim
end DL

/-! == of lists, displays of dicts, clear, tuples many times over. -/
namespace DL
open PySem PySem.Spec PyProof.Rows L2

section
variable {X : Cx} {k : Nat} {e a b : Expr} {pos : Pos} {ta tb te : TEd}
end
end DL

/-! `len(set(xs))` of a list of ints. -/
namespace DL
open PySem PySem.Spec PyProof.Rows L2
section
variable {X : Cx}
end
end DL

/-! A tuple taken several times; a dict with one pair; `d.clear()`. -/
namespace DL
open PySem PySem.Spec PyProof.Rows L2
section
open Builtin
set_option maxRecDepth 100000
end
section
variable {X : Cx}
/-! ### a dict with one pair -/
/-! ### d.clear() -/
end
end DL

/-! `sorted(xs)` of a list of ints, of a dict with int keys: fewer than 64. -/
namespace DL
open PySem PySem.Spec PyProof.Rows L2
section
variable {X : Cx}
theorem vals_ints : ∀ {us : List Value} {ns : List Int}, IntsAre us ns → Vals (ns.map V.int) us
  | _, _, .nil => .nil
  | _, _, .cons n t h => .cons ⟨t, rfl⟩ (vals_ints h)
end
end DL

/-! d.setdefault(k, x) of a dict with int or text keys; == of tuples up to 190 deep. -/
namespace DL
open PySem PySem.Spec PyProof.Rows L2
section
variable {X : Cx} {n : Nat} {o e f : Expr} {apos cpos : Pos}
end
end DL

/-! min(a, b, c) of ints. -/
namespace DL
open PySem PySem.Spec PyProof.Rows L2
section
variable {X : Cx}
end
end DL

/-! xs[lo:hi:step] of a list. -/
namespace DL
open PySem PySem.Spec PyProof.Rows L2
section
variable {X : Cx} {e : Expr} {p2 pos : Pos} {lo hi : Option Expr} {se : Expr}
end
end DL

/-! dict(d); != of two dicts that hold the same. -/
namespace DL
open PySem PySem.Spec PyProof.Rows L2
section
variable {X : Cx} {k : Nat}
end
end DL

/-! Dicts whose keys are tuples of ints and texts. -/
namespace DL
open PySem PySem.Spec PyProof.Rows L2
section
variable {K : PySem.W.Frag} {M : DH} {H H' : Hp} {kvs : List (List Key × D)} {xs : List (List Key × Addr × Value)} {k : List Key}
end
section
variable {X : Cx} {pins : List (Addr × Obj)} {σ : St} {H : Hp} {s : Shared} {a b : Addr} {k : List Key} {kvs : List (List Key × D)} {xs : List (List Key × Addr × Value)}
end
section
variable {X : Cx} {a b o : Expr} {pos : Pos} {ta tb : TEd} {n : Nat}
end
end DL

/-! Comprehensions over a dict; == and != of lists of dicts that hold the same. -/
namespace DL
open PySem PySem.Spec PyProof.Rows L2
section
variable {X : Cx} {tg elt iter : Expr} {ifs : List Expr} {scope : Scope} {pos : Pos} {js : List (Option Nat)} {Nc : List Str} {cl : List (Str × Addr)}
end
/-! ### dicts with int keys are alike in every world -/
section
variable {X : Cx} {k : Nat}
theorem all_true (n : Nat) : (List.range n).all (fun _ => true) = true := by simp
end
end DL

/-! Texts: join, find; max of a list, with a default; comprehensions whose test makes things of its own. -/
namespace DL
open PySem PySem.Spec PyProof.Rows L2
section
variable {X : Cx}
def findD : D → List D → DH → KD → Prop
  | .str _, [.str _], M, Q => ∀ i : Int, Q (.int i) M
  | _, _, _, _ => False
theorem md_find : MtD X "str.find" findD := by
  intro pins s σ H vx vs v us Q I rx rs ⟨x, ds, M, Q', ix, iss, hm, q, hq⟩
  match x, ds, q, ix, iss with
  | .str a, [.str b], q, ix, iss =>
    (first | cases ix.inv | cases ix)
    obtain ⟨vy, rfl, iy⟩ := iss1 iss
    (first | cases iy.inv | cases iy)
    obtain ⟨t, rfl⟩ := rx
    obtain ⟨u, rfl, ru⟩ := vals1 rs
    obtain ⟨t', rfl⟩ := ru
    exact call_gives PySem.F.slot_str_find (typeIs_str _ _ _) PySem.F.entry_str_find (PySem.F.args_str_find_2 _ _) (gives_str_find a b t t') ⟨.int _, H, I.tok _, ⟨_, rfl⟩, hq.here hm (.int _) (q _)⟩
theorem strs_of {K : PySem.W.Frag} {H : Hp} : ∀ {ns : List Str} {vs : List V} {us : List Value}, Iss K H vs (ns.map D.str) → Vals vs us → StrsAre us ns
  | [], _, _, i, r => by cases i; cases r; exact .nil
  | n :: ns, _, _, i, r => by
    cases i with
    | cons i t => cases r with
      | cons r t' =>
        cases i.inv
        obtain ⟨tk, rfl⟩ := r
        exact .cons n tk (strs_of t t')
def joinD : D → List D → DH → KD → Prop
  | .str x, [.ref l], M, Q => ∃ ys : List Str, M l = some (.lst (ys.map .str)) ∧ (ys.map (·.length)).sum + ys.length * x.length ≤ 16777216 ∧ Q (.str (Txt.join x ys)) M
  | _, _, _, _ => False
theorem md_join : MtD X "str.join" joinD := by
  intro pins s σ H vx vs v us Q I rx rs ⟨x, ds, M, Q', ix, iss, hm, q, hq⟩
  match x, ds, q, ix, iss with
  | .str a, [.ref l], q, ix, iss =>
    (first | cases ix.inv | cases ix)
    obtain ⟨vy, rfl, iy⟩ := iss1 iss
    (first | cases iy.inv | cases iy)
    obtain ⟨t, rfl⟩ := rx
    obtain ⟨u, rfl, ru⟩ := vals1 rs
    cases ru
    obtain ⟨ys, hl, hz, q⟩ := q
    obtain ⟨xs, hx, hxs⟩ := hm.lst hl
    obtain ⟨its, r1, p1, _⟩ := I.list hx
    exact join_list p1.isList (by simpa using strs_of hxs r1) hz fun t' k => ⟨.str _, H, I.tok _, ⟨_, rfl⟩, hq.here hm (.str _) q⟩
end
/-! ### max(.., default=d) -/
section
variable {prog : Program} {w : World} {A : Around} {R : Result → Shared → Prop} {I : Addr} {fp wr : List Addr} {n : Nat} {P : Nat → Value → Prop} {St : Nat → Heap → Prop} {d : Value}
end
section
variable {X : Cx}
end
/-! ### a comprehension whose test makes things of its own -/
section
variable {X : Cx} {tg elt iter : Expr} {ifs : List Expr} {scope : Scope} {pos : Pos} {js : List (Option Nat)} {Nc : List Str} {cl : List (Str × Addr)}
end
end DL

/-! Own objects: attributes, methods, making one. -/
namespace DL
open PySem PySem.Spec PyProof.Rows L2
section
variable {K : PySem.W.Frag} {M : DH} {H H' : Hp} {fx : List (Str × V)} {fs : List (Str × D)} {f : Str} {a C dx : Addr}
theorem HAbs.made {x : Addr} (h : HAbs K M H) (nx : H x = none) (nd : H dx = none) (ne : dx ≠ x) : HAbs K (updM M x (.ins C dx [])) (upd (upd H dx (.own x)) x (.ins C dx [])) ∧ Ext K H (upd (upd H dx (.own x)) x (.ins C dx [])) := by
  have n1 : upd H dx (.own x) x = none := by rw [upd_ne (Ne.symm ne)]; exact nx
  refine ⟨(h.new nd).newM n1 (show MOk K _ x (.ins C dx []) from ⟨[], upd_same, by rw [upd_ne ne, upd_same], .nil⟩), (ext_new nd).trans (ext_new n1)⟩
end
section
variable {X : Cx} {e o value : Expr} {es : List Expr} {f m : Str} {pos pos' apos tpos : Pos} {te to tv : TEd} {t : TAd} {C : Addr} {k : Nat}
/-- a method's promise -/
structure FnM (P : Program) (w : World) (K : PySem.W.Frag) (mg : Str → Option Value) (base : Heap) (C : Addr) (k : Nat) (m : Str) (ps : List Str) (sp : SpD) : Prop where
  ex : ∃ f fd, FnOk P w K mg base CX0 k f fd ps (lowSp K sp) ∧ Meth K C m f ∧ Binds K fd ps []
theorem FnM.mono {P : Program} {w : World} {K : PySem.W.Frag} {mg : Str → Option Value} {base : Heap} {C : Addr} {j k : Nat} {m : Str} {ps : List Str} {sp : SpD} (F : FnM P w K mg base C j m ps sp) (h : j ≤ k) : FnM P w K mg base C k m ps sp :=
  let ⟨f, fd, a, b, c⟩ := F.ex; ⟨f, fd, a.mono h, b, c⟩
theorem FnM.imp {P : Program} {w : World} {K : PySem.W.Frag} {mg : Str → Option Value} {base : Heap} {C : Addr} {k : Nat} {m : Str} {ps : List Str} {sp sp' : SpD} (F : FnM P w K mg base C k m ps sp) (h : ∀ ds M Q, sp' ds M Q → sp ds M Q) : FnM P w K mg base C k m ps sp' :=
  let ⟨f, fd, a, b, c⟩ := F.ex; ⟨f, fd, a.imp (fun _ _ _ _ ⟨ds, M, Q', i, m, q, hq⟩ => ⟨ds, M, Q', i, m, h _ _ _ q, hq⟩), b, c⟩
end
/-! ### methods of the text -/
section
variable {P : Program} {w : World} {K : PySem.W.Frag} {mg : Str → Option Value} {base : Heap}
end
end DL

/-! Texts: str(n), int(text), startswith, slices by signs. -/
namespace DL
open PySem PySem.Spec PyProof.Rows L2
section
variable {X : Cx}
end
/-! ### by signs -/
def tx (cs : List Nat) : Str := ⟨cs.toArray⟩
end DL

/-! Methods that may raise; a text taken up to a thousand times. -/
namespace DL
open PySem PySem.Spec PyProof.Rows L2
structure FnME (P : Program) (w : World) (K : PySem.W.Frag) (mg : Str → Option Value) (base : Heap) (C : Addr) (k : Nat) (m : Str) (ps : List Str) (sp : SpE) : Prop where
  ex : ∃ f fd, FnOk P w K mg base (CXE P w) k f fd ps (lowSpE K sp) ∧ Meth K C m f ∧ Binds K fd ps []
theorem FnME.mono {P : Program} {w : World} {K : PySem.W.Frag} {mg : Str → Option Value} {base : Heap} {C : Addr} {j k : Nat} {m : Str} {ps : List Str} {sp : SpE} (F : FnME P w K mg base C j m ps sp) (h : j ≤ k) : FnME P w K mg base C k m ps sp :=
  let ⟨f, fd, a, b, c⟩ := F.ex; ⟨f, fd, a.mono h, b, c⟩
section
variable {P : Program} {w : World} {K : PySem.W.Frag} {mg : Str → Option Value} {base : Heap}
end
section
variable {X : Cx} {e o : Expr} {es : List Expr} {m : Str} {pos apos : Pos} {to : TEd} {t : TAd} {C : Addr} {k : Nat} {EX : DSt → Value → DH → Prop}
end
section
variable {X : Cx}
end
end DL

/-! Comprehensions over range whose element changes the heap; abs. -/
namespace DL
open PySem PySem.Spec PyProof.Rows L2
section
variable {X : Cx} {tg elt a : Expr} {scope : Scope} {pos p cpos : Pos} {js : List (Option Nat)} {Nc : List Str} {cl : List (Str × Addr)}
/-! ### abs -/
end
end DL

/-! name = [.. for k in range(n) ..], name = [.. for x in xs ..] where the elements keep the heap. -/
namespace DL
open PySem PySem.Spec PyProof.Rows L2
section
variable {X : Cx} {tg elt iter a : Expr} {ifs : List Expr} {scope : Scope} {pos p cpos : Pos} {js : List (Option Nat)} {Nc : List Str} {cl : List (Str × Addr)}
theorem ifs_v (hif : ∀ C s H fp, DIfs (compCx X Nc scope cl C s H fp) ifs ttd) (s0 : Shared) (H0 : Hp) : ∃ ttv : TT, (∀ C s H fp, PIfs (compCx X Nc scope cl C s H fp) ifs ttv) ∧ ∀ σ H R, lowT X.K ttd σ H R → ttv σ H R := by
  rcases hif 0 s0 H0 [] with ⟨e1, e2⟩ | ⟨c, e1, _⟩
  · subst e1 e2
    refine ⟨_, fun _ _ _ _ => .inl ⟨rfl, rfl⟩, fun σ H R zz => ?_⟩
    obtain ⟨τ, M, Q', _, hm, h, hq⟩ := zz
    exact hq true M H hm (Ext.refl H) h
  · subst e1
    refine ⟨lowT X.K ttd, fun C s H fp => ?_, fun σ H R h => h⟩
    rcases hif C s H fp with ⟨e1, _⟩ | ⟨c', e1, h⟩
    · cases e1
    · cases e1
      exact .inr ⟨c, rfl, h⟩
theorem s_setR {i : Nat} {y : Str} {py spos : Pos} {ta : TAd} {ted : TEd} {gd : TGd} {ttd : TTd} (hN : X.N.Nodup) (O : CompOk X Nc js scope cl) (hc : X.calm = true) (hmr : X.mg "range" = none) (ha : PA X [a] (lowA X.K ta)) (hg : ∀ C s H fp, PG (compCx X Nc scope cl C s H fp) tg (lowG X.K gd)) (hif : ∀ C s H fp, DIfs (compCx X Nc scope cl C s H fp) ifs ttd) (he : ∀ C s H fp, PE (compCx X Nc scope cl C s H fp) elt (low X.K ted))
    (hi : X.N[i]? = some y := by rfl) (hx : Loc X.env.scope y := by first | exact Or.inl rfl | exact Or.inr rfl) (hgl : Gl X "range" := by rfl) (hst : starEach [a] X.env = [(false, eval a X.env)] := by rfl) (hs : ∀ x, foldedSetIterable (.Call (.Name "range" p) [a] [] cpos) X.env x = pure x := by intro _; rfl)
    (hsw : swapsWith (.ListComp elt [⟨tg, .Call (.Name "range" p) [a] [] cpos, ifs, 0⟩] scope pos) (some (.Name y py)) spos.line X.env = pure true := by rfl) (hf : X.fn y = true ∨ X.env.scope.names.lookup y = some .local := by first | exact .inl rfl | exact .inr rfl | assumption) :
    PS X (.Assign [.Name y py] (.ListComp elt [⟨tg, .Call (.Name "range" p) [a] [] cpos, ifs, 0⟩] scope pos) spos) (lowS X.K (sAsg (eCompR ta gd ttd ted js) (hName i))) := by
  intro pins s0 σ0 H0 D0 I0 hw
  obtain ⟨ttv, hif', htt⟩ := ifs_v hif s0 H0
  refine ((ps_setC O hc hN hi hx (pi_range1 hgl hmr ha hst) hg hif' he hs hsw hf).imp (t' := lowS X.K (sAsg (eCompR ta gd ttd ted js) (hName i))) fun D σ H zz => ?_) pins s0 σ0 H0 D0 I0 hw
  obtain ⟨τ, M, D', hs, hm, h, hd⟩ := zz
  refine ⟨τ, M, _, hs, hm, h, fun ds M1 vs H1 m1 e1 i1 h1 => ?_⟩
  match ds, h1, i1 with
  | [.int j], h1, i1 =>
    obtain ⟨v, rfl, i⟩ := iss1 i1
    cases i.inv
    obtain ⟨⟨q1, q2⟩, w⟩ := h1
    exact ⟨j, rfl, q1, q2, low_comp (hs.mono e1) e1 m1 (fun x M1 v H1 m1 e1 i1 q => hd.nx _ M1 _ H1 ((hs.mono e1).set i1) m1 e1 q) htt (fun l M2 H2 m2 e2 _ _ => gives_r j.toNat) w⟩
end
end DL

/-! xs.reverse(), xs.pop(i). -/
namespace DL
open PySem PySem.Spec PyProof.Rows L2
section
variable {X : Cx}
end
end DL

/-! for a, b in zip(xs, ys) of two lists. -/
namespace DL
open PySem PySem.Spec PyProof.Rows L2
theorem Inv.turnedL {X : Cx} {pins : List (Addr × Obj)} {σ : St} {H : Hp} {s : Shared} {ch : List Addr} {h' : Heap} {t' : Nat} (I : Inv X pins σ H s) (k : ∀ b o, b ∉ ch → s.heap.get? b = some o → h'.get? b = some o) (hf : ∀ b ∈ ch, FpOk X pins H b) : Inv X pins σ H { s with heap := h', toks := t' } := by
  have nit : ∀ b u, H b = some u → b ∉ ch := fun b u e hb => by rw [(hf b hb).1] at e; cases e
  refine I.step (g' := s.gens) (d' := s.drawn) (ch := ch) (fun b hb => ⟨(hf b hb).2.2.2.1, (hf b hb).2.1, (hf b hb).2.2.2.2.1, (hf b hb).2.2.2.2.2⟩) (fun b o _ _ hc e _ => k b o hc e) (fun b o _ _ hc e _ => ⟨o.slots, k b o hc e⟩) (fun _ _ _ _ n => n) (fun b o hc e => ⟨o, k b o hc e⟩) (fun _ _ e => e) (fun _ _ _ e => e) (fun b ps e => ⟨#[], by rw [e]; simp⟩) (fun m hm => ?_) (fun b u e => ?_) I.bare
  · obtain ⟨o, es, ep, ho, r⟩ := hm
    exact ⟨o, es, ep, k _ o (fun z => (hf _ z).2.1 rfl) ho, r⟩
  · refine (I.hok b u e).stay (fun c v hc q => k c v ?_ q) (fun _ q => q) fun _ _ q => q
    rcases hc with z | z
    · rw [z]; exact nit b u e
    · exact nit c _ z
def Itz (K : PySem.W.Frag) (a b : Addr) : It :=
  ⟨fun i H => ∃ xs ys x y, SqL K H a xs ∧ SqL K H b ys ∧ xs[i]? = some x ∧ ys[i]? = some y,
   fun i H x H' => ∃ T, H T = none ∧ x = .ref T ∧ ∀ xs ys, SqL K H a xs → SqL K H b ys → ∃ u v, xs[i]? = some u ∧ ys[i]? = some v ∧ H' = upd H T (.tup [u, v]),
   fun i H => ∃ xs ys, SqL K H a xs ∧ SqL K H b ys ∧ (xs[i]? = none ∨ ys[i]? = none)⟩
theorem turn_zip {P : Program} {w : World} {K : PySem.W.Frag} {elts : List Expr} {k : Nat} {tpos : Pos} (a b z TI TO i1 i2 : Addr) (D : ZipApart z TI TO i1 i2 a b) : Turn P w K (.Tuple elts k tpos) (Itz K a b) [z, TI, TO, i1, i2] z
    (fun i h => IsZip h z TI TO .none ∧ IsPair h TI (.ref i1) (.ref i2) ∧ (∃ u v, IsPair h TO u v) ∧ h.IsListIter i1 a i ∧ h.IsListIter i2 b i) where
  mem := by simp
  obj := fun i h st x hx => by
    obtain ⟨s1, s2, ⟨u, v, s3⟩, ⟨o1, s4, _, d4⟩, ⟨o2, s5, _, d5⟩⟩ := st
    simp only [List.mem_cons, List.not_mem_nil, or_false] at hx
    rcases hx with rfl | rfl | rfl | rfl | rfl
    · exact ⟨_, s1, fun v z => by cases (show Data.fields _ = Data.cell v from z)⟩
    · exact ⟨_, s2, fun v z => by cases (show Data.seq _ _ = Data.cell v from z)⟩
    · exact ⟨_, s3, fun v z => by cases (show Data.seq _ _ = Data.cell v from z)⟩
    · exact ⟨_, s4, fun v z => by rw [d4] at z; cases z⟩
    · exact ⟨_, s5, fun v z => by rw [d5] at z; cases z⟩
  keep := fun i h h' st kp => by
    obtain ⟨s1, s2, ⟨u, v, s3⟩, ⟨o1, s4, r4⟩, ⟨o2, s5, r5⟩⟩ := st
    exact ⟨kp z (by simp) _ s1, kp TI (by simp) _ s2, ⟨u, v, kp TO (by simp) _ s3⟩, ⟨o1, kp i1 (by simp) _ s4, r4⟩, ⟨o2, kp i2 (by simp) _ s5, r5⟩⟩
  item := by
    intro X hP hw hK hc i pins s σ H E I hf st hg
    subst hP hw hK
    obtain ⟨xs, ys, x, y, hx, hy, ex, ey⟩ := hg
    obtain ⟨itx, rx, px, _⟩ := I.list hx
    obtain ⟨ity, ry, py, _⟩ := I.list hy
    obtain ⟨u, hu, ru⟩ := rx.get ex
    obtain ⟨v, hv, rv⟩ := ry.get ey
    obtain ⟨s1, s2, ⟨a0, b0, s3⟩, s4, s5⟩ := st
    refine wpAny_pyNext_zip_item D s1 s2 s3 s4 s5 px.isList py.isList (by simpa using hu) (by simpa using hv) fun h1 z1 t1 j1 j2 n1 sz1 k1 => ?_
    refine ⟨_, rfl, wpAny_letOwnedTupleGo_zip (s := { s with heap := h1 }) z1 fun h2 z2 sb => ?_⟩
    have hfr : H s.heap.objs.size = none := I.fresh
    have lt : ∀ c ∈ [z, TI, TO, i1, i2], c < s.heap.objs.size := fun c hc => by
      simp only [List.mem_cons, List.not_mem_nil, or_false] at hc
      rcases hc with rfl | rfl | rfl | rfl | rfl
      · exact Heap.lt_size s1
      · exact Heap.lt_size s2
      · exact Heap.lt_size s3
      · obtain ⟨o, e, _⟩ := s4; exact Heap.lt_size e
      · obtain ⟨o, e, _⟩ := s5; exact Heap.lt_size e
    have g2 : ∀ c o, c ≠ z → h1.get? c = some o → h2.get? c = some o := fun c o hc e => (sb.2 c hc).trans e
    have nz : s.heap.objs.size ≠ z := Nat.ne_of_gt (lt z (by simp))
    have I1 : Inv X pins σ (upd H s.heap.objs.size (.tup [x, y])) { s with heap := s.heap.push { cls := .type "tuple", data := .seq #[u, v] }, toks := s.toks } :=
      I.laid (t' := s.toks) (fun b o q => Heap.get?_push_of_some _ q) (Nat.le_refl _) (show ObjOk X.prog X.w _ _ _ (.tup [x, y]) from ⟨by show 2 ≤ sizeLine; decide, [u, v], .cons ru (.cons rv .nil), _, Heap.get?_push_size _ rfl, rfl, _, rfl⟩)
    have I2 : Inv X pins σ (upd H s.heap.objs.size (.tup [x, y])) { s with heap := h2, toks := s.toks } := by
      refine Inv.turnedL (s := { s with heap := s.heap.push { cls := .type "tuple", data := .seq #[u, v] }, toks := s.toks }) (h' := h2) (t' := s.toks) (ch := [z, TO, i1, i2]) I1 (fun b o hb q => ?_) fun b hb => ?_
      · simp only [List.mem_cons, List.not_mem_nil, or_false, not_or] at hb
        by_cases hbt : b = s.heap.objs.size
        · subst hbt
          have q' : (s.heap.push { cls := .type "tuple", data := .seq #[u, v] }).get? s.heap.objs.size = some o := q
          rw [Heap.get?_push_size _ rfl] at q'
          cases q'
          exact g2 _ _ nz n1
        · refine g2 b o hb.1 (k1 b o hb.1 hb.2.1 hb.2.2.1 hb.2.2.2 ?_)
          exact (Heap.get?_push_ne _ _ _ hbt).symm.trans q
      · have hb' : b ∈ [z, TI, TO, i1, i2] := by
          simp only [List.mem_cons, List.not_mem_nil, or_false] at hb ⊢
          rcases hb with h | h | h | h <;> simp [h]
        obtain ⟨f0, f1, f2, f3, f4, f5⟩ := hf b hb'
        exact ⟨by rw [upd_ne (Nat.ne_of_lt (lt b hb'))]; exact f0, f1, f2, f3, f4, f5⟩
    refine ⟨.ref s.heap.objs.size, _, I2, rfl, ⟨_, hfr, rfl, fun xs' ys' hx' hy' => ⟨x, y, by rw [I.list_inj hx' hx]; exact ex, by rw [I.list_inj hy' hy]; exact ey, rfl⟩⟩, ⟨z2, ?_, ⟨u, v, g2 _ _ D.TOz t1⟩, ?_, ?_⟩, fun b hb => ?_⟩
    · exact g2 _ _ D.TIz (k1 TI _ D.TIz D.TITO D.TIi1 D.TIi2 s2)
    · obtain ⟨o, e, r⟩ := j1; exact ⟨o, g2 _ _ D.i1z e, r⟩
    · obtain ⟨o, e, r⟩ := j2; exact ⟨o, g2 _ _ D.i2z e, r⟩
    · rw [upd_ne (Nat.ne_of_lt (lt b hb))]; exact (hf b hb).1
  done := by
    intro X hP hw hK hc i pins s σ H E I hf st hg
    subst hP hw hK
    obtain ⟨xs, ys, hx, hy, hn⟩ := hg
    obtain ⟨itx, rx, px, _⟩ := I.list hx
    obtain ⟨ity, ry, py, _⟩ := I.list hy
    obtain ⟨s1, s2, ⟨a0, b0, s3⟩, s4, s5⟩ := st
    refine wpAny_pyNext_zip_end (I.ok.hd hc) D s1 s2 s3 s4 s5 px.isList py.isList ?_ fun h' kp => ⟨rfl, Inv.turnedL (t' := s.toks) (ch := [z, TO, i1, i2]) I (fun b o hb q => ?_) fun b hb => hf b ?_⟩
    · rcases hn with hn | hn
      · exact .inl (by rw [List.getElem?_toArray]; rw [List.getElem?_eq_none_iff] at hn ⊢; rw [← rx.length]; exact hn)
      · exact .inr (by rw [List.getElem?_toArray]; rw [List.getElem?_eq_none_iff] at hn ⊢; rw [← ry.length]; exact hn)
    · simp only [List.mem_cons, List.not_mem_nil, or_false, not_or] at hb
      exact kp b o hb.1 hb.2.1 hb.2.2.1 hb.2.2.2 q
    · simp only [List.mem_cons, List.not_mem_nil, or_false] at hb ⊢
      rcases hb with h | h | h | h <;> simp [h]
  self := fun A i s Q E st h => wpAny_pyIter_zip st.1 h
section
variable {X : Cx} {elts : List Expr} {k : Nat} {tpos pos : Pos} {g : TGd} {tb : TSd}
def iZip (K : PySem.W.Frag) (ta : TA) : TI := fun σ H R => ta σ H fun vs H1 => ∃ a b, vs = [.ref a, .ref b] ∧ (∃ xs, SqL K H1 a xs) ∧ (∃ ys, SqL K H1 b ys) ∧ R (Itz K a b) H1
theorem pi_zip {a b : Expr} {ta : TA} {p cpos : Pos} (hg : Gl X "zip") (hm : X.mg "zip" = none) (ha : PA X [a, b] ta) (hs : starEach [a, b] X.env = (false, eval a X.env) :: starEach [b] X.env := by rfl) (hpl : (backTo cpos (starEach [b] X.env)).any (·.1) = false := by rfl) : PI X (.Tuple elts k tpos) (.Call (.Name "zip" p) [a, b] [] cpos) (iZip X.K ta) := by
  intro pins s σ H R I h
  refine Call_ (ld_blt I hg hm boot_zip (PyProof.Rows.callWith_type1 (thn (ha cpos pins s σ H _ I h) fun us s1 zz => ?_) hs hpl))
  obtain ⟨vs, H1, I1, r1, q1⟩ := zz
  obtain ⟨l1, l2, e, ⟨xs, hq1⟩, ⟨ys, hq2⟩, q⟩ := q1
  subst e
  obtain ⟨u, v, rfl, r, r'⟩ := vals2 r1
  cases r
  cases r'
  obtain ⟨itx, rx, px, _⟩ := I1.list hq1
  obtain ⟨ity, ry, py, _⟩ := I1.list hq2
  have lt1 : l1 < s1.heap.objs.size := by obtain ⟨_, e, _⟩ := px.isList; exact Heap.lt_size e
  have lt2 : l2 < s1.heap.objs.size := by obtain ⟨_, e, _⟩ := py.isList; exact Heap.lt_size e
  refine call_zip_2 px.isList py.isList fun h' z1 t1 t2 j1 j2 sz kp => wpAny_pyIter_zip (s := { s1 with heap := h' }) z1 ?_
  refine ⟨s1.heap.objs.size + 4, [s1.heap.objs.size + 4, s1.heap.objs.size + 2, s1.heap.objs.size + 3, s1.heap.objs.size, s1.heap.objs.size + 1], _, _, H1, rfl, I1.kept (t' := s1.toks) kp, turn_zip l1 l2 _ _ _ _ _ (zipApart_new lt1 lt2), ⟨z1, t1, ⟨_, _, t2⟩, j1, j2⟩, fun x hx => ?_, q⟩
  have hle : s1.heap.objs.size ≤ x := by
    simp only [List.mem_cons, List.not_mem_nil, or_false] at hx
    rcases hx with rfl | rfl | rfl | rfl | rfl <;> first | exact Nat.le_add_right _ _ | exact Nat.le_refl _
  exact I1.fpOk hle (I1.hok.fresh hle)
def zipL (xs ys : List D) : List D := (xs.zip ys).map fun p => .tup [p.1, p.2]
theorem zipL_get {xs ys : List D} {i : Nat} {a b : D} (h1 : xs[i]? = some a) (h2 : ys[i]? = some b) : (zipL xs ys)[i]? = some (.tup [a, b]) := by
  unfold zipL
  rw [List.getElem?_map, List.getElem?_zip_eq_some (z := (a, b)) |>.mpr ⟨h1, h2⟩]
  rfl
def forZD (g : TGd) (tb : TSd) (E : EndsD) (τ : DSt) : List D → DH → Prop
  | [.ref l, .ref m], M => ∃ xs ys, M l = some (.lst xs) ∧ M m = some (.lst ys) ∧ walkD (zipL xs ys) (fun M => M l = some (.lst xs) ∧ M m = some (.lst ys)) g tb E τ M
  | _, _ => False
def sForZ (ta : TAd) (g : TGd) (tb : TSd) : TSd := fun E τ M => ta τ M fun vs M1 => forZD g tb E τ vs M1
theorem zip_walk {K : PySem.W.Frag} {a b : Addr} {xs ys : List D} {D' : EndsD} {E : Ends} {τ : DSt} {σ : St} {M : DH} {H H1 : Hp} (hd : LowD K H D' E) (e1 : Ext K H H1) (s1 : SAbs K τ σ H1) (m1 : HAbs K M H1)
    (h : walkD (zipL xs ys) (fun M => M a = some (.lst xs) ∧ M b = some (.lst ys)) g tb D' τ M) :
    ∃ W : Nat → Nat → St → Hp → Prop, (∃ m, W 0 m σ H1) ∧ ∀ i m σ H, W i m σ H →
      ((Itz K a b).stop i H ∧ E.nx σ H) ∨ ((Itz K a b).go i H ∧ ∃ N : St → Hp → Prop, (∀ σ' H', N σ' H' → ∃ m', m' < m ∧ W (i + 1) m' σ' H') ∧ ∀ x H', (Itz K a b).yld i H x H' → lowG K g x σ H' fun σ2 H2 => lowS K tb { E with nx := N, ct := N, bk := E.nx } σ2 H2) := by
  obtain ⟨W, w0, stay, turn, done⟩ := h
  have hlen : (zipL xs ys).length = min xs.length ys.length := by unfold zipL; rw [List.length_map, List.length_zip]
  refine ⟨fun i m σ2 H2 => m = (zipL xs ys).length - i ∧ i ≤ (zipL xs ys).length ∧ ∃ τ2 M2, SAbs K τ2 σ2 H2 ∧ HAbs K M2 H2 ∧ Ext K H1 H2 ∧ W i τ2 M2, ⟨_, rfl, Nat.zero_le _, τ, M, s1, m1, Ext.refl H1, w0⟩, ?_⟩
  rintro i m σ2 H2 ⟨rfl, hi, τ2, M2, s2, m2, e2, w2⟩
  obtain ⟨hl1, hl2⟩ := stay i τ2 M2 hi w2
  obtain ⟨us, hu, iu⟩ := m2.lst hl1
  obtain ⟨vs, hv, iv⟩ := m2.lst hl2
  by_cases hlt : i < (zipL xs ys).length
  · have h1 : i < xs.length := by omega
    have h2 : i < ys.length := by omega
    obtain ⟨u, eu, ju⟩ := iu.get (List.getElem?_eq_getElem h1)
    obtain ⟨v, ev, jv⟩ := iv.get (List.getElem?_eq_getElem h2)
    refine .inr ⟨⟨us, vs, u, v, hu, hv, eu, ev⟩, fun σ3 H3 => ∃ τ3 M3, SAbs K τ3 σ3 H3 ∧ HAbs K M3 H3 ∧ Ext K H1 H3 ∧ W (i + 1) τ3 M3, fun σ3 H3 p => ⟨(zipL xs ys).length - (i + 1), by omega, rfl, hlt, p⟩, fun x H' y => ?_⟩
    obtain ⟨T, hT, rfl, hall⟩ := y
    obtain ⟨u', v', eu', ev', rfl⟩ := hall us vs hu hv
    rw [eu] at eu'
    rw [ev] at ev'
    cases eu'
    cases ev'
    exact low_turn (hd.ext e1) (e2.trans (ext_new hT)) (.tup (SqT.of upd_same) (.cons (ju.mono (ext_new hT)) (.cons (jv.mono (ext_new hT)) .nil))) (s2.mono (ext_new hT)) (m2.new hT) (turn i _ τ2 M2 (zipL_get (List.getElem?_eq_getElem h1) (List.getElem?_eq_getElem h2)) w2)
  · have e : i = (zipL xs ys).length := by omega
    subst e
    refine .inl ⟨⟨us, vs, hu, hv, ?_⟩, hd.nx τ2 M2 σ2 H2 s2 m2 (e1.trans e2) (done τ2 M2 w2)⟩
    rw [List.getElem?_eq_none_iff, List.getElem?_eq_none_iff, iu.length, iv.length, hlen]
    omega
theorem s_forZ {a b : Expr} {ta : TAd} {body : List Stmt} {p cpos : Pos} (hp : PassesOwn (model X.prog X.w) X.A X.env X.xe) (hc : X.calm = true) (hm : X.mg "zip" = none) (ha : PA X [a, b] (lowA X.K ta)) (hg : PG X (.Tuple elts k tpos) (lowG X.K g)) (hb : PSs X body (lowS X.K tb)) (hgl : Gl X "zip" := by rfl)
    (hst : starEach [a, b] X.env = (false, eval a X.env) :: starEach [b] X.env := by rfl) (hpl : (backTo cpos (starEach [b] X.env)).any (·.1) = false := by rfl) (hs : ∀ x, foldedSetIterable (.Call (.Name "zip" p) [a, b] [] cpos) X.env x = pure x := by intro _; rfl) : PS X (.For (.Tuple elts k tpos) (.Call (.Name "zip" p) [a, b] [] cpos) body [] pos) (lowS X.K (sForZ ta g tb)) :=
  (ps_for hp hc (pi_zip hgl hm ha hst hpl) hg hb hs).imp fun D σ H zz => by
    obtain ⟨τ, M, D', hs, hm, h, hd⟩ := zz
    refine ⟨τ, M, _, hs, hm, h, fun ds M1 vs H1 m1 e1 i1 h1 => ?_⟩
    match ds, h1, i1 with
    | [.ref l, .ref m], h1, i1 =>
      obtain ⟨v, v', rfl, i, i'⟩ := iss2 i1
      cases i.inv
      cases i'.inv
      obtain ⟨xs, ys, hl1, hl2, w⟩ := h1
      obtain ⟨us, hu, iu⟩ := m1.lst hl1
      obtain ⟨us', hu', iu'⟩ := m1.lst hl2
      exact ⟨l, m, rfl, ⟨us, hu⟩, ⟨us', hu'⟩, zip_walk hd e1 (hs.mono e1) m1 w⟩
end
end DL

/-! Comprehensions whose element is a call that may raise. -/
namespace DL
open PySem PySem.Spec PyProof.Rows L2

/-- an exception of the class cls lies at a, its traceback at T, with the mark fl -/
def TrM (h : Heap) (a T : Addr) (cls fl : Value) : Prop :=
  ∃ oe vs a0 oT ts, h.get? a = some oe ∧ (oe.cls = cls ∧ vs[0]? = some a0) ∧ oe.data = .fields vs ∧ vs[1]? = some (.ref T) ∧ T ≠ a ∧ h.get? T = some oT ∧ oT.data = .fields ts ∧ ts[3]? = some fl
/-- what this body wants of an exception that came out of a block of its own, whatever its mark -/
structure XHeld (X : Cx) (EX : Value → DH → Prop) : Prop where
  held : ∀ (pins : List (Addr × Obj)) (σ : St) (H : Hp) (s : Shared) (a T : Addr) (cls fl : Value) (M : DH), Inv X pins σ H s → (∀ b ∈ [a, T], X.s₀.heap.get? b = none ∧ H b = none) → TrM s.heap a T cls fl → HAbs X.K M H → EX cls M → X.xe (.ref a) s
section
variable {P : Program} {w : World} {K : PySem.W.Frag} {mg : Str → Option Value} {base : Heap} {N : List Str} {qual : Str} {scope : Scope} {f : Addr} {cd : Value} {A : Around} {outer : List Env} {s₀ : Shared} {H₀ : Hp} {E : XK} {EX : Value → DH → Prop}
theorem xheld_body (hE : ∀ cls M1 H1, HAbs K M1 H1 → Ext K H₀ H1 → EX cls M1 → E cls none H1) : XHeld (cxOf (CXE P w) P w K mg base N qual scope f cd A outer s₀ H₀ E) EX where
  held := fun pins σ H s a T cls fl M I new tr hm q => by
    obtain ⟨oe, vs, a0, oT, ts, t1, t2, t3, t4, t5, t6, t7, t8⟩ := tr
    have hq := hE cls M H hm (inv_ext I) q
    have hin : ∀ env ∈ (cxOf (CXE P w) P w K mg base N qual scope f cd A outer s₀ H₀ E).stack, ∀ b, env.frame = some b → b ∈ [a, T] ++ frs (cxOf (CXE P w) P w K mg base N qual scope f cd A outer s₀ H₀ E).stack := fun env he b hb => List.mem_append_right _ (List.mem_filterMap.mpr ⟨env, he, hb⟩)
    have fr := PySem.W.funFrames_hide I.stack hin
    have nT : (PySem.W.hideAll s.heap ([a, T] ++ frs (cxOf (CXE P w) P w K mg base N qual scope f cd A outer s₀ H₀ E).stack)).get? T = none := PySem.W.hideAll_none _ (by simp)
    have na : (PySem.W.hideAll s.heap ([a, T] ++ frs (cxOf (CXE P w) P w K mg base N qual scope f cd A outer s₀ H₀ E).stack)).get? a = none := PySem.W.hideAll_none _ (by simp)
    have st : (PySem.W.hideAll s.heap ([a, T] ++ frs (cxOf (CXE P w) P w K mg base N qual scope f cd A outer s₀ H₀ E).stack)).StaysIn s.heap := fun b o z => PySem.W.of_hideAll _ z
    have hn : a ∈ [a, T] := by simp
    show wpAny _ _ (leaving _ (.ref a)) _ _ s
    by_cases hfl : fl = rawInt s₀.heap.objs.size
    · subst hfl
      unfold leaving
      refine wpAny_bind (wpAny_noteFrame_againW (L := s₀.heap.objs.size) rfl ⟨oe, vs, T, oT, ts, t1, t2, t3, t4, nT, t5, t6, t7, t8⟩ ?_)
      refine wpAny_setFlight_noneW st fr ⟨oe, vs, T, oT, ts, t1, t2, t3, t4, nT, t5, t6, t7, t8⟩ fun h2 j1 j2 j3 j4 => ?_
      exact cxe_of (t' := s.toks) I rfl rfl new j1 (fun b o e d => ⟨o.slots, j4 b _ e d⟩) j3 (new a hn) hq
    · unfold leaving noteFrame
      obtain ⟨rfl, t0⟩ := t2
      have hL : (envOfC qual scope s₀.heap.objs.size f cd).frame = some s₀.heap.objs.size := rfl
      simp only [hL]
      refine wpAny_bind (wpAny_bind (wpAny_field t1 t3 t4 ?_))
      rw [if_pos (show (Value.ref T != Value.none) = true from by simp)]
      refine wpAny_bind (wpAny_field t6 t7 t8 ?_)
      rw [if_neg (show ¬ ((fl == rawInt s₀.heap.objs.size) = true) from fun z => hfl (eq_of_beq z))]
      refine wpAny_bind (wpAny_setField t6 t7 (Array.getElem?_eq_some_iff.mp t8).1 ?_)
      have oth : ∀ b, b ≠ T → (s.heap.update T (Obj.mapFields (·.setIfInBounds 3 Value.none))).get? b = s.heap.get? b := fun b hb => Heap.get?_update_other _ _ (Ne.symm hb)
      have rcd : ∀ b o, s.heap.get? b = some o → (∀ vs, o.data ≠ .fields vs) → b ≠ T := fun b o e d z => by
        subst z
        rw [t6] at e
        cases e
        exact d ts t7
      refine wpAny_newEntryW (base := PySem.W.hideAll s.heap ([a, T] ++ frs (cxOf (CXE P w) P w K mg base N qual scope f cd A outer s₀ H₀ E).stack)) (a0 := a0) I.ok.frames (fr.of_keeps fun b o e d => ⟨o, (oth b (rcd b o e d)).trans e, rfl⟩) rfl ((oth a (Ne.symm t5)).trans t1) (fun b o e => (oth b fun z => ?_).trans (st b o e)) na t3 (Array.getElem?_eq_some_iff.mp t4).1 t0 fun h' hL => ?_
      · subst z
        rw [nT] at e
        cases e
      · obtain ⟨k1, _, k3, k4⟩ := hL
        exact cxe_of (t' := s.toks) I rfl rfl new k1 (fun b o e d => k4 b o ((oth b (rcd b o e d)).trans e) d) k3 (new a hn) hq
end
section
variable {P : Program} {w : World} {K : PySem.W.Frag} {mg : Str → Option Value} {base : Heap}
theorem def_okC {x : Str} {st : Stmt} {N ps : List Str} {k : Nat} {sp : SpE} (T : Stands K mg x st ps) (S : FnScope N ps (defScope st)) (len : ∀ ds M Q E, sp ds M Q E → ds.length = ps.length)
    (hbody : ∀ (f : Addr) (cdv : Value) (A : Around) (outer : List Env) (s : Shared) (H : Hp) (E : XK) (EX : Value → DH → Prop), Room k (A.deeper (envOfC x (defScope st) s.heap.objs.size f cdv)) →
      XOk (cxOf (CXE P w) P w K mg base N x (defScope st) f cdv A outer s H E) (fun _ => EX) →
      XHeld (cxOf (CXE P w) P w K mg base N x (defScope st) f cdv A outer s H E) EX →
      PassesOwn (model P w) (A.deeper (envOfC x (defScope st) s.heap.objs.size f cdv)) (envOfC x (defScope st) s.heap.objs.size f cdv) (cxOf (CXE P w) P w K mg base N x (defScope st) f cdv A outer s H E).xe →
      ∃ t : TSd, PSs (cxOf (CXE P w) P w K mg base N x (defScope st) f cdv A outer s H E) (defBody st) (lowS K t) ∧ ∀ ds M Q, sp ds M Q EX → t (endsOf Q) (startD N ds) M) : FnE P w K mg base (k + 1) x ps sp := by
  obtain ⟨f, fd, F, hb, hm⟩ := T
  refine ⟨f, fd, ?_, hm, F.kp, hb⟩
  obtain ⟨oc, od, kV, doc, pm, an, cdv, ct, osl, rfl, lk, hcd⟩ := F.ex
  refine fn_of lk hcd S (fun vs H Q E h => ?_) fun A outer s H vs Q E hr h => ?_
  · obtain ⟨ds, M, Q', E', i, _, q, _⟩ := h
    rw [i.length]
    exact len _ _ _ _ q
  · obtain ⟨ds, M, Q', E', i, hm, q, hq, hE⟩ := h
    obtain ⟨t, h1, h2⟩ := hbody f cdv A outer s H E E' hr (xok_body hE) (xheld_body hE) passes_body
    refine ⟨_, h1, startD N ds, M, endsOf Q', start_abs i, hm, h2 _ _ _ q, ⟨?_, ?_, ?_, ?_⟩⟩
    · rintro τ M1 σ H1 s1 m1 e1 ⟨M0, sub, q0⟩
      exact hq _ M0 _ H1 (m1.sub sub) e1 .non q0
    · rintro d M1 v H1 m1 e1 i1 ⟨M0, sub, q0⟩
      exact hq d M0 v H1 (m1.sub sub) e1 i1 q0
    · intro τ M1 σ H1 _ _ _ q0; exact q0.elim
    · intro τ M1 σ H1 _ _ _ q0; exact q0.elim
end
/-- an exception has come into a comprehension's block with the names at C -/
def XIn (X : Cx) (pins : List (Addr × Obj)) (σ : St) (C : Addr) (EX : Value → DH → Prop) (e : Value) (s' : Shared) : Prop := ∃ a T cls H' M', e = .ref a ∧ Fly X pins σ H' s' a T cls ∧ FpOk X pins H' C ∧ (∃ m, s'.heap.Ns C m) ∧ HAbs X.K M' H' ∧ EX cls M'
section
variable {X : Cx} {pins : List (Addr × Obj)} {σ : St} {C : Addr} {EX : Value → DH → Prop} {e : Value} {s' : Shared}
theorem ns_fields {h : Heap} {C b : Addr} {m : Str → Option Value} {o : Obj} {vs : Array Value} (hn : h.Ns C m) (e : h.get? b = some o) (d : o.data = .fields vs) : b ≠ C := fun z => by
  obtain ⟨o', es, ep, ho, hd, _⟩ := hn
  subst z
  rw [ho] at e
  cases e
  rw [hd] at d
  cases d
theorem xin_noted {use : Option (Value → Sem Unit)} {Qf : Value → Shared → Prop} {acc : Value} {scope : Scope} {cl : List (Str × Addr)} (hx : XHeld X EX) (hex : X.ex = []) (hst : X.stack = X.env :: X.outer) (hf : X.env.frame = some X.env.locals) (h : XIn X pins σ C EX e s') :
    notedBy (model X.prog X.w) X.A (compEnvC scope cl C X.env) (fun e s => compPost (model X.prog X.w) X.A X.xe use Qf acc C (.error e) s) e s' := by
  obtain ⟨a, T, cls, H', M', rfl, F, fp, ⟨m, hn⟩, hm, q⟩ := h
  obtain ⟨a0, tr⟩ := F.traced
  show wpAny _ X.A (noteFrame (.ref a) X.env) _ _ s'
  refine wpAny_noteFrame_onW (outer := X.outer) (by rw [← hst]; exact F.inv.ok.frames) (F.frames hst) hf tr (fun b o z => PySem.W.of_hideAll _ z) (PySem.W.hideAll_none _ (by simp)) fun h1 hN => ?_
  obtain ⟨k1, k2, k3, k4⟩ := hN
  have I1 := Inv.flown (t' := s'.toks) F.inv hex hst F.new k1 k4
  have hn1 : h1.Ns C m := Heap.UpToSlots.ns k4 hn
  obtain ⟨oe, vs, T', oT, ts, e1, e2, e3, e4, e5, e6, e7, e8, e9⟩ := k3
  have newT : X.s₀.heap.get? T' = none ∧ H' T' = none := by
    cases g : s'.heap.get? T' with
    | none =>
      refine ⟨(Inv.nowhere F.inv hex g).1, ?_⟩
      cases g2 : H' T' with
      | none => rfl
      | some u =>
        obtain ⟨o, g1⟩ := (F.inv.hok T' u g2).got
        rw [g] at g1
        cases g1
    | some o =>
      by_cases hb : T' ∈ [a, T]
      · exact ⟨(F.new T' hb).1, (F.new T' hb).2.1⟩
      · by_cases hfr : T' ∈ frs X.stack
        · obtain ⟨_, o', g', d⟩ := F.inv.stack.mem hfr
          obtain ⟨sl, g2⟩ := k4 T' o' g' d
          rw [e7] at g2
          cases g2
          exact absurd e8 (d ts)
        · have z := PySem.W.hideAll_get ([a, T] ++ frs X.stack) g fun z => (List.mem_append.mp z).elim hb hfr
          rw [e5] at z
          cases z
  have main : ∃ m, h1.Ns C m ∧ ∀ h', Heap.SameBut C h1 h' → ∀ cenv : Env, cenv.locals = C → wpAny (model X.prog X.w) X.A (PySem.passOn "comprehension.variables-let-go" (.ref a) cenv : Sem Value) (fun _ _ => False) X.xe { s' with heap := h' } := by
    refine ⟨m, hn1, fun h' sb cenv _ => ?_⟩
    have aC := ns_fields hn1 e1 e3
    have tC := ns_fields hn1 e7 e8
    have e1' : h'.get? a = some oe := sb.extBut a oe aC e1
    have e7' : h'.get? T' = some oT := sb.extBut T' oT tC e7
    have I2 := I1.turned (t' := s'.toks) (it := C) (h' := h') (fun b o hb e => sb.extBut b o hb e) fp.1 fp.2.1 fp.2.2.2.1 fp.2.2.2.2.1 fp.2.2.2.2.2
    unfold PySem.passOn
    refine wpAny_bind (wpAny_field (s := { s' with heap := h' }) e1' e3 e4 ?_)
    rw [if_neg (show ¬ ((Value.ref T' == Value.none) = true) from by simp)]
    have step : wpAny (model X.prog X.w) X.A (do setFlight (.ref a) cenv.frame; throw (.ref a) : Sem Value) (fun _ _ => False) X.xe { s' with heap := h' } := by
      unfold setFlight
      refine wpAny_bind (wpAny_bind (wpAny_field (s := { s' with heap := h' }) e1' e3 e4 ?_))
      rw [if_pos (show (Value.ref T' != Value.none) = true from by simp)]
      refine wpAny_setField (s := { s' with heap := h' }) e7' e8 (Array.getElem?_eq_some_iff.mp e9).1 (wpAny_throw ?_)
      generalize hfl : (cenv.frame.elim Value.none fun f => rawInt f) = fl
      have oth : ∀ b, b ≠ T' → (h'.update T' (Obj.mapFields (·.setIfInBounds 3 fl))).get? b = h'.get? b := fun b hb => Heap.get?_update_other _ _ (Ne.symm hb)
      have I3 := Inv.flown (h' := h'.update T' (Obj.mapFields (·.setIfInBounds 3 fl))) (t' := s'.toks) (xs := [T']) I2 hex hst (fun b hb => ?_) (fun b o g => ?_) (fun b o g d => ?_)
      · exact hx.held pins σ H' _ a T' cls fl M' I3 (fun b hb => by
          simp only [List.mem_cons, List.not_mem_nil, or_false] at hb
          rcases hb with rfl | rfl
          · exact ⟨(F.new _ (by simp)).1, (F.new _ (by simp)).2.1⟩
          · exact newT) ⟨oe, vs, a0, _, _, (oth a (Ne.symm e6)).trans e1', e2, e3, e4, e6, Heap.get?_update_self _ e7' (Obj.isFreed_of_fields (Obj.data_mapFields e8 _)), Obj.data_mapFields e8 _, by simp [(Array.getElem?_eq_some_iff.mp e9).1]⟩ hm q
      · cases List.mem_singleton.mp hb
        have nl : T' ≠ X.env.locals := fun z => by
          obtain ⟨mm, hmm, _⟩ := I2.loc
          exact ns_fields hmm e7' e8 z
        refine ⟨newT.1, newT.2, nl, fun x c hc z => ?_, fun p hp z => ?_⟩
        · obtain ⟨v, o, ho, hd⟩ := I2.cell x c hc
          have ho' : h'.get? c = some o := ho
          rw [z, e7'] at ho'
          cases ho'
          rw [e8] at hd
          cases hd
        · by_cases hT : T' ∈ [a, T]
          · exact (F.new T' hT).2.2.2.2 p hp z
          · have g := (F.inv.pin p hp).1
            rw [z] at g
            have hfr : T' ∉ frs X.stack := fun y => by
              obtain ⟨_, o', g', d⟩ := F.inv.stack.mem y
              obtain ⟨sl, g2⟩ := k4 T' o' g' d
              rw [e7] at g2
              cases g2
              exact d ts e8
            have y := PySem.W.hideAll_get ([a, T] ++ frs X.stack) g fun y => (List.mem_append.mp y).elim hT hfr
            rw [e5] at y
            cases y
      · have g1 : h'.get? b = some o := PySem.W.of_hideAll _ g
        refine (oth b fun z => ?_).trans g1
        subst z
        rw [PySem.W.hideAll_none _ (by simp)] at g
        cases g
      · refine ⟨o.slots, (oth b fun z => ?_).trans g⟩
        subst z
        have g' : h'.get? b = some o := g
        rw [e7'] at g'
        cases g'
        exact d ts e8
    first
      | exact wpAny_bind (wpAny_pure step)
      | exact step
  cases use <;> exact main
end
section
variable {X : Cx} {tg elt iter : Expr} {scope : Scope} {pos : Pos} {wi : TI} {g : TG} {te : TE} {js : List (Option Nat)} {Nc : List Str} {cl : List (Str × Addr)} {EX : Value → DH → Prop}
theorem pe_compE (O : CompOk X Nc js scope cl) (hc : X.calm = true) (hx : XHeld X EX) (hex : X.ex = []) (hst : X.stack = X.env :: X.outer) (hf : X.env.frame = some X.env.locals) (hi : PI X tg iter wi)
    (hg : ∀ C s H fp E, PG ((compCx X Nc scope cl C s H fp).wish E) tg g) (he : ∀ C s H fp E, XCame ((compCx X Nc scope cl C s H fp).wish E) (fun _ => EX) → PE ((compCx X Nc scope cl C s H fp).wish E) elt te)
    (hs : ∀ x, foldedSetIterable iter X.env x = pure x := by intro _; rfl) : PE X (.ListComp elt [⟨tg, iter, [], 0⟩] scope pos) (tComp wi g (fun _ H Q => Q true H) te js) := by
  intro pins s σ H Q I h
  rw [eval_ListComp]
  refine wpAny_comprehension_free (use := none) rfl hs O.clos O.kind O.names (thn (hi pins s σ H _ I h) fun v s1 h1 => thn h1 fun itv s2 h2 => ?_)
  obtain ⟨it, fp, tn, J, H2, e, I2, T, st2, f2, q⟩ := h2
  subst e
  have hl : H2 s2.heap.objs.size = none := I2.hok.fresh (Nat.le_refl _)
  obtain ⟨W, ⟨m0, w0⟩, turn⟩ := q _ hl
  refine wpAny_newObj_type (wpAny_newFunctionEnv O.nocell (by intro y hy; simp at hy) (fun h₁ hns₁ hsb₁ => ?_) O.kind)
  dsimp only at hns₁ hsb₁ ⊢
  generalize hH2 : s2.heap.push { cls := .type "list", dict := none, data := .seq ([] : List Value).toArray } = G2 at hns₁ hsb₁ ⊢
  have hC : G2.objs.size = s2.heap.objs.size + 1 := by rw [← hH2, Heap.size_push]
  have hCle : s2.heap.objs.size ≤ G2.objs.size := by rw [hC]; exact Nat.le_succ _
  have below : ∀ b, b < s2.heap.objs.size → b ≠ G2.objs.size ∧ b ≠ s2.heap.objs.size := fun b hb => ⟨by rw [hC]; exact Nat.ne_of_lt (Nat.lt_succ_of_lt hb), Nat.ne_of_lt hb⟩
  have old : ∀ b o, s2.heap.get? b = some o → h₁.get? b = some o := fun b o e => hsb₁.extBut b o (below b (Heap.lt_size e)).1 (Heap.get?_push_of_some _ (hH2 ▸ Heap.get?_push_of_some _ e))
  have hDC : s2.heap.objs.size ≠ G2.objs.size := by rw [hC]; exact Nat.ne_of_lt (Nat.lt_succ_self _)
  have hacc : h₁.get? s2.heap.objs.size = some { cls := .type "list", dict := none, data := .seq ([] : List Value).toArray } := hsb₁.extBut _ _ hDC (Heap.get?_push_of_some _ (hH2 ▸ Heap.get?_push_size _ rfl))
  have hfp : ∀ b ∈ fp, b < s2.heap.objs.size := fun b hb => let ⟨o, e, _⟩ := T.obj _ _ st2 b hb; Heap.lt_size e
  have hCn : upd H2 s2.heap.objs.size (.lst []) G2.objs.size = none := by
    rw [upd_ne (Ne.symm hDC)]
    exact I2.hok.fresh hCle
  have I30 : Inv (compCx X Nc scope cl G2.objs.size s2 H2 fp) [] (pick js σ) (upd H2 s2.heap.objs.size (.lst [])) { s2 with heap := h₁, toks := s2.toks + ([] : List (Str × Value)).length } :=
    comp_start O I2 f2 (fun b hb => by rw [hC]; exact Nat.lt_succ_of_lt (hfp b hb)) hCle rfl I2.bare (Un.laid old (Nat.le_refl _) hl) hns₁ hCn (I2.hok.laid old (Nat.le_refl _) ⟨by simp, [], 0, .nil, hacc⟩) old
  generalize hXE : XIn X pins σ G2.objs.size EX = xe
  have I3 := I30.wish xe
  have back : ∀ {pins' : List (Addr × Obj)} {σ' : St} {H' : Hp} {s' : Shared}, Inv ((compCx X Nc scope cl G2.objs.size s2 H2 fp).wish xe) pins' σ' H' s' → Inv X pins σ H' s' := fun J => I2.call' J.os J.base J.hok J.bare fun b hb => ⟨(f2 b hb).2.2.2.1, (f2 b hb).2.1, (f2 b hb).2.2.2.2.1, (f2 b hb).2.2.2.2.2⟩
  have came : XCame ((compCx X Nc scope cl G2.objs.size s2 H2 fp).wish xe) (fun _ => EX) := ⟨fun pins' τ' σ' H' s' E1 e s'' J _ c hq => by
    obtain ⟨a, T', cls, H4, he, ho, hb, un, hok, na, nT, ta, tT, tr, hE1⟩ := c
    obtain ⟨M1, m1, q1⟩ := hq cls H4 hE1
    have J' : Inv ((compCx X Nc scope cl G2.objs.size s2 H2 fp).wish xe) pins' σ' H4 s'' := J.call' ho un hok hb (fun b z => absurd z (by simp))
    show xe e s''
    rw [← hXE]
    obtain ⟨mm, hmm, _⟩ := J'.loc
    refine ⟨a, T', cls, H4, M1, he, ⟨back J', fun b z => ?_, tr⟩, I2.fpOk hCle J'.free, ⟨mm, hmm⟩, m1, q1⟩
    simp only [List.mem_cons, List.not_mem_nil, or_false] at z
    rcases z with rfl | rfl
    · have y := Inv.nowhere (back J) hex na
      exact ⟨y.1, ta, y.2⟩
    · have y := Inv.nowhere (back J) hex nT
      exact ⟨y.1, tT, y.2⟩⟩
  have hE : ∀ {e : Value} {s' : Shared}, xe e s' → notedBy (model X.prog X.w) X.A (compEnvC scope cl G2.objs.size X.env) (fun e s => compPost (model X.prog X.w) X.A X.xe none (EP X pins σ Q) (.ref s2.heap.objs.size) G2.objs.size (.error e) s) e s' := fun z => xin_noted hx hex hst hf (by rw [hXE]; exact z)
  have st3 : tn 0 h₁ := T.keep _ _ _ st2 fun b hb o e => old b o e
  have nofp : ∀ b ∈ fp, upd H2 s2.heap.objs.size (.lst []) b = none := fun b hb => by rw [upd_ne (Nat.ne_of_lt (hfp b hb))]; exact (f2 b hb).1
  have stat : ∀ {H' : Hp}, (∀ b ∈ fp, H' b = none) → ∀ b ∈ fp, FpOk ((compCx X Nc scope cl G2.objs.size s2 H2 fp).wish xe) [] H' b := fun hn b hb =>
    ⟨hn b hb, Nat.ne_of_lt (by rw [hC]; exact Nat.lt_succ_of_lt (hfp b hb)), fun z => by
      rcases List.mem_cons.mp (I2.stkSub b z) with z | z
      · exact (f2 b hb).2.1 z
      · exact (f2 b hb).2.2.1 z, .inl hb, fun x c ec => (f2 b hb).2.2.2.2.1 x c (O.sub (x, c) (PySem.mem_of_lookup ec)), fun p hp => absurd (show p ∈ ([] : List (Addr × Obj)) from hp) (by simp)⟩
  have loop : ∀ s₃ : Shared, s₃ = { s2 with heap := h₁, toks := s2.toks + ([] : List (Str × Value)).length } →
      codeAny (model X.prog X.w) X.A (.compLoop (.ListComp elt [⟨tg, iter, [], 0⟩] scope pos) 0 (.ref it) (.ref s2.heap.objs.size) (compEnvC scope cl G2.objs.size X.env)) (compPost (model X.prog X.w) X.A X.xe none (EP X pins σ Q) (.ref s2.heap.objs.size) G2.objs.size) s₃ := by
    rintro s₃ rfl
    refine codeAny_loop rfl (fun n s' => ∃ i σ' H', Inv ((compCx X Nc scope cl G2.objs.size s2 H2 fp).wish xe) [] σ' H' s' ∧ tn i s'.heap ∧ (∀ b ∈ fp, H' b = none) ∧ W i n σ' H') ?_ m0 ⟨0, _, _, I3, st3, nofp, w0⟩
    rintro n s4 ⟨i, σ4, H4, I4, st4, fr4, w4⟩
    show wpAny _ X.A ((compTurn (.ListComp elt [⟨tg, iter, [], 0⟩] scope pos) 0 (.ref it) (.ref s2.heap.objs.size) (compEnvC scope cl G2.objs.size X.env)).onRaise (fun x => do noteFrame x (compEnvC scope cl G2.objs.size X.env); theTreesLotGoes x)) _ _ s4
    refine wpAny_noted ?_
    rw [compTurn_list]
    refine wpAny_bind (wpAny_standAt (wpAny_bind ?_))
    rcases turn i n σ4 H4 w4 with ⟨stop, qn⟩ | ⟨go, step⟩
    · refine thn (T.done ((compCx X Nc scope cl G2.objs.size s2 H2 fp).wish xe) rfl rfl rfl hc i [] s4 σ4 H4 _ I4 (stat fr4) st4 stop) fun r s5 ⟨hr, I5⟩ => ?_
      subst hr
      refine wpAny_pure ?_
      obtain ⟨m, hn, _⟩ := I5.loc
      have fpC := I2.fpOk hCle I5.free
      exact ⟨m, hn, fun h' hs' => ⟨.ref s2.heap.objs.size, H4, (back I5).turned (t' := s5.toks) (it := G2.objs.size) (fun b o hb e => hs'.extBut b o hb e) fpC.1 fpC.2.1 fpC.2.2.2.1 fpC.2.2.2.2.1 fpC.2.2.2.2.2, rfl, qn⟩⟩
    · refine thn (T.item ((compCx X Nc scope cl G2.objs.size s2 H2 fp).wish xe) rfl rfl rfl hc i [] s4 σ4 H4 _ I4 (stat fr4) st4 go) fun r s5 ⟨u, hr, h5⟩ => ?_
      subst hr
      refine wpAny_bind (thn h5 fun _ s6 ⟨x, H6, I6, r6, y6, st6, fr6⟩ => ?_)
      have I6' := I6.pinned (stat fr6) (T.obj _ _ st6)
      have again' : ∀ {s9 : Shared} {σ9 : St} {H9 : Hp}, Inv ((compCx X Nc scope cl G2.objs.size s2 H2 fp).wish xe) ([] ++ pinsAt fp s6.heap) σ9 H9 s9 → (∃ m', m' < n ∧ W (i + 1) m' σ9 H9) →
          ∃ m, m < n ∧ ∃ i σ' H', Inv ((compCx X Nc scope cl G2.objs.size s2 H2 fp).wish xe) [] σ' H' s9 ∧ tn i s9.heap ∧ (∀ b ∈ fp, H' b = none) ∧ W i m σ' H' := fun {s9 σ9 H9} I9 ⟨m', hm, w9⟩ => by
        refine ⟨m', hm, i + 1, σ9, H9, I9.unpinned, T.keep _ _ _ st6 fun b hb o e => (I9.pin (b, o) (List.mem_append_right _ (List.mem_append_right _ (mem_pinsAt hb e)))).1, fun b hb => ?_, w9⟩
        obtain ⟨o, e, d⟩ := T.obj _ _ st6 b hb
        exact (I9.pin (b, o) (List.mem_append_right _ (List.mem_append_right _ (mem_pinsAt hb e)))).2.1
      refine wpAny_bind (wpAny_mono (hg G2.objs.size s2 H2 fp xe _ s6 σ4 H6 x u _ I6' r6 (step x H6 y6)) (fun _ s7 ⟨σ7, H7, I7, q7⟩ => ?_) fun _ _ z => hE z)
      have q8 : te σ7 H7 fun y H6 => ∃ ys, H6 s2.heap.objs.size = some (.lst ys) ∧ ys.length < sizeLine ∧ ∃ m', m' < n ∧ W (i + 1) m' σ7 (upd H6 s2.heap.objs.size (.lst (ys ++ [y]))) := q7
      refine wpAny_bind (wpAny_tests_nil ?_)
      refine wpAny_bind (wpAny_bind (wpAny_mono (he G2.objs.size s2 H2 fp xe came _ s7 σ7 H7 _ I7 q8) (fun xv s9 ⟨y, H9, I9, r9, ys, hy, hlen, q9⟩ => ?_) fun _ _ z => hE z))
      refine wpAny_bind (wpAny_mono (mt_append (X := (compCx X Nc scope cl G2.objs.size s2 H2 fp).wish xe) _ s9 σ7 H9 (.ref s2.heap.objs.size) [y] (.ref s2.heap.objs.size) [xv] (fun v H' => ∃ m', m' < n ∧ W (i + 1) m' σ7 H') I9 rfl (.cons r9 .nil) ⟨_, ys, y, rfl, rfl, hy, hlen, q9⟩) (fun _ s10 ⟨v, H10, I10, _, q10⟩ => wpAny_pure (wpAny_pure ⟨rfl, again' I10 q10⟩)) fun _ _ z => hE z)
  exact codeAny_compStart_list (loop _ rfl) (T.self _ 0 _ _ _ st3 (loop _ rfl))
/-- the new list l is being built over the list at l0: W says what holds behind i turns, with the items so far; te may raise -/
def compLE (g : TGd) (te : TEd) (js : List (Option Nat)) (τ : DSt) : D → DH → KD → Prop
  | .ref l0, M, Q => ∃ ds, M l0 = some (.lst ds) ∧ ds.length ≤ 1000000 ∧ ∀ l, M l = none → ∃ W : Nat → List D → DH → Prop, W 0 [] (updM M l (.lst [])) ∧
      (∀ (i : Nat) xs M', W i xs M' → M' l0 = some (.lst ds)) ∧
      (∀ (i : Nat) d xs M', ds[i]? = some d → W i xs M' → xs.length = i ∧ g d (pick js τ) M' fun τ4 M4 => Fgt (pick js τ) τ4 ∧ te τ4 M4 fun y M6 => M6 l = some (.lst xs) ∧ W (i + 1) (xs ++ [y]) (updM M6 l (.lst (xs ++ [y])))) ∧
      ∀ xs M', W ds.length xs M' → Q (.ref l) M'
  | _, _, _ => False
def eCompLE (ti : TEd) (g : TGd) (te : TEd) (js : List (Option Nat)) : TEd := fun τ M Q => ti τ M fun x M1 => compLE g te js τ x M1 Q
theorem d_compLE {ti ted : TEd} {gd : TGd} (O : CompOk X Nc js scope cl) (hc : X.calm = true) (hx : XHeld X EX) (hex : X.ex = []) (hst : X.stack = X.env :: X.outer) (hf : X.env.frame = some X.env.locals) (hi : PE X iter (low X.K ti))
    (hg : ∀ C s H fp E, PG ((compCx X Nc scope cl C s H fp).wish E) tg (lowG X.K gd)) (he : ∀ C s H fp E, XCame ((compCx X Nc scope cl C s H fp).wish E) (fun _ => EX) → PE ((compCx X Nc scope cl C s H fp).wish E) elt (low X.K ted))
    (hs : ∀ x, foldedSetIterable iter X.env x = pure x := by intro _; rfl) : PE X (.ListComp elt [⟨tg, iter, [], 0⟩] scope pos) (low X.K (eCompLE ti gd ted js)) := by
  refine (pe_compE O hc hx hex hst hf (pi_any hi) hg he hs).imp fun σ H Q h => ?_
  obtain ⟨τ, M, Q', hs, hm, h, hq⟩ := h
  refine ⟨τ, M, _, hs, hm, h, fun x M1 v H1 m1 e1 i1 h1 => ?_⟩
  match x, h1, i1 with
  | .ref l0, h1, i1 =>
    cases i1.inv
    obtain ⟨ds, hl0, hz, w⟩ := h1
    obtain ⟨xs0, hx0, hxs0⟩ := m1 l0 _ hl0
    refine .inl ⟨l0, rfl, .inl ⟨⟨xs0, SqL.of hx0⟩, fun l hl => ?_⟩⟩
    obtain ⟨W, w0, kp, turn, done⟩ := w l (m1.free hl)
    refine ⟨fun i m σ2 H2 => ∃ xs M', m = ds.length - i ∧ i ≤ ds.length ∧ SAbs X.K (pick js τ) σ2 H2 ∧ HAbs X.K M' H2 ∧ Ext X.K H1 H2 ∧ W i xs M', ⟨ds.length, [], _, rfl, Nat.zero_le _, ((hs.mono e1).pick js).mono (ext_new hl), m1.newL hl .nil, ext_new hl, w0⟩, ?_⟩
    rintro i m σ2 H2 ⟨xs, M2, rfl, hi, s2, m2, e2, w2⟩
    obtain ⟨ys0, hy0, iy0⟩ := m2.lst (kp i xs M2 w2)
    have G := gives_list hy0 iy0
    by_cases hlt : i < ds.length
    · refine .inr ⟨G.go i hlt, fun x H3 y => ?_⟩
      obtain ⟨rfl, d, ed, id⟩ := G.yld i x H3 hlt y
      obtain ⟨hx, tn⟩ := turn i d xs M2 ed w2
      refine ⟨_, _, _, _, id, s2, m2, tn, fun τ4 M4 σ4 H4 s4 m4 e4 zz => ?_⟩
      obtain ⟨fg, q4⟩ := zz
      show if true = true then _ else _
      rw [if_pos rfl]
      refine ⟨τ4, M4, _, s4, m4, q4, fun y M6 v H6 m6 e6 i6 q6 => ?_⟩
      obtain ⟨hl6, w6⟩ := q6
      obtain ⟨ys, hy, iy⟩ := m6 l _ hl6
      obtain ⟨m7, e7⟩ := m6.setL hl6 hy (iy.append (.cons i6 .nil))
      have h3 : sizeLine = 16777216 := sizeLine_eq
      exact ⟨ys, hy, by rw [iy.length, hx]; omega, ds.length - (i + 1), by omega, xs ++ [y], _, rfl, hlt, ((s4.forget fg).mono e6).mono e7, m7, e2.trans (e4.trans (e6.trans e7)), w6⟩
    · have e : i = ds.length := by omega
      subst e
      exact .inl ⟨G.stop, hq _ _ _ _ m2 (e1.trans e2) (.ref l) (done _ _ w2)⟩
end
end DL

/-! != of tuples that hold lists, where both hold the same. -/
namespace DL
open PySem PySem.Spec PyProof.Rows L2
/-- surely equal: scalars, lists by their items, tuples by their parts -/
def SameD (M : DH) : Nat → D → D → Prop
  | 0, x, y => x = y ∧ x.plain = true
  | n + 1, x, y => (x = y ∧ x.plain = true) ∨ (∃ a, x = .ref a ∧ y = .ref a) ∨
      (∃ xs ys, x = .tup xs ∧ y = .tup ys ∧ xs.length = ys.length ∧ ∀ (j : Nat) d e, xs[j]? = some d → ys[j]? = some e → SameD M n d e) ∨
      ∃ a b xs ys, x = .ref a ∧ y = .ref b ∧ M a = some (.lst xs) ∧ M b = some (.lst ys) ∧ xs.length = ys.length ∧ ∀ (j : Nat) d e, xs[j]? = some d → ys[j]? = some e → SameD M n d e
section
variable {X : Cx} {k : Nat}
theorem plain_self {x : D} (h : x.plain = true) : D.eqOk x x = true ∧ D.dep x = 0 ∧ D.eq x x = true := by
  cases x <;> first | exact nof h | exact ⟨rfl, rfl, rfl⟩ | exact ⟨rfl, rfl, decide_eq_true rfl⟩
theorem items_same {pins : List (Addr × Obj)} {σ : St} {H : Hp} {s : Shared} {A : Around} {us ws : List V} {xs ys : List D} {its its2 : List Value} {R : D → D → Prop} (i1 : Iss X.K H us xs) (i2 : Iss X.K H ws ys) (r1 : Vals us its) (r2 : Vals ws its2) (hh : ∀ (j : Nat) d e, xs[j]? = some d → ys[j]? = some e → R d e)
    (at' : ∀ d e v v' u u', R d e → Is X.K H v d → Is X.K H v' e → RelV v u → RelV v' u' → SeqAt.EqAt A s u u' true) :
    ∀ j (h1 : j < its.toArray.size) (h2 : j < its2.toArray.size), SeqAt.EqAt A s its.toArray[j] its2.toArray[j] ((fun _ => true) j) := by
  intro j h1 h2
  have n1 : its.toArray.size = xs.length := by rw [List.size_toArray, ← r1.length, i1.length]
  have n2 : its2.toArray.size = ys.length := by rw [List.size_toArray, ← r2.length, i2.length]
  have q1 : xs[j]? = some xs[j] := List.getElem?_eq_getElem (by omega)
  have q2 : ys[j]? = some ys[j] := List.getElem?_eq_getElem (by omega)
  obtain ⟨x, ex, ix⟩ := i1.get q1
  obtain ⟨y, ey, iy⟩ := i2.get q2
  obtain ⟨ux, eu, ru⟩ := r1.get ex
  obtain ⟨uy, ew, rw'⟩ := r2.get ey
  have g1 : its.toArray[j] = ux := by
    have : its[j]? = some its[j] := List.getElem?_eq_getElem (by simpa using h1)
    rw [this] at eu; simpa using eu
  have g2 : its2.toArray[j] = uy := by
    have : its2[j]? = some its2[j] := List.getElem?_eq_getElem (by simpa using h2)
    rw [this] at ew; simpa using ew
  rw [g1, g2]
  exact at' _ _ x y ux uy (hh j _ _ q1 q2) ix iy ru rw'
theorem same_at {pins : List (Addr × Obj)} {σ : St} {H : Hp} {s : Shared} {M : DH} (I : Inv X pins σ H s) (hm : HAbs X.K M H) : ∀ (n : Nat) (d d' : D) (A : Around) (v v' : V) (u u' : Value), A.units + n < cLine → SameD M n d d' →
    Is X.K H v d → Is X.K H v' d' → RelV v u → RelV v' u' → SeqAt.EqAt A s u u' true := by
  intro n
  induction n with
  | zero =>
    intro d d' A v v' u u' hu hs i i' r r'
    obtain ⟨rfl, hp⟩ := hs
    obtain ⟨o1, o2, o3⟩ := plain_self hp
    have z := (eqAt_D I 0 d d A v v' u u' (by omega) hu o1 i i' r r').1
    rw [o3] at z
    exact z
  | succ n ih =>
    intro d d' A v v' u u' hu hs i i' r r'
    rcases hs with ⟨rfl, hp⟩ | ⟨a, rfl, rfl⟩ | ⟨xs, ys, rfl, rfl, hl, hh⟩ | ⟨a, b, xs, ys, rfl, rfl, ha, hb, hl, hh⟩
    · obtain ⟨o1, o2, o3⟩ := plain_self hp
      have z := (eqAt_D I 0 d d A v v' u u' (by omega) (by omega) o1 i i' r r').1
      rw [o3] at z
      exact z
    · cases i.inv
      cases i'.inv
      cases r
      cases r'
      exact SeqAt.EqAt.same _
    · cases i with
      | @tup a vs _ hx hxs => cases i' with
        | @tup b ws _ hy hys =>
          cases r
          cases r'
          obtain ⟨its, r1, p1, _⟩ := I.tuple hx
          obtain ⟨its2, r2, p2, _⟩ := I.tuple hy
          by_cases hab : a = b
          · subst hab
            exact SeqAt.EqAt.same _
          · refine SeqAt.EqAt.of_refs hab ?_
            have z := SeqAt.RcAt.tuples (e := fun _ => true) p1 p2 (by omega) (items_same (X := X) (pins := pins) (σ := σ) (A := A.in1) hxs hys r1 r2 hh fun d e v v' u u' h i i' r r' => ih d e A.in1 v v' u u' (by rw [in1_units]; omega) h i i' r r')
            have n1 : its.toArray.size = xs.length := by rw [List.size_toArray, ← r1.length, hxs.length]
            have n2 : its2.toArray.size = ys.length := by rw [List.size_toArray, ← r2.length, hys.length]
            rw [all_true, n1, n2, hl] at z
            simpa using z
    · cases i.inv
      cases i'.inv
      cases r
      cases r'
      by_cases hab : a = b
      · subst hab
        exact SeqAt.EqAt.same _
      · obtain ⟨us, hu1, i1⟩ := hm.lst ha
        obtain ⟨ws, hw, i2⟩ := hm.lst hb
        obtain ⟨its, r1, p1, _⟩ := I.list hu1
        obtain ⟨its2, r2, p2, _⟩ := I.list hw
        have n1 : its.toArray.size = xs.length := by rw [List.size_toArray, ← r1.length, i1.length]
        have n2 : its2.toArray.size = ys.length := by rw [List.size_toArray, ← r2.length, i2.length]
        refine SeqAt.EqAt.of_refs hab ?_
        have z := SeqAt.RcAt.lists (e := fun _ => true) p1.isList p2.isList (by rw [n1, n2, hl]) (by omega) (items_same (X := X) (pins := pins) (σ := σ) (A := A.in1) i1 i2 r1 r2 hh fun d e v v' u u' h i i' r r' => ih d e A.in1 v v' u u' (by rw [in1_units]; omega) h i i' r r')
        rw [all_true] at z
        exact z
def neSD : D → D → DH → KD → Prop
  | .tup xs, .tup ys, M, Q => xs.length = ys.length ∧ (∀ (j : Nat) d e, xs[j]? = some d → ys[j]? = some e → SameD M 20 d e) ∧ Q (.bl false) M
  | .ref l, .ref r, M, Q => ∃ xs ys, LstAt M l xs ∧ LstAt M r ys ∧ D.eqOks xs ys = true ∧ D.deps xs ≤ 150 ∧ Q (.bl (!D.eqs xs ys)) M
  | _, _, _, _ => False
theorem od_neS (hk1 : Room (k + 1) X.A) : OpD X (compareOp .NotEq) neSD := by
  intro pins s σ H vx vy v u Q I rx ry ⟨x, y, M, Q', ix, iy, hm, q, hq⟩
  have hr := hk1.mono (Nat.le_succ k)
  have hu : X.A.units + 200 < cLine := by have := hr.un; omega
  by_cases ht : ∃ xs ys, x = .tup xs ∧ y = .tup ys
  · obtain ⟨xs, ys, rfl, rfl⟩ := ht
    obtain ⟨hl, hh, q⟩ := q
    cases ix with
    | @tup a vs _ hx hxs => cases iy with
      | @tup b ws _ hy hys =>
        cases rx
        cases ry
        obtain ⟨its, r1, p1, _⟩ := I.tuple hx
        obtain ⟨its2, r2, p2, _⟩ := I.tuple hy
        have n1 : its.toArray.size = xs.length := by rw [List.size_toArray, ← r1.length, hxs.length]
        have n2 : its2.toArray.size = ys.length := by rw [List.size_toArray, ← r2.length, hys.length]
        refine SeqAt.RcNeAt.tuples (e := fun _ => true) p1 p2 (by omega) (items_same (X := X) (pins := pins) (σ := σ) (A := X.A.in1) hxs hys r1 r2 hh fun d e v v' u u' h i i' r r' => same_at I hm 20 d e X.A.in1 v v' u u' (by rw [in1_units]; omega) h i i' r r') _ _ _ _ ⟨.bl _, H, I, rfl, hq.here hm (.bl _) ?_⟩
        rw [all_true, n1, n2, hl]
        simpa using q
  · refine od_neX hk1 pins s σ H vx vy v u Q I rx ry ⟨x, y, M, Q', ix, iy, hm, ?_, hq⟩
    cases x <;> cases y <;> first | exact q | exact q.elim | exact absurd ⟨_, _, rfl, rfl⟩ ht
end
end DL

namespace Law
open PySem PySem.Spec PyProof.Rows L2 DL

def top (i : Nat) : Stmt := PySem.Challenge.pw_commonform_k37_papers_walked.main.body.getD i (.Pass ⟨0, 0, 0, 0⟩)
abbrev s_parts_of : Stmt := top 6
theorem sc_parts_of : FnScope ["tree"] ["tree"] (defScope s_parts_of) := ⟨rfl, rfl, rfl, by decide +kernel, rfl, by decide +kernel, by decide +kernel⟩
abbrev s_gather_blanks : Stmt := top 7
theorem sc_gather_blanks : FnScope ["tree", "found", "part"] ["tree", "found"] (defScope s_gather_blanks) := ⟨rfl, rfl, rfl, by decide +kernel, rfl, by decide +kernel, by decide +kernel⟩
abbrev s_blanks_of : Stmt := top 8
theorem sc_blanks_of : FnScope ["tree", "found"] ["tree"] (defScope s_blanks_of) := ⟨rfl, rfl, rfl, by decide +kernel, rfl, by decide +kernel, by decide +kernel⟩
abbrev s_same_head : Stmt := top 10
theorem sc_same_head : FnScope ["one", "other"] ["one", "other"] (defScope s_same_head) := ⟨rfl, rfl, rfl, by decide +kernel, rfl, by decide +kernel, by decide +kernel⟩
abbrev s_unlike_blocks : Stmt := top 12
theorem sc_unlike_blocks : FnScope ["one", "other"] ["one", "other"] (defScope s_unlike_blocks) := ⟨rfl, rfl, rfl, by decide +kernel, rfl, by decide +kernel, by decide +kernel⟩
abbrev s_likeness_at : Stmt := top 13
theorem sc_likeness_at : FnScope ["likenesses", "number"] ["likenesses", "number"] (defScope s_likeness_at) := ⟨rfl, rfl, rfl, by decide +kernel, rfl, by decide +kernel, by decide +kernel⟩
abbrev s_parts_likeness : Stmt := top 14
theorem sc_parts_likeness : FnScope ["likeness", "number", "left", "right"] ["likeness", "number"] (defScope s_parts_likeness) := ⟨rfl, rfl, rfl, by decide +kernel, rfl, by decide +kernel, by decide +kernel⟩
abbrev s_linked_likeness : Stmt := top 15
theorem sc_linked_likeness : FnScope ["first", "second"] ["first", "second"] (defScope s_linked_likeness) := ⟨rfl, rfl, rfl, by decide +kernel, rfl, by decide +kernel, by decide +kernel⟩
abbrev s_likeness_by : Stmt := top 16
theorem sc_likeness_by : FnScope ["step", "likenesses", "word", "first"] ["step", "likenesses"] (defScope s_likeness_by) := ⟨rfl, rfl, rfl, by decide +kernel, rfl, by decide +kernel, by decide +kernel⟩
abbrev s_refuse_loose_row : Stmt := top 17
theorem sc_refuse_loose_row : FnScope ["row", "likeness", "following"] ["row"] (defScope s_refuse_loose_row) := ⟨rfl, rfl, rfl, by decide +kernel, rfl, by decide +kernel, by decide +kernel⟩
abbrev s_refuse_loose_end : Stmt := top 18
theorem sc_refuse_loose_end : FnScope ["end", "likenesses", "likeness"] ["end", "likenesses"] (defScope s_refuse_loose_end) := ⟨rfl, rfl, rfl, by decide +kernel, rfl, by decide +kernel, by decide +kernel⟩
abbrev s_walked : Stmt := top 19
theorem sc_walked : FnScope ["one", "other", "paper", "likenesses", "step"] ["one", "other", "paper"] (defScope s_walked) := ⟨rfl, rfl, rfl, by decide +kernel, rfl, by decide +kernel, by decide +kernel⟩
abbrev s__law_cell_at : Stmt := top 21
theorem sc__law_cell_at : FnScope ["script", "k"] ["script", "k"] (defScope s__law_cell_at) := ⟨rfl, rfl, rfl, by decide +kernel, rfl, by decide +kernel, by decide +kernel⟩
abbrev s__law_stream : Stmt := top 22
theorem sc__law_stream : FnScope ["cell", "many", "found", "x", "k"] ["cell", "many"] (defScope s__law_stream) := ⟨rfl, rfl, rfl, by decide +kernel, rfl, by decide +kernel, by decide +kernel⟩
abbrev s__law_names : Stmt := top 23
theorem sc__law_names : FnScope ["cell", "some", "xs", "base", "at", "sign", "other"] ["cell"] (defScope s__law_names) := ⟨rfl, rfl, rfl, by decide +kernel, rfl, by decide +kernel, by decide +kernel⟩
abbrev s__law_number : Stmt := top 24
theorem sc__law_number : FnScope ["cell", "k", "low"] ["cell", "k"] (defScope s__law_number) := ⟨rfl, rfl, rfl, by decide +kernel, rfl, by decide +kernel, by decide +kernel⟩
abbrev s__law_grow : Stmt := top 25
theorem sc__law_grow : FnScope ["cells", "at", "deep", "names", "first", "xs", "parts", "k", "part"] ["cells", "at", "deep", "names", "first"] (defScope s__law_grow) := ⟨rfl, rfl, rfl, by decide +kernel, rfl, by decide +kernel, by decide +kernel⟩
abbrev s__law_changed : Stmt := top 27
theorem sc__law_changed : FnScope ["tree", "xs", "at", "small", "turn", "parts", "old", "part"] ["tree", "xs", "at", "small"] (defScope s__law_changed) := ⟨rfl, rfl, rfl, by decide +kernel, rfl, by decide +kernel, by decide +kernel⟩
abbrev s__law_blanks : Stmt := top 31
theorem sc__law_blanks : FnScope ["tree", "found", "part"] ["tree"] (defScope s__law_blanks) := ⟨rfl, rfl, rfl, by decide +kernel, rfl, by decide +kernel, by decide +kernel⟩
abbrev s__law_pair : Stmt := top 33
theorem sc__law_pair : FnScope ["script", "names", "first", "one", "xs", "small"] ["script"] (defScope s__law_pair) := ⟨rfl, rfl, rfl, by decide +kernel, rfl, by decide +kernel, by decide +kernel⟩
abbrev s__law_same : Stmt := top 34
theorem sc__law_same : FnScope ["pair", "left", "right"] ["pair"] (defScope s__law_same) := ⟨rfl, rfl, rfl, by decide +kernel, rfl, by decide +kernel, by decide +kernel⟩
abbrev s__law_step : Stmt := top 35
theorem sc__law_step : FnScope ["pairs", "xs", "e", "pair", "k", "meeting", "f"] ["pairs", "xs"] (defScope s__law_step) := ⟨rfl, rfl, rfl, by decide +kernel, rfl, by decide +kernel, by decide +kernel⟩
abbrev s__law_end : Stmt := top 36
theorem sc__law_end : FnScope ["pairs", "xs", "unlike", "within", "e", "left", "right"] ["pairs", "xs"] (defScope s__law_end) := ⟨rfl, rfl, rfl, by decide +kernel, rfl, by decide +kernel, by decide +kernel⟩
abbrev s__law_bad_step : Stmt := top 37
theorem sc__law_bad_step : FnScope ["pairs", "xs", "t", "e", "some", "f", "side"] ["pairs", "xs"] (defScope s__law_bad_step) := ⟨rfl, rfl, rfl, by decide +kernel, rfl, by decide +kernel, by decide +kernel⟩
abbrev s__law_bad_end : Stmt := top 38
theorem sc__law_bad_end : FnScope ["pairs", "xs", "some", "e", "left", "right"] ["pairs", "xs"] (defScope s__law_bad_end) := ⟨rfl, rfl, rfl, by decide +kernel, rfl, by decide +kernel, by decide +kernel⟩
abbrev s__law_bad : Stmt := top 39
theorem sc__law_bad : FnScope ["steps", "pairs", "end", "xs", "t"] ["steps", "pairs", "end", "xs"] (defScope s__law_bad) := ⟨rfl, rfl, rfl, by decide +kernel, rfl, by decide +kernel, by decide +kernel⟩
abbrev s__law_refused : Stmt := top 40
theorem sc__law_refused : FnScope ["one", "other", "paper", "word", "e"] ["one", "other", "paper"] (defScope s__law_refused) := ⟨rfl, rfl, rfl, by decide +kernel, rfl, by decide +kernel, by decide +kernel⟩
abbrev s__law_refused_by_base : Stmt := top 41
theorem sc__law_refused_by_base : FnScope ["one", "other", "paper", "word", "e"] ["one", "other", "paper"] (defScope s__law_refused_by_base) := ⟨rfl, rfl, rfl, by decide +kernel, rfl, by decide +kernel, by decide +kernel⟩
abbrev s_law : Stmt := top 42
theorem sc_law : FnScope ["script", "one", "other", "pairs", "steps", "cell", "step", "pair", "xs", "end", "good", "handed", "found", "bad"] ["script"] (defScope s_law) := ⟨rfl, rfl, rfl, by decide +kernel, rfl, by decide +kernel, by decide +kernel⟩
theorem allZ {C : List Value → Prop} (h : C []) : ∀ us : List Value, us.length = 0 → C us := fun us e => by rw [List.length_eq_zero_iff.mp e]; exact h
theorem allS {C : List Value → Prop} {n : Nat} (h : ∀ a, ∀ us : List Value, us.length = n → C (a :: us)) : ∀ us : List Value, us.length = n + 1 → C us
  | a :: us, e => h a us (Nat.succ.inj e)
theorem allN1 {C : List Value → Prop} (h : ∀ a0, C [a0]) : ∀ us : List Value, us.length = 1 → C us := allS fun a0 => allZ (h a0)
theorem allN2 {C : List Value → Prop} (h : ∀ a0 a1, C [a0, a1]) : ∀ us : List Value, us.length = 2 → C us := allS fun a0 => allS fun a1 => allZ (h a0 a1)
theorem allN3 {C : List Value → Prop} (h : ∀ a0 a1 a2, C [a0, a1, a2]) : ∀ us : List Value, us.length = 3 → C us := allS fun a0 => allS fun a1 => allS fun a2 => allZ (h a0 a1 a2)
theorem allN4 {C : List Value → Prop} (h : ∀ a0 a1 a2 a3, C [a0, a1, a2, a3]) : ∀ us : List Value, us.length = 4 → C us := allS fun a0 => allS fun a1 => allS fun a2 => allS fun a3 => allZ (h a0 a1 a2 a3)
theorem allN5 {C : List Value → Prop} (h : ∀ a0 a1 a2 a3 a4, C [a0, a1, a2, a3, a4]) : ∀ us : List Value, us.length = 5 → C us := allS fun a0 => allS fun a1 => allS fun a2 => allS fun a3 => allS fun a4 => allZ (h a0 a1 a2 a3 a4)
structure Txt (K : PySem.W.Frag) (mg : Str → Option Value) : Prop where
  f_parts_of : Stands K mg "parts_of" s_parts_of ["tree"]
  f_gather_blanks : Stands K mg "gather_blanks" s_gather_blanks ["tree", "found"]
  f_blanks_of : Stands K mg "blanks_of" s_blanks_of ["tree"]
  f_same_head : Stands K mg "same_head" s_same_head ["one", "other"]
  f_unlike_blocks : Stands K mg "unlike_blocks" s_unlike_blocks ["one", "other"]
  f_likeness_at : Stands K mg "likeness_at" s_likeness_at ["likenesses", "number"]
  f_parts_likeness : Stands K mg "parts_likeness" s_parts_likeness ["likeness", "number"]
  f_linked_likeness : Stands K mg "linked_likeness" s_linked_likeness ["first", "second"]
  f_likeness_by : Stands K mg "likeness_by" s_likeness_by ["step", "likenesses"]
  f_refuse_loose_row : Stands K mg "refuse_loose_row" s_refuse_loose_row ["row"]
  f_refuse_loose_end : Stands K mg "refuse_loose_end" s_refuse_loose_end ["end", "likenesses"]
  f_walked : Stands K mg "walked" s_walked ["one", "other", "paper"]
  f__law_cell_at : Stands K mg "_law_cell_at" s__law_cell_at ["script", "k"]
  f__law_stream : Stands K mg "_law_stream" s__law_stream ["cell", "many"]
  f__law_names : Stands K mg "_law_names" s__law_names ["cell"]
  f__law_number : Stands K mg "_law_number" s__law_number ["cell", "k"]
  f__law_grow : Stands K mg "_law_grow" s__law_grow ["cells", "at", "deep", "names", "first"]
  f__law_changed : Stands K mg "_law_changed" s__law_changed ["tree", "xs", "at", "small"]
  f__law_blanks : Stands K mg "_law_blanks" s__law_blanks ["tree"]
  f__law_pair : Stands K mg "_law_pair" s__law_pair ["script"]
  f__law_same : Stands K mg "_law_same" s__law_same ["pair"]
  f__law_step : Stands K mg "_law_step" s__law_step ["pairs", "xs"]
  f__law_end : Stands K mg "_law_end" s__law_end ["pairs", "xs"]
  f__law_bad_step : Stands K mg "_law_bad_step" s__law_bad_step ["pairs", "xs"]
  f__law_bad_end : Stands K mg "_law_bad_end" s__law_bad_end ["pairs", "xs"]
  f__law_bad : Stands K mg "_law_bad" s__law_bad ["steps", "pairs", "end", "xs"]
  f__law_refused : Stands K mg "_law_refused" s__law_refused ["one", "other", "paper"]
  f__law_refused_by_base : Stands K mg "_law_refused_by_base" s__law_refused_by_base ["one", "other", "paper"]
  m_ValueError : mg "ValueError" = none
  m_int : mg "int" = none
  m_isinstance : mg "isinstance" = none
  m_len : mg "len" = none
  m_list : mg "list" = none
  m_range : mg "range" = none
  m_tuple : mg "tuple" = none
  m_zip : mg "zip" = none
  n_FormError : mg "FormError" = some (.ref (cl mg "FormError"))
  n_BadText : mg "BadText" = some (.ref (cl mg "BadText"))
  n_TooLong : mg "TooLong" = some (.ref (cl mg "TooLong"))
  n_BadPaper : mg "BadPaper" = some (.ref (cl mg "BadPaper"))
  xc : XTab K [cl mg "FormError", cl mg "BadText", cl mg "TooLong", cl mg "BadPaper"] [[true, false, false, false], [true, true, false, false], [true, false, true, false], [true, false, false, true]]
section
variable {K : PySem.W.Frag} {mg : Str → Option Value}
theorem xc_FormError (T : Txt K mg) : XC K mg "FormError" (cl mg "FormError") := ⟨T.n_FormError, T.xc.ow _ (by simp)⟩
theorem xc_BadText (T : Txt K mg) : XC K mg "BadText" (cl mg "BadText") := ⟨T.n_BadText, T.xc.ow _ (by simp)⟩
theorem xc_TooLong (T : Txt K mg) : XC K mg "TooLong" (cl mg "TooLong") := ⟨T.n_TooLong, T.xc.ow _ (by simp)⟩
theorem xc_BadPaper (T : Txt K mg) : XC K mg "BadPaper" (cl mg "BadPaper") := ⟨T.n_BadPaper, T.xc.ow _ (by simp)⟩
theorem xcl_BadPaper (T : Txt K mg) : XCl K (cl mg "BadPaper") := T.xc.xcl 3 rfl
theorem vee_BadPaper (T : Txt K mg) : PySem.W.kitOne K (.ref (cl mg "BadPaper")) (.type "ValueError") = some true := T.xc.vee 3 rfl
theorem isa_BadPaper_FormError (T : Txt K mg) : IsA K (cl mg "BadPaper") (cl mg "FormError") true := T.xc.isa 3 0 rfl rfl rfl rfl
theorem kit_BadPaper_BadText (T : Txt K mg) : PySem.W.kitOne K (.ref (cl mg "BadPaper")) (.ref (cl mg "BadText")) = some false := T.xc.kit 3 1 rfl rfl rfl rfl
theorem kit_BadPaper_TooLong (T : Txt K mg) : PySem.W.kitOne K (.ref (cl mg "BadPaper")) (.ref (cl mg "TooLong")) = some false := T.xc.kit 3 2 rfl rfl rfl rfl
theorem isa_BadPaper_BadPaper (T : Txt K mg) : IsA K (cl mg "BadPaper") (cl mg "BadPaper") true := T.xc.isa 3 3 rfl rfl rfl rfl
end
section
variable {P : Program} {w : World} {K : PySem.W.Frag} {mg : Str → Option Value} {base : Heap}
-- DICTS gather_blanks.found blanks_of.found refuse_loose_end#E law!=S
-- RAISES likeness_at parts_likeness linked_likeness likeness_by refuse_loose_row refuse_loose_end walked
def kLaw : Nat := 190
theorem rt_done {Q : KD} {d : D} {M : DH} (q : Q d M) : (endsOf Q).rt d M := ⟨M, Sub.refl M, q⟩
/-! ### trees -/
inductive Tree where
  | block (n : Str) (ps : List Tree)
  | blank (k : Int)
mutual
def Tree.d : Tree → D
  | .block n ps => .tup [.str "block", .str n, .tup (Tree.ds ps)]
  | .blank k => .tup [.str "blank", .int k]
def Tree.ds : List Tree → List D
  | [] => []
  | t :: ts => t.d :: Tree.ds ts
end
mutual
def Tree.knots : Tree → Nat
  | .block _ ps => Tree.knotss ps + 1
  | .blank _ => 1
def Tree.knotss : List Tree → Nat
  | [] => 0
  | t :: ts => t.knots + Tree.knotss ts
end
mutual
def Tree.depth : Tree → Nat
  | .block _ ps => Tree.depths ps + 1
  | .blank _ => 1
def Tree.depths : List Tree → Nat
  | [] => 0
  | t :: ts => max t.depth (Tree.depths ts)
end
def Tree.parts : Tree → List Tree
  | .block _ ps => ps
  | .blank _ => []
theorem ds_map : ∀ ts : List Tree, Tree.ds ts = ts.map Tree.d
  | [] => rfl
  | t :: ts => by rw [Tree.ds, ds_map ts]; rfl
theorem knots_parts (t : Tree) : t.knots = Tree.knotss t.parts + 1 := by cases t <;> rfl
theorem depth_parts (t : Tree) : t.depth = Tree.depths t.parts + 1 := by cases t <;> rfl
theorem depth_get : ∀ {ts : List Tree} {i : Nat} {t : Tree}, ts[i]? = some t → t.depth ≤ Tree.depths ts
  | [], _, _, e => by simp at e
  | t :: ts, 0, _, e => by simp at e; subst e; simp only [Tree.depths]; omega
  | t :: ts, i + 1, _, e => by
    have := depth_get (ts := ts) (i := i) (by simpa using e)
    simp only [Tree.depths]; omega
theorem knotss_take : ∀ (ts : List Tree) (i : Nat) (t : Tree), ts[i]? = some t → Tree.knotss (ts.take (i + 1)) = Tree.knotss (ts.take i) + t.knots
  | [], _, _, e => by simp at e
  | t :: ts, 0, _, e => by simp at e; subst e; simp [Tree.knotss]
  | t :: ts, i + 1, _, e => by
    have := knotss_take ts i _ (by simpa using e)
    simp only [List.take_succ_cons, Tree.knotss] at this ⊢
    omega
/-! ### the program -/
def spParts : SpD := fun ds M Q => ∃ t : Tree, ds = [t.d] ∧ Q (.tup (t.parts.map Tree.d)) M
theorem ok_parts_of (T : Txt K mg) : FnD P w K mg base 1 "parts_of" ["tree"] spParts := by
  refine def_ok T.f_parts_of sc_parts_of (fun ds M Q h => ?_) fun f cdv A outer s H E hr => ⟨_, (ss_cons (s_if (dt_cmp (od_eq hr) (d_ix (d_var 0) d_int) d_str (nomark _)) (ss_one (s_ret (d_tup a_nil))) ss_nil)
 (ss_one (s_ret (d_ix (d_var 0) d_int)))), fun ds M Q h => ?_⟩
  · obtain ⟨t, rfl, _⟩ := h; rfl
  · obtain ⟨t, rfl, q⟩ := h
    cases t with
    | blank k => exact rt_done q
    | block n ps =>
      have q' : Q (.tup (Tree.ds ps)) M := by rw [ds_map]; exact q
      exact rt_done q'
theorem fn_none {x : Str} {ps : List Str} {sp : SpD} {st : Stmt} (T : Stands K mg x st ps) (no : ∀ ds M Q, ¬ sp ds M Q) : FnD P w K mg base 0 x ps sp := by
  obtain ⟨f, fd, F, hb, hm⟩ := T
  have no' : ∀ vs H Q E, ¬ lowSp K sp vs H Q E := fun vs H Q E ⟨ds, M, Q', _, _, h, _⟩ => no ds M Q' h
  exact ⟨f, fd, ⟨fun vs H Q E h => absurd h (no' vs H Q E), fun A outer s H args us vs Q E _ _ _ _ h => absurd h (no' vs H Q E)⟩, hm, F.kp, hb⟩
theorem depth_pos (t : Tree) : 0 < t.depth := by rw [depth_parts]; omega
mutual
theorem depth_le_knots : ∀ t : Tree, t.depth ≤ t.knots
  | .block n ps => by rw [Tree.depth, Tree.knots]; have := depths_le_knotss ps; omega
  | .blank k => Nat.le_refl _
theorem depths_le_knotss : ∀ ts : List Tree, Tree.depths ts ≤ Tree.knotss ts
  | [] => Nat.le_refl _
  | t :: ts => by rw [Tree.depths, Tree.knotss]; have := depth_le_knots t; have := depths_le_knotss ts; omega
end
theorem length_knotss : ∀ ts : List Tree, ts.length ≤ Tree.knotss ts
  | [] => Nat.le_refl _
  | t :: ts => by have h1 := length_knotss ts; have h2 := depth_le_knots t; have h3 := depth_pos t; rw [List.length_cons, Tree.knotss]; omega
/-! ### the law's own defs -/
theorem ifT {c : Prop} [Decidable c] {A B : Prop} (h : c) (a : A) : if decide c = true then A else B := by rw [decide_eq_true h, if_pos rfl]; exact a
theorem ifF {c : Prop} [Decidable c] {A B : Prop} (h : ¬ c) (b : B) : if decide c = true then A else B := by rw [decide_eq_false h, if_neg Bool.false_ne_true]; exact b
theorem at_some {α : Type} {xs : List α} {i : Int} (h0 : 0 ≤ i) (h1 : i < xs.length) : ∃ k, atI xs i = some k := by
  have e : i = ((i.toNat : Nat) : Int) := by omega
  have hl : i.toNat < xs.length := by omega
  have h := atI_nat (xs := xs) (j := i.toNat) (v := xs[i.toNat]) (by rw [List.getElem?_eq_getElem hl])
  rw [← e] at h
  exact ⟨_, h⟩
theorem str_app (a b : Str) : (a ++ b).length = a.length + b.length := by
  show (a.cps ++ b.cps).size = _
  rw [Array.size_append]
  rfl
theorem some_len : (Str.ofString "abcdefghijklmnopqrstuvwxyz0123456789").cps.toList.length = 36 := by decide +kernel
def spCell : SpD := fun ds M Q => ∃ (ns : List Int) (k : Int), ds = [.rol (ns.map .int), .int k] ∧ 0 ≤ k ∧ ∀ c : Int, Q (.int c) M
theorem ok_cell (T : Txt K mg) : FnD P w K mg base 1 "_law_cell_at" ["script", "k"] spCell := by
  have m_len := T.m_len
  refine def_ok T.f__law_cell_at sc__law_cell_at (fun ds M Q h => ?_) fun f cdv A outer s H E hr => ⟨_, (ss_cons (s_if (dt_cmp od_lt (d_var 1) (d_callB cd_len rfl m_len bt_len (a_cons (d_var 0) a_nil)) (nomark _)) (ss_one (s_ret (d_ix (d_var 0) (d_var 1)))) ss_nil)
 (ss_one (s_ret d_int))), fun ds M Q h => ?_⟩
  · obtain ⟨ns, k, rfl, _⟩ := h; rfl
  · obtain ⟨ns, k, rfl, hk, q⟩ := h
    show if decide (k < ((ns.map D.int).length : Int)) = true then _ else _
    by_cases h1 : k < ((ns.map D.int).length : Int)
    · rw [decide_eq_true h1, if_pos rfl]
      obtain ⟨v, hv⟩ := at_some (xs := ns.map D.int) hk h1
      obtain ⟨j, _, hj, _⟩ := atI_get hv
      obtain ⟨c, _, rfl⟩ := List.mem_map.mp (List.mem_of_getElem? hj)
      show onSome (atI (ns.map D.int) k) _
      rw [hv]
      exact rt_done (q c)
    · rw [decide_eq_false h1, if_neg Bool.false_ne_true]
      exact rt_done (q 0)
theorem upd_none {M : DH} {a b : Addr} {o : MO} (h : updM M a o b = none) : b ≠ a ∧ M b = none := by
  have hne : b ≠ a := by intro z; subst z; rw [updM_same] at h; cases h
  exact ⟨hne, by rw [updM_ne hne] at h; exact h⟩
theorem sub_upd {M0 M : DH} {a : Addr} {o : MO} (s : Sub M0 M) (h : M0 a = none) : Sub M0 (updM M a o) := fun b u e => by
  rw [updM_ne (by intro z; subst z; rw [h] at e; cases e)]; exact s b u e
theorem knots_pos (t : Tree) : 0 < t.knots := by rw [knots_parts]; omega
theorem knots_get : ∀ {ts : List Tree} {i : Nat} {t : Tree}, ts[i]? = some t → t.knots ≤ Tree.knotss ts
  | [], _, _, e => by simp at e
  | t :: ts, 0, _, e => by simp at e; subst e; simp only [Tree.knotss]; omega
  | t :: ts, i + 1, _, e => by
    have := knots_get (ts := ts) (i := i) (by simpa using e)
    simp only [Tree.knotss]; omega
abbrev PT' := List Int × Tree
mutual
def pre (p : List Int) : Tree → List PT'
  | .block n ps => (p, .block n ps) :: pres p 0 ps
  | .blank k => [(p, .blank k)]
def pres (p : List Int) (i : Nat) : List Tree → List PT'
  | [] => []
  | t :: ts => pre (p ++ [(i : Int)]) t ++ pres p (i + 1) ts
end
theorem knotss_take_le : ∀ (ts : List Tree) (i : Nat), Tree.knotss (ts.take i) ≤ Tree.knotss ts
  | [], i => by simp
  | t :: ts, 0 => by simp [Tree.knotss]
  | t :: ts, i + 1 => by have := knotss_take_le ts i; simp only [List.take_succ_cons, Tree.knotss]; omega
theorem updM_self {M : DH} {a : Addr} {o : MO} (h : M a = some o) : updM M a o = M := by
  funext b
  by_cases z : b = a
  · subst z; rw [updM_same, h]
  · rw [updM_ne z]
/-! ### likenesses -/
def lkD (p : Tree × Tree) : D := .tup [p.1.d, p.2.d]
def sameH : Tree → Tree → Bool
  | .block n ps, .block m qs => decide (n = m) && decide (ps.length = qs.length)
  | _, _ => false
def spSame : SpD := fun ds M Q => ∃ t u : Tree, ds = [t.d, u.d] ∧ Q (.bl (sameH t u)) M
theorem ok_same (T : Txt K mg) : FnD P w K mg base 2 "same_head" ["one", "other"] spSame := by
  have m_len := T.m_len
  have F_parts_of := ok_parts_of (P := P) (w := w) (base := base) T
  refine def_ok T.f_same_head sc_same_head (fun ds M Q h => ?_) fun f cdv A outer s H E hr => ⟨_, (ss_cons (s_if (PW.pt (dw_or (dt_cmp (od_eq hr) (d_ix (d_var 0) d_int) d_str (nomark _)) (dw_or1 (dt_cmp (od_eq hr) (d_ix (d_var 1) d_int) d_str (nomark _))))) (ss_one (s_ret d_bl)) ss_nil)
 (ss_one (s_ret (d_and (d_cmp (od_eq hr) (d_ix (d_var 0) d_int) (d_ix (d_var 1) d_int) (nomark _)) (d_one (d_cmp (od_eq hr) (d_callB cd_len rfl m_len bt_len (a_cons (d_call F_parts_of (hr.mono (by omega)) (a_cons (d_var 0) a_nil)) a_nil)) (d_callB cd_len rfl m_len bt_len (a_cons (d_call F_parts_of (hr.mono (by omega)) (a_cons (d_var 1) a_nil)) a_nil)) (nomark _))))))), fun ds M Q h => ?_⟩
  · obtain ⟨t, u, rfl, _⟩ := h; rfl
  · obtain ⟨t, u, rfl, q⟩ := h
    cases t with
    | blank k => exact rt_done q
    | block n ps => cases u with
      | blank k => exact rt_done q
      | block m qs =>
        show if decide (n = m) = true then _ else _
        by_cases h : n = m
        · refine ifT h ?_
          refine ⟨.block n ps, rfl, .block m qs, rfl, ?_⟩
          have e : sameH (.block n ps) (.block m qs) = decide (((ps.map Tree.d).length : Int) = ((qs.map Tree.d).length : Int)) := by
            show (decide (n = m) && decide (ps.length = qs.length)) = _
            rw [decide_eq_true h, Bool.true_and, List.length_map, List.length_map]
            exact decide_eq_decide.mpr ⟨fun z => by omega, fun z => by omega⟩
          rw [e] at q
          exact rt_done q
        · refine ifF h ?_
          have e : sameH (.block n ps) (.block m qs) = false := by
            show (decide (n = m) && decide (ps.length = qs.length)) = _
            rw [decide_eq_false h, Bool.false_and]
          rw [e] at q
          exact rt_done q
/-- the likeness of a number; BadPaper where there is none -/
def spLkAt (mg : Str → Option Value) : SpE := fun ds M Q EX => ∃ (l : Addr) (ls : List (Tree × Tree)) (i : Int), ds = [.ref l, .int i] ∧ M l = some (.lst (ls.map lkD)) ∧
  (∀ p, 0 ≤ i → ls[i.toNat]? = some p → Q (lkD p) M) ∧ ((i < 0 ∨ (ls.length : Int) ≤ i) → EX (.ref (cl mg "BadPaper")) M)
theorem ok_lkAt (T : Txt K mg) : FnE P w K mg base 1 "likeness_at" ["likenesses", "number"] (spLkAt mg) := by
  have m_len := T.m_len
  refine def_okE T.f_likeness_at sc_likeness_at (fun ds M Q E h => ?_) fun f cdv A outer s H E EX hr hx hp => ⟨_, (ss_cons (s_if (dt_not (dt_chain od_le od_lt d_int (d_var 1) (d_callB cd_len rfl m_len bt_len (a_cons (d_var 0) a_nil)))) (ss_one (s_raise hx rfl (xc_BadPaper T) (a_cons d_str a_nil))) ss_nil)
 (ss_one (s_ret (d_ix (d_var 0) (d_var 1))))), fun ds M Q h => ?_⟩
  · obtain ⟨l, ls, i, rfl, _⟩ := h; rfl
  · obtain ⟨l, ls, i, rfl, hl, h1, h2⟩ := h
    show if decide ((0 : Int) ≤ i) = true then _ else _
    by_cases h0 : 0 ≤ i
    · refine ifT h0 ?_
      refine ⟨_, hl, ?_⟩
      show if (!decide (i < ((ls.map lkD).length : Int))) = true then _ else _
      rw [List.length_map]
      by_cases hi : i < (ls.length : Int)
      · rw [decide_eq_true hi]
        obtain ⟨k, rfl⟩ := Int.eq_ofNat_of_zero_le h0
        have hk : k < ls.length := by omega
        refine ⟨_, lkD ls[k], hl, atI_nat (by rw [List.getElem?_map, List.getElem?_eq_getElem hk]; rfl), ?_⟩
        exact rt_done (h1 _ h0 (List.getElem?_eq_getElem hk))
      · rw [decide_eq_false hi]
        exact ⟨by show 1 ≤ 1000; decide, h2 (.inr (by omega))⟩
    · refine ifF h0 ?_
      exact ⟨by show 1 ≤ 1000; decide, h2 (.inl (by omega))⟩
theorem sameH_len {t u : Tree} (h : sameH t u = true) : t.parts.length = u.parts.length := by
  cases t with
  | blank k => exact nof h
  | block n ps => cases u with
    | blank k => exact nof h
    | block m qs => exact of_decide_eq_true (Bool.and_eq_true_iff.mp h).2
def spPartLk (mg : Str → Option Value) : SpE := fun ds M Q EX => ∃ (p : Tree × Tree) (i : Int), ds = [lkD p, .int i] ∧
  (∀ a b, sameH p.1 p.2 = true → 0 ≤ i → p.1.parts[i.toNat]? = some a → p.2.parts[i.toNat]? = some b → Q (lkD (a, b)) M) ∧ ((sameH p.1 p.2 = false ∨ i < 0 ∨ (p.1.parts.length : Int) ≤ i) → EX (.ref (cl mg "BadPaper")) M)
theorem ok_partLk (T : Txt K mg) : FnE P w K mg base 3 "parts_likeness" ["likeness", "number"] (spPartLk mg) := by
  have m_len := T.m_len
  have F_same_head := ok_same (P := P) (w := w) (base := base) T
  have F_parts_of := ok_parts_of (P := P) (w := w) (base := base) T
  refine def_okE T.f_parts_likeness sc_parts_likeness (fun ds M Q E h => ?_) fun f cdv A outer s H E EX hr hx hp => ⟨_, (ss_cons (s_if (dt_not (dt_val (d_call F_same_head (hr.mono (by omega)) (a_cons (d_ix (d_var 0) d_int) (a_cons (d_ix (d_var 0) d_int) a_nil))))) (ss_one (s_raise hx rfl (xc_BadPaper T) (a_cons d_str a_nil))) ss_nil)
 (ss_cons (s_set (i := 2) sc_parts_likeness.nd (d_call F_parts_of (hr.mono (by omega)) (a_cons (d_ix (d_var 0) d_int) a_nil)))
 (ss_cons (s_set (i := 3) sc_parts_likeness.nd (d_call F_parts_of (hr.mono (by omega)) (a_cons (d_ix (d_var 0) d_int) a_nil)))
 (ss_cons (s_if (dt_not (dt_chain od_le od_lt d_int (d_var 1) (d_callB cd_len rfl m_len bt_len (a_cons (d_var 2) a_nil)))) (ss_one (s_raise hx rfl (xc_BadPaper T) (a_cons d_str a_nil))) ss_nil)
 (ss_one (s_ret (d_tup (a_cons (d_ix (d_var 2) (d_var 1)) (a_cons (d_ix (d_var 3) (d_var 1)) a_nil))))))))), fun ds M Q h => ?_⟩
  · obtain ⟨p, i, rfl, _⟩ := h; rfl
  · obtain ⟨⟨t, u⟩, i, rfl, h1, h2⟩ := h
    refine ⟨t, u, rfl, ?_⟩
    show if (!sameH t u) = true then _ else _
    cases hs : sameH t u with
    | false => exact ⟨by show 1 ≤ 1000; decide, h2 (.inl hs)⟩
    | true =>
      refine ⟨t, rfl, u, rfl, ?_⟩
      show if decide ((0 : Int) ≤ i) = true then _ else _
      by_cases h0 : 0 ≤ i
      · refine ifT h0 ?_
        show if (!decide (i < ((t.parts.map Tree.d).length : Int))) = true then _ else _
        rw [List.length_map]
        by_cases hi : i < (t.parts.length : Int)
        · rw [decide_eq_true hi]
          obtain ⟨k, rfl⟩ := Int.eq_ofNat_of_zero_le h0
          have hk : k < t.parts.length := by omega
          have hk' : k < u.parts.length := by rw [← sameH_len hs]; exact hk
          show DL.onSome (atI (t.parts.map Tree.d) (k : Int)) _
          rw [atI_nat (v := (t.parts[k]).d) (by rw [List.getElem?_map, List.getElem?_eq_getElem hk]; rfl)]
          show DL.onSome (atI (u.parts.map Tree.d) (k : Int)) _
          rw [atI_nat (v := (u.parts[k]).d) (by rw [List.getElem?_map, List.getElem?_eq_getElem hk']; rfl)]
          exact rt_done (h1 _ _ hs h0 (List.getElem?_eq_getElem hk) (List.getElem?_eq_getElem hk'))
        · rw [decide_eq_false hi]
          exact ⟨by show 1 ≤ 1000; decide, h2 (.inr (.inr (show (t.parts.length : Int) ≤ i by omega)))⟩
      · refine ifF h0 ?_
        exact ⟨by show 1 ≤ 1000; decide, h2 (.inr (.inl (by omega)))⟩
/-! ### blanks -/
mutual
/-- the numbers of the blanks as they stand -/
def nums : Tree → List Int
  | .block _ ps => numss ps
  | .blank k => [k]
def numss : List Tree → List Int
  | [] => []
  | t :: ts => nums t ++ numss ts
end
def ins (ks : List Int) (n : Int) : List Int := if n ∈ ks then ks else ks ++ [n]
def inss (ks ns : List Int) : List Int := ns.foldl ins ks
theorem inss_app (ks a b : List Int) : inss ks (a ++ b) = inss (inss ks a) b := by simp [inss]
theorem ins_len (ks : List Int) (n : Int) : (ins ks n).length ≤ ks.length + 1 := by unfold ins; split <;> simp
theorem inss_len : ∀ (ns ks : List Int), (inss ks ns).length ≤ ks.length + ns.length
  | [], ks => Nat.le_refl _
  | n :: ns, ks => by
    have h1 := inss_len ns (ins ks n)
    have h2 := ins_len ks n
    show (inss (ins ks n) ns).length ≤ _
    rw [List.length_cons]; omega
mutual
theorem nums_len : ∀ t : Tree, (nums t).length ≤ t.knots
  | .block _ ps => by rw [nums, Tree.knots]; have := numss_len ps; omega
  | .blank _ => Nat.le_refl _
theorem numss_len : ∀ ts : List Tree, (numss ts).length ≤ Tree.knotss ts
  | [] => Nat.le_refl _
  | t :: ts => by rw [numss, List.length_append, Tree.knotss]; have := nums_len t; have := numss_len ts; omega
end
theorem numss_take : ∀ (ts : List Tree) (i : Nat) (t : Tree), ts[i]? = some t → numss (ts.take (i + 1)) = numss (ts.take i) ++ nums t
  | [], _, _, e => by simp at e
  | t :: ts, 0, _, e => by simp at e; subst e; simp [numss]
  | t :: ts, i + 1, _, e => by
    have := numss_take ts i _ (by simpa using e)
    simp only [List.take_succ_cons, numss] at this ⊢
    rw [this, List.append_assoc]
-- DICTS gather_blanks.found blanks_of.found
theorem ins_keys (ks : List Int) (n : Int) : putD (ks.map fun k => ((Sum.inl k : Key), D.bl true)) (.inl n) (.bl true) = (ins ks n).map fun k => ((Sum.inl k : Key), D.bl true) := by
  have hv : (valD (ks.map fun k => ((Sum.inl k : Key), D.bl true)) (.inl n)).isSome = decide (n ∈ ks) := by
    rw [← valD_any, List.any_map]
    induction ks with
    | nil => rfl
    | cons k ks ih =>
      rw [List.any_cons, ih]
      by_cases e : k = n
      · subst e; simp
      · have e' : ¬ n = k := fun z => e z.symm
        simp [e, e']
  unfold ins
  by_cases h : n ∈ ks
  · rw [putD_old _ (by rw [hv]; exact decide_eq_true h), if_pos h, List.map_map]
    refine List.map_congr_left fun k _ => ?_
    simp only [Function.comp]
    split <;> rfl
  · rw [if_neg h, putD_new _ (by have := hv; rw [decide_eq_false h] at this; exact Option.isNone_iff_eq_none.mp (by simpa using this)), List.map_append]
    rfl
def dk (ks : List Int) : List (Key × D) := ks.map fun k => ((Sum.inl k : Key), D.bl true)
def spGather (n : Nat) : SpD := fun ds M Q => ∃ (t : Tree) (l : Addr) (ks : List Int), ds = [t.d, .ref l] ∧ t.depth ≤ n ∧ M l = some (.dic (dk ks)) ∧ ks.length + t.knots ≤ 1000 ∧ Q .non (updM M l (.dic (dk (inss ks (nums t)))))
theorem ok_gather (T : Txt K mg) : ∀ n : Nat, FnD P w K mg base (n + 1) "gather_blanks" ["tree", "found"] (spGather n)
  | 0 => (fn_none T.f_gather_blanks fun ds M Q ⟨t, _, _, _, h, _⟩ => by have := depth_pos t; omega).mono (by omega)
  | n + 1 => by
    have F_gather_blanks := ok_gather T n
    have F_parts_of := ok_parts_of (P := P) (w := w) (base := base) T
    refine def_ok T.f_gather_blanks sc_gather_blanks (fun ds M Q h => ?_) fun f cdv A outer s H E hr => ⟨_, (ss_cons (s_if (dt_cmp (od_eq hr) (d_ix (d_var 0) d_int) d_str (nomark _)) (ss_one (s_asg d_bl (g_subK hr (d_var 1) (d_ix (d_var 0) d_int)))) ss_nil)
 (ss_one (s_for PassesOwn.never rfl (d_call F_parts_of (hr.mono (by omega)) (a_cons (d_var 0) a_nil)) (g_name (i := 2) sc_gather_blanks.nd) (ss_one (s_expr (d_call F_gather_blanks (hr.mono (by omega)) (a_cons (d_var 2) (a_cons (d_var 1) a_nil)))))))), fun ds M Q h => ?_⟩
    · obtain ⟨t, l, ks, rfl, _⟩ := h; rfl
    · obtain ⟨t, l, ks, rfl, hd, hl, hk, q⟩ := h
      cases t with
      | blank k =>
        refine ⟨_, _, rfl, hl, by unfold dk; rw [List.length_map]; exact small1000 (by have : (Tree.blank k).knots = 1 := rfl; omega), ?_⟩
        refine ⟨.blank k, rfl, ?_⟩
        have e : putD (dk ks) (.inl k) (.bl true) = dk (inss ks (nums (.blank k))) := ins_keys ks k
        refine ⟨fun _ τ M' => M' = updM M l (.dic (dk (inss ks (nums (.blank k))))), by rw [← e], fun _ _ _ _ _ => trivial, fun i d τ M' ed => ?_, fun τ M' hW => ?_⟩
        · simp [Tree.parts] at ed
        · subst hW
          exact ⟨_, Sub.refl _, q⟩
      | block z ps =>
        rw [Tree.depth] at hd
        rw [Tree.knots] at hk
        refine ⟨.block z ps, rfl, ?_⟩
        refine ⟨fun i τ M' => (∃ v : Option D, τ = [some (Tree.block z ps).d, some (.ref l), v]) ∧ M' = updM M l (.dic (dk (inss ks (numss (ps.take i))))), ⟨⟨none, rfl⟩, (updM_self hl).symm⟩, fun _ _ _ _ _ => trivial, ?_, ?_⟩
        · rintro i d τ M' ed ⟨⟨v, rfl⟩, rfl⟩
          rw [List.getElem?_map] at ed
          cases e : (Tree.block z ps).parts[i]? with
          | none => rw [e] at ed; cases ed
          | some p =>
            rw [e] at ed
            cases ed
            have e' : ps[i]? = some p := e
            have h1 := depth_get e'
            have h2 := knotss_take _ _ _ e'
            have h3 := knotss_take_le ps (i + 1)
            have h4 := inss_len (numss (ps.take i)) ks
            have h5 := numss_len (ps.take i)
            refine ⟨p, l, _, rfl, by omega, updM_same, by omega, ?_⟩
            rw [updM_upd, ← inss_app, ← numss_take _ _ _ e']
            exact ⟨⟨_, rfl⟩, rfl⟩
        · rintro τ M' ⟨⟨v, rfl⟩, rfl⟩
          have e : (((Tree.block z ps).parts.map Tree.d).length : Nat) = ps.length := by rw [List.length_map]; rfl
          rw [e, List.take_length]
          exact ⟨_, Sub.refl _, q⟩
def spBlanks (n : Nat) : SpD := fun ds M Q => ∃ t : Tree, ds = [t.d] ∧ t.depth ≤ n ∧ t.knots ≤ 1000 ∧ ∀ l, M l = none → Q (.ref l) (updM M l (.lst ((inss [] (nums t)).map .int)))
theorem ok_blanks_of (T : Txt K mg) (n : Nat) : FnD P w K mg base (n + 2) "blanks_of" ["tree"] (spBlanks n) := by
  have m_list := T.m_list
  have F_gather_blanks := ok_gather (P := P) (w := w) (base := base) T n
  refine def_ok T.f_blanks_of sc_blanks_of (fun ds M Q h => ?_) fun f cdv A outer s H E hr => ⟨_, (ss_cons (s_set (i := 1) sc_blanks_of.nd d_dict0)
 (ss_cons (s_expr (d_call F_gather_blanks (hr.mono (by omega)) (a_cons (d_var 0) (a_cons (d_var 1) a_nil))))
 (ss_one (s_ret (d_callTy (cd_listK rfl) rfl m_list bt_list (a_cons (d_var 1) a_nil)))))), fun ds M Q h => ?_⟩
  · obtain ⟨t, rfl, _⟩ := h; rfl
  · obtain ⟨t, rfl, hd, hk, q⟩ := h
    show ∀ p, M p = none → _
    intro p hp
    refine ⟨t, p, [], rfl, hd, updM_same, by simpa using hk, _, .inl updM_same, fun l hl => ?_⟩
    rw [updM_upd] at hl ⊢
    obtain ⟨l1, l2⟩ := upd_none hl
    refine ⟨updM M l (.lst ((inss [] (nums t)).map .int)), fun a o e => ?_, q l l2⟩
    have em : (dk (inss [] (nums t))).map (fun kv => keyD kv.1) = (inss [] (nums t)).map D.int := by unfold dk; rw [List.map_map]; rfl
    rw [em]
    by_cases ha : a = l
    · subst ha; rw [updM_same] at e ⊢; exact e
    · rw [updM_ne ha] at e ⊢
      rw [updM_ne (by intro z; subst z; rw [hp] at e; cases e)]
      exact e
/-! ### exchanging -/
def pos : List Int → Int → Option Nat
  | [], _ => none
  | j :: ks, k => if j = k then some 0 else (pos ks k).map (· + 1)
theorem ins_mem {ks : List Int} {n k : Int} : k ∈ ins ks n ↔ k ∈ ks ∨ k = n := by
  unfold ins
  by_cases h : n ∈ ks
  · rw [if_pos h]
    exact ⟨.inl, fun z => z.elim id fun z => z ▸ h⟩
  · rw [if_neg h]; simp
theorem inss_mem : ∀ {ns ks : List Int} {k : Int}, k ∈ inss ks ns ↔ k ∈ ks ∨ k ∈ ns
  | [], ks, k => by simp [inss]
  | n :: ns, ks, k => by
    show k ∈ inss (ins ks n) ns ↔ _
    rw [inss_mem, ins_mem, List.mem_cons, or_assoc]
/-! ### fillings as dicts -/
def look (f : List (Int × Tree)) (k : Int) : Option Tree := (f.find? fun p => decide (p.1 = k)).map (·.2)
/-- the numbers, named c, c + 1, .. -/
def nf : Nat → List Int → List (Int × Tree)
  | _, [] => []
  | c, k :: ks => (k, .blank (c : Int)) :: nf (c + 1) ks
theorem fgtA {a : Option D} {d : D} : Fgt [none, a] [some d, a] := ⟨rfl, fun i x e => by
  match i, e with
  | 0, e => cases e
  | 1, e => exact e
  | i + 2, e => simp at e⟩
/-! ### family C: streams, names, numbers -/
theorem cut_take {α : Type} (xs : List α) (k : Nat) : DL.cutD xs none (some (k : Int)) = xs.take k := by
  unfold DL.cutD
  rw [HT.sIx_none, HT.sIx_nat, List.drop_zero, Nat.sub_zero]
  by_cases h : k ≤ xs.length
  · rw [Nat.min_eq_left h]
  · rw [Nat.min_eq_right (by omega), List.take_length, List.take_of_length_le (by omega)]
theorem cut_drop {α : Type} (xs : List α) (k : Nat) : DL.cutD xs (some (k : Int)) none = xs.drop k := by
  unfold DL.cutD
  rw [HT.sIx_none, HT.sIx_nat]
  by_cases h : k ≤ xs.length
  · rw [Nat.min_eq_left h, List.take_of_length_le (by rw [List.length_drop]; omega)]
  · rw [Nat.min_eq_right (by omega), List.drop_length, List.drop_eq_nil_of_le (by omega)]; simp
def spStream : SpD := fun ds M Q => ∃ (c : Int) (m : Nat), ds = [.int c, .int m] ∧ m ≤ 100 ∧ ∀ l (xs : List Int), M l = none → xs.length = m → (∀ x ∈ xs, 0 ≤ x) → Q (.ref l) (updM M l (.lst (xs.map .int)))
theorem sub_two {M : DH} {a p : Addr} {o u : MO} (ha : M a = none) (hp : updM M a o p = none) : Sub (updM M p u) (updM (updM M a o) p u) := fun c v e => by
  by_cases z : c = p
  · subst z; rw [updM_same] at e ⊢; exact e
  · rw [updM_ne z] at e
    rw [updM_ne z, updM_ne (by intro y; subst y; rw [ha] at e; cases e)]; exact e
theorem ok_stream (T : Txt K mg) : FnD P w K mg base 1 "_law_stream" ["cell", "many"] spStream := by
  have m_range := T.m_range
  refine def_ok T.f__law_stream sc__law_stream (fun ds M Q h => ?_) fun f cdv A outer s H E hr => ⟨_, (ss_cons (s_set (i := 2) sc__law_stream.nd (d_lst a_nil))
 (ss_cons (s_set (i := 3) sc__law_stream.nd (d_op od_mod (d_var 0) d_int))
 (ss_cons (s_for1 PassesOwn.never rfl m_range (a_cons (d_op od_add (d_var 1) d_int) a_nil) (g_name (i := 4) sc__law_stream.nd) (ss_cons (s_set (i := 3) sc__law_stream.nd (d_op od_mod (d_op od_add (d_op od_add (d_op od_add (d_op od_mulS (d_var 3) (d_var 3)) (d_op od_mulS d_int (d_var 3))) (d_op od_mulS d_int (d_var 4))) d_int) d_int))
 (ss_one (s_expr (d_bm PySem.F.plainAttrs_list PySem.F.slot_list_append PySem.F.type_list_append md_append (d_var 2) (a_cons (d_var 3) a_nil))))))
 (ss_one (s_ret (d_sl sd_sl (d_var 2) (o_some d_int) o_none)))))), fun ds M Q h => ?_⟩
  · obtain ⟨c, m, rfl, _⟩ := h; rfl
  · obtain ⟨c, m, rfl, hm, q⟩ := h
    show ∀ l, M l = none → _
    intro l hl
    refine ⟨by show (0 : Int) < 2147483647; decide, ?_⟩
    refine ⟨⟨by omega, by omega⟩, fun i τ M' => ∃ (xs : List Int) (x : Int) (v4 : Option D), xs.length = i ∧ (∀ y ∈ xs, 0 ≤ y) ∧ (0 ≤ x ∧ x < 2147483647) ∧ M' = updM M l (.lst (xs.map .int)) ∧ τ = [some (.int c), some (.int m), some (.ref l), some (.int x), v4],
      ⟨[], c % 2147483647, none, rfl, (fun y h => by cases h), ⟨Int.emod_nonneg _ (by decide), Int.emod_lt_of_pos _ (by decide)⟩, rfl, rfl⟩, ?_, ?_⟩
    · rintro i τ M' hi ⟨xs, x, v4, hxl, hx0, hx, rfl, rfl⟩
      have hi' : i < ((m : Int) + 1).toNat := hi
      refine ⟨.inl ⟨by omega, by omega⟩, .inl ⟨by decide, by decide⟩, .inl ⟨by decide, by decide⟩, by show (0 : Int) < 2147483647; decide, ?_⟩
      have hx2 : 0 ≤ (x * x + 48271 * x + 7 * (i : Int) + 11) % 2147483647 := Int.emod_nonneg _ (by decide)
      have hx3 : (x * x + 48271 * x + 7 * (i : Int) + 11) % 2147483647 < 2147483647 := Int.emod_lt_of_pos _ (by decide)
      refine ⟨⟨rfl, _, updM_same⟩, _, updM_same, by rw [List.length_map]; exact small1000 (by omega), xs ++ [(x * x + 48271 * x + 7 * (i : Int) + 11) % 2147483647], _, _, by rw [List.length_append, hxl]; rfl, fun y hy => ?_, ⟨hx2, hx3⟩, ?_, rfl⟩
      · rcases List.mem_append.mp hy with hy | hy
        · exact hx0 y hy
        · cases List.mem_singleton.mp hy; exact hx2
      · rw [updM_upd, List.map_append]; rfl
    · rintro τ M' ⟨xs, x, v4, hxl, hx0, hx, rfl, rfl⟩
      refine ⟨_, updM_same, fun p hp => ?_⟩
      have ec : DL.cutD (xs.map D.int) (some 1) none = (xs.drop 1).map D.int := by
        rw [show (1 : Int) = ((1 : Nat) : Int) from rfl, cut_drop, List.map_drop]
      rw [ec]
      refine ⟨_, sub_two hl hp, q p (xs.drop 1) (upd_none hp).2 ?_ fun y hy => hx0 y (List.mem_of_mem_drop hy)⟩
      rw [List.length_drop, hxl]
      show ((m : Int) + 1).toNat - 1 = m
      omega
theorem joinS_len : ∀ ys : List Str, (Str.join "" ys).length = (ys.map (·.length)).sum
  | [] => rfl
  | [x] => by show x.length = x.length + 0; omega
  | x :: y :: r => by
    show (x ++ "" ++ Str.join "" (y :: r)).length = x.length + ((y :: r).map (·.length)).sum
    rw [str_app, str_app, joinS_len (y :: r)]
    have : (Str.ofString "").length = 0 := rfl
    show x.length + (Str.ofString "").length + _ = _
    rw [this, Nat.add_zero]
theorem join_len (ys : List Str) : (Txt.join "" ys).length = (ys.map (·.length)).sum := by
  show (Builtin.Str.glued "" ys).length = _
  rw [PySem.StrLaws.glued_eq_join]
  exact joinS_len ys
def NamesC (xs : List D) : Prop := xs.length = 5 ∧ ∀ d ∈ xs, ∃ z : Str, d = .str z
def spNamesC : SpD := fun ds M Q => ∃ c : Int, ds = [.int c] ∧ ∀ l xs, M l = none → NamesC xs → Q (.ref l) (updM M l (.lst xs))
theorem nn_ix {xs : List Int} {m k : Nat} (hl : xs.length = m) (hk : k < m) (h : ∀ x ∈ xs, 0 ≤ x) : ∃ x, atI (xs.map D.int) (k : Int) = some (.int x) ∧ 0 ≤ x := by
  have hk' : k < xs.length := by omega
  refine ⟨xs[k], atI_nat ?_, h _ (List.getElem_mem hk')⟩
  rw [List.getElem?_map, List.getElem?_eq_getElem hk']; rfl
def oneSign (SM : Str) : D → Option D
  | .int x => (atI SM.cps.toList (x % 36)).map fun c => .str ⟨#[c]⟩
  | _ => none
theorem sign_at {SM : Str} (h : SM.cps.toList.length = 36) (x : Int) : ∃ c, atI SM.cps.toList (x % 36) = some c :=
  at_some (Int.emod_nonneg _ (by decide)) (by rw [h]; exact Int.emod_lt_of_pos _ (by decide))
theorem signs_of {SM : Str} (h : SM.cps.toList.length = 36) : ∀ ys : List Int, ∃ zs : List Str, (ys.map D.int).filterMap (oneSign SM) = zs.map D.str ∧ zs.length = ys.length ∧ (zs.map (·.length)).sum = ys.length
  | [] => ⟨[], rfl, rfl, rfl⟩
  | y :: ys => by
    obtain ⟨zs, e1, e2, e3⟩ := signs_of h ys
    obtain ⟨c, hc⟩ := sign_at h y
    refine ⟨⟨#[c]⟩ :: zs, ?_, by rw [List.length_cons, List.length_cons, e2], ?_⟩
    · have eo : oneSign SM (.int y) = some (.str ⟨#[c]⟩) := by
        show (atI SM.cps.toList (y % 36)).map _ = _
        rw [hc]; rfl
      rw [List.map_cons, List.filterMap_cons, eo, List.map_cons, e1]
    · rw [List.map_cons, List.sum_cons, e3, List.length_cons]
      show 1 + ys.length = _; omega
theorem cut_len {xs : List Int} (h : xs.length = 15) : (DL.cutD xs (some 1) (some 12)).length = 11 := by
  unfold DL.cutD
  rw [show (1 : Int) = ((1 : Nat) : Int) from rfl, show (12 : Int) = ((12 : Nat) : Int) from rfl, HT.sIx_nat, HT.sIx_nat, h, List.length_take, List.length_drop, h]
  rfl
theorem cut_map {α β : Type} (g : α → β) (xs : List α) (lo hi : Option Int) : DL.cutD (xs.map g) lo hi = (DL.cutD xs lo hi).map g := by
  unfold DL.cutD
  rw [List.length_map, List.map_take, List.map_drop]
theorem fgtS {a : Option D} {d : D} : Fgt [none, a] [some d, a] := fgtA
theorem ok_namesC (T : Txt K mg) : FnD P w K mg base 2 "_law_names" ["cell"] spNamesC := by
  have F__law_stream := ok_stream (P := P) (w := w) (base := base) T
  refine def_ok T.f__law_names sc__law_names (fun ds M Q h => ?_) fun f cdv A outer s H E hr => ⟨_, (ss_cons (s_set (i := 1) sc__law_names.nd d_str)
 (ss_cons (s_set (i := 2) sc__law_names.nd (d_call F__law_stream (hr.mono (by omega)) (a_cons (d_var 0) (a_cons d_int a_nil))))
 (ss_cons (s_set (i := 3) sc__law_names.nd (d_op od_add (d_ix (d_var 1) (d_op od_mod (d_ix (d_var 2) d_int) d_int)) (d_bm PySem.F.plainAttrs_str PySem.F.slot_str_join PySem.F.type_str_join md_join d_str (a_cons (d_comp (Nc := ["x", "some"]) (js := [none, some 1]) (comp_okF ["cell", "some", "xs", "base", "at", "sign", "other"] (defScope s__law_names).names rfl rfl rfl rfl (by decide +kernel) (by decide +kernel) (by decide +kernel) rfl (by decide +kernel)) rfl (d_sl sd_sl (d_var 2) (o_some d_int) (o_some d_int)) (fun C s H fp => (g_name (i := 0) (by show List.Nodup (["x", "some"] : List Str); decide +kernel))) (fun C s H fp => Or.inl ⟨rfl, rfl⟩) (fun C s H fp => (d_ix (d_var 1) (d_op od_mod (d_var 0) d_int)))) a_nil))))
 (ss_cons (s_set (i := 4) sc__law_names.nd (d_op od_add d_int (d_op od_mod (d_ix (d_var 2) d_int) d_int)))
 (ss_cons (s_set (i := 5) sc__law_names.nd (d_ix (d_var 1) (d_op od_mod (d_op od_add (d_op od_add (d_bm PySem.F.plainAttrs_str PySem.F.slot_str_find PySem.F.type_str_find md_find (d_var 1) (a_cons (d_ix (d_var 3) (d_var 4)) a_nil)) d_int) (d_op od_mod (d_ix (d_var 2) d_int) d_int)) d_int)))
 (ss_cons (s_set (i := 6) sc__law_names.nd (d_op od_add (d_op od_add (d_sl sd_sl (d_var 3) o_none (o_some (d_var 4))) (d_var 5)) (d_sl sd_sl (d_var 3) (o_some (d_op od_add (d_var 4) d_int)) o_none)))
 (ss_one (s_ret (d_lst (a_cons (d_ix (d_var 3) d_int) (a_cons (d_sl sd_sl (d_var 3) o_none (o_some d_int)) (a_cons (d_var 3) (a_cons (d_var 6) (a_cons (d_sl sd_sl (d_var 3) o_none (o_some (d_op od_add d_int (d_var 4)))) a_nil)))))))))))))), fun ds M Q h => ?_⟩
  · obtain ⟨c, rfl, _⟩ := h; rfl
  · obtain ⟨c, rfl, q⟩ := h
    have hs36 := some_len
    have hs37 : (Str.ofString "abcdefghijklmnopqrstuvwxyz0123456789").length ≤ sizeLine := by decide +kernel
    dsimp only [DL.sSeq, DL.sAsg, DL.hName, DL.eC]
    generalize Str.ofString "abcdefghijklmnopqrstuvwxyz0123456789" = SM at *
    refine ⟨c, 15, rfl, by decide, fun l xs hl hxl hx0 => ?_⟩
    obtain ⟨x0, e0, p0⟩ := nn_ix (k := 0) hxl (by decide) hx0
    obtain ⟨x12, e12, p12⟩ := nn_ix (k := 12) hxl (by decide) hx0
    obtain ⟨x13, e13, p13⟩ := nn_ix (k := 13) hxl (by decide) hx0
    obtain ⟨c0, hc0⟩ := at_some (xs := SM.cps.toList) (i := x0 % 26) (Int.emod_nonneg _ (by decide)) (by have := Int.emod_lt_of_pos x0 (b := 26) (by decide); rw [hs36]; omega)
    refine ⟨_, _, updM_same, e0, by show (0 : Int) < 26; decide, hs37, c0, hc0, ?_⟩
    refine ⟨rfl, _, updM_same, fun p hp => ?_⟩
    have ec := cut_map D.int xs (some 1) (some 12)
    have eln := cut_len hxl
    obtain ⟨zs, z1, z2, z3⟩ := signs_of hs36 (DL.cutD xs (some 1) (some 12))
    refine ⟨_, updM_same, ⟨by rw [ec, List.length_map, eln]; decide, oneSign SM, fun d hd p2 acc hp2 => ?_, fun p2 hp2 => ?_⟩⟩
    · rw [ec] at hd
      obtain ⟨y, _, rfl⟩ := List.mem_map.mp hd
      obtain ⟨c, hc⟩ := sign_at hs36 y
      exact ⟨fgtS, by show (0 : Int) < 36; decide, hs37, c, hc, rfl, by show (atI SM.cps.toList (y % 36)).map _ = _; rw [hc]; rfl⟩
    · rw [ec, z1]
      have hbl : ((⟨#[c0]⟩ : Str) ++ Txt.join "" zs).length = 12 := by rw [str_app, join_len, z3, eln]; rfl
      refine ⟨zs, updM_same, by rw [z3, eln, z2, eln]; decide, by rw [join_len, z3, eln]; show 1 + 11 ≤ sizeLine; exact line1000 (by decide), ?_⟩
      have hL : updM (updM (updM M l (.lst (xs.map .int))) p (.lst ((DL.cutD xs (some 1) (some 12)).map D.int))) p2 (.lst (zs.map D.str)) l = some (.lst (xs.map .int)) := Sub.new (by rw [← ec]; exact hp2) _ _ (Sub.new hp _ _ updM_same)
      have hS : Sub M (updM (updM (updM M l (.lst (xs.map .int))) p (.lst ((DL.cutD xs (some 1) (some 12)).map D.int))) p2 (.lst (zs.map D.str))) := ((Sub.new hl).trans (Sub.new hp)).trans (Sub.new (by rw [← ec]; exact hp2))
      generalize updM (updM (updM M l (.lst (xs.map .int))) p (.lst ((DL.cutD xs (some 1) (some 12)).map D.int))) p2 (.lst (zs.map D.str)) = M3 at *
      generalize (⟨#[c0]⟩ : Str) ++ Txt.join "" zs = b at *
      have ha : 1 ≤ 1 + x12 % 11 ∧ 1 + x12 % 11 ≤ 11 := by
        have h1 := Int.emod_nonneg x12 (b := 11) (by decide)
        have h2 := Int.emod_lt_of_pos x12 (b := 11) (by decide)
        omega
      have hbs : b.length ≤ sizeLine := line1000 (by omega)
      have hbc : b.cps.toList.length = 12 := by rw [Array.length_toList]; exact hbl
      obtain ⟨ca, hca⟩ := at_some (xs := b.cps.toList) (i := 1 + x12 % 11) (by omega) (by rw [hbc]; omega)
      obtain ⟨cb, hcb⟩ := at_some (xs := b.cps.toList) (i := 0) (by omega) (by rw [hbc]; decide)
      refine ⟨_, _, hL, e12, by show (0 : Int) < 11; decide, ?_⟩
      refine ⟨rfl, hbs, ca, hca, fun fi => ?_⟩
      obtain ⟨cs, hcs⟩ := sign_at hs36 (fi + 1 + x13 % 35)
      refine ⟨_, _, hL, e13, by show (0 : Int) < 35; decide, by show (0 : Int) < 36; decide, hs37, cs, hcs, ?_⟩
      generalize 1 + x12 % 11 = a at *
      have l1 := Txt.slice_le b none (some a)
      have l2 := Txt.slice_le b (some (a + 1)) none
      refine ⟨hbs, ?_⟩
      refine ⟨by show (Txt.slice b none (some a)).length + 1 ≤ sizeLine; exact line1000 (by omega), hbs, by show (Txt.slice b none (some a) ++ (⟨#[cs]⟩ : Str)).length + (Txt.slice b (some (a + 1)) none).length ≤ sizeLine; rw [str_app]; show (Txt.slice b none (some a)).length + 1 + _ ≤ sizeLine; exact line1000 (by omega), ?_⟩
      refine ⟨hbs, cb, hcb, hbs, hbs, ?_⟩
      show ∀ p, M3 p = none → _
      intro p3 hp3
      refine ⟨_, ?_, q p3 [.str ⟨#[cb]⟩, .str (Txt.slice b none (some 2)), .str b, .str (Txt.slice b none (some a) ++ ⟨#[cs]⟩ ++ Txt.slice b (some (a + 1)) none), .str (Txt.slice b none (some (1 + a)))] ?_ ⟨rfl, fun d hd => ?_⟩⟩
      · intro c v e
        by_cases z : c = p3
        · subst z; rw [updM_same] at e ⊢; exact e
        · rw [updM_ne z] at e ⊢; exact hS c v e
      · cases e : M p3 with
        | none => rfl
        | some o => rw [hS p3 o e] at hp3; cases hp3
      · simp only [List.mem_cons, List.not_mem_nil, or_false] at hd
        rcases hd with rfl | rfl | rfl | rfl | rfl <;> exact ⟨_, rfl⟩
def spNumC : SpD := fun ds M Q => ∃ c k : Int, ds = [.int c, .int k] ∧ (0 ≤ k ∧ k ≤ 4) ∧ ∀ r : Int, 1 ≤ r → Q (.int r) M
theorem ok_numC (T : Txt K mg) : FnD P w K mg base 1 "_law_number" ["cell", "k"] spNumC := by
  refine def_ok T.f__law_number sc__law_number (fun ds M Q h => ?_) fun f cdv A outer s H E hr => ⟨_, (ss_cons (s_set (i := 2) sc__law_number.nd (d_op od_add d_int (d_op od_mod (d_var 0) (d_op od_sub (d_op od_pow d_int d_int) d_int))))
 (ss_one (s_ret (d_op od_add (d_var 2) (d_ix (d_lst (a_cons (d_var 1) (a_cons (d_op od_sub d_int (d_var 1)) a_nil))) (d_op od_mod (d_op od_fdiv (d_var 0) d_int) d_int)))))), fun ds M Q h => ?_⟩
  · obtain ⟨c, k, rfl, _⟩ := h; rfl
  · obtain ⟨c, k, rfl, hk, q⟩ := h
    have hpw : CPow 10 9 := ⟨by decide, by decide, by decide⟩
    have hb : (0 : Int) < 10 ^ Int.toNat 9 - 6 := by decide
    refine ⟨hpw, hb, ?_⟩
    show ∀ p, M p = none → _
    intro p hp
    refine ⟨⟨by decide, by decide⟩, by show (0 : Int) < 2; decide, ?_⟩
    have h0 := Int.emod_nonneg c (b := 10 ^ Int.toNat 9 - 6) (by omega)
    have h1 := Int.emod_nonneg (c / 7) (b := 2) (by decide)
    have h2 := Int.emod_lt_of_pos (c / 7) (b := 2) (by decide)
    generalize c % (10 ^ Int.toNat 9 - 6) = e at h0 ⊢
    show ixD (D.ref p) (.int (c / 7 % 2)) _ _
    rcases (show c / 7 % 2 = 0 ∨ c / 7 % 2 = 1 by omega) with h3 | h3
    · rw [h3]
      exact ⟨_, .int k, updM_same, rfl, M, Sub.new hp, q (1 + e + k) (by omega)⟩
    · rw [h3]
      exact ⟨_, .int (5 - k), updM_same, rfl, M, Sub.new hp, q (1 + e + (5 - k)) (by omega)⟩
/-! ### a row of likenesses -/
def bbT (p : Tree × Tree) : Bool := match p.1, p.2 with
  | .blank _, .block _ _ => true
  | _, _ => false
def fol (p q : Tree × Tree) : Bool := match q.1 with
  | .blank k => decide (k ∈ nums p.2)
  | _ => false
def rowGood (ls : List (Tree × Tree)) : Bool := !ls.isEmpty && ls.all bbT && (ls.zip (ls.drop 1 ++ ls.take 1)).all fun z => fol z.1 z.2
def spRow (mg : Str → Option Value) (n : Nat) : SpE := fun ds M Q EX => ∃ (l : Addr) (ls : List (Tree × Tree)), ds = [.ref l] ∧ M l = some (.lst (ls.map lkD)) ∧ ls.length ≤ 1000 ∧ (∀ p ∈ ls, p.2.depth ≤ n ∧ p.2.knots ≤ 1000) ∧
  (rowGood ls = true → Q .non M) ∧ (rowGood ls = false → ∀ M1, Sub M M1 → EX (.ref (cl mg "BadPaper")) M1)
theorem zipL_map (xs ys : List (Tree × Tree)) : DL.zipL (xs.map lkD) (ys.map lkD) = (xs.zip ys).map fun z => .tup [lkD z.1, lkD z.2] := by
  unfold DL.zipL
  rw [List.zip_map, List.map_map]
  rfl
theorem flat_ints (ks : List Int) : (ks.map D.int).all D.flat = true := by
  rw [List.all_map]
  exact List.all_eq_true.mpr fun _ _ => rfl
theorem any_intsR (ks : List Int) (n : Int) : ((ks.map D.int).any fun y => D.eq y (.int n)) = decide (n ∈ ks) := by
  induction ks with
  | nil => rfl
  | cons k ks ih =>
    rw [List.map_cons, List.any_cons, ih]
    have : D.eq (.int k) (.int n) = decide (k = n) := rfl
    rw [this]
    by_cases e : k = n
    · subst e; simp
    · have e' : ¬ n = k := fun z => e z.symm
      simp [e, e']
theorem ok_row (T : Txt K mg) (n : Nat) : FnE P w K mg base (n + 3) "refuse_loose_row" ["row"] (spRow mg n) := by
  have m_len := T.m_len
  have m_zip := T.m_zip
  have F_blanks_of := ok_blanks_of (P := P) (w := w) (base := base) T n
  refine def_okE T.f_refuse_loose_row sc_refuse_loose_row (fun ds M Q E h => ?_) fun f cdv A outer s H E EX hr hx hp => ⟨_, (ss_cons (s_if (dt_cmp (od_eq hr) (d_callB cd_len rfl m_len bt_len (a_cons (d_var 0) a_nil)) d_int (nomark _)) (ss_one (s_raise hx rfl (xc_BadPaper T) (a_cons d_str a_nil))) ss_nil)
 (ss_cons (s_for hp rfl (d_var 0) (g_name (i := 1) sc_refuse_loose_row.nd) (ss_one (s_if (PW.pt (dw_or (dt_cmp (od_ne hr) (d_ix (d_ix (d_var 1) d_int) d_int) d_str (nomark _)) (dw_or1 (dt_cmp (od_ne hr) (d_ix (d_ix (d_var 1) d_int) d_int) d_str (nomark _))))) (ss_one (s_raise hx rfl (xc_BadPaper T) (a_cons d_str a_nil))) ss_nil)))
 (ss_one (s_forZ hp rfl m_zip (a_cons (d_var 0) (a_cons (d_op od_add (d_sl sd_sl (d_var 0) (o_some d_int) o_none) (d_sl sd_sl (d_var 0) o_none (o_some d_int))) a_nil)) (g_tup rfl (gs_cons (g_name (i := 1) sc_refuse_loose_row.nd) (gs_cons (g_name (i := 2) sc_refuse_loose_row.nd) gs_nil)) len_2) (ss_one (s_if (dt_cmp (od_notinX hr) (d_ix (d_ix (d_var 2) d_int) d_int) (d_call F_blanks_of (hr.mono (by omega)) (a_cons (d_ix (d_var 1) d_int) a_nil)) (rfl)) (ss_one (s_raise hx rfl (xc_BadPaper T) (a_cons d_str a_nil))) ss_nil)))))), fun ds M Q h => ?_⟩
  · obtain ⟨l, ls, rfl, _⟩ := h; rfl
  · obtain ⟨l, ls, rfl, hl, hz, hsz, h1, h2⟩ := h
    refine ⟨_, hl, ?_⟩
    show if decide (((ls.map lkD).length : Int) = 0) = true then _ else _
    rw [List.length_map]
    by_cases h0 : ls = []
    · subst h0
      refine ifT rfl ?_
      exact ⟨by show 1 ≤ 1000; decide, h2 rfl _ (Sub.refl _)⟩
    · refine ifF (fun z => h0 (List.length_eq_zero_iff.mp (by omega))) ?_
      refine ⟨_, hl, fun i τ M' => M' = M ∧ (∀ p ∈ ls.take i, bbT p = true) ∧ ∃ v1, τ = [some (.ref l), v1, none], ⟨rfl, fun p hp => (nomatch hp), none, rfl⟩, fun _ _ _ _ h => by rw [h.1]; exact hl, ?_, ?_⟩
      · rintro i d τ M' ed ⟨rfl, hb, v1, rfl⟩
        rw [List.getElem?_map] at ed
        cases ep : ls[i]? with
        | none => rw [ep] at ed; cases ed
        | some p =>
          rw [ep] at ed
          cases ed
          have bad : bbT p = false → rowGood ls = false := fun hf => by
            have ha : ls.all bbT = false := List.all_eq_false.mpr ⟨p, List.mem_of_getElem? ep, by rw [hf]; exact Bool.false_ne_true⟩
            unfold rowGood
            rw [ha, Bool.and_false, Bool.false_and]
          obtain ⟨t, u⟩ := p
          cases t with
          | block m qs => exact ⟨by show 1 ≤ 1000; decide, h2 (bad rfl) _ (Sub.refl _)⟩
          | blank k => cases u with
            | blank j => exact ⟨by show 1 ≤ 1000; decide, h2 (bad rfl) _ (Sub.refl _)⟩
            | block m qs =>
              refine ⟨rfl, fun p hp => ?_, _, rfl⟩
              rw [List.take_add_one, ep] at hp
              rcases List.mem_append.mp hp with hp | hp
              · exact hb p hp
              · cases List.mem_singleton.mp hp
                rfl
      · rintro τ M' ⟨rfl, hb, v1, rfl⟩
        have hall : ∀ p ∈ ls, bbT p = true := fun p hp => hb p (by rw [List.length_map, List.take_length]; exact hp)
        refine ⟨_, hl, fun p1 hp1 => ?_⟩
        rw [show DL.cutD (ls.map lkD) (some 1) none = (ls.drop 1).map lkD from by rw [List.map_drop]; exact cut_drop _ 1]
        refine ⟨_, Sub.new hp1 _ _ hl, fun p2 hp2 => ?_⟩
        rw [show DL.cutD (ls.map lkD) none (some 1) = (ls.take 1).map lkD from by rw [List.map_take]; exact cut_take _ 1]
        have sm : sizeLine = 16777216 := sizeLine_eq
        refine ⟨_, _, Sub.new hp2 _ _ updM_same, updM_same, by rw [List.length_map, List.length_map, List.length_drop, List.length_take]; omega, fun p3 hp3 => ?_⟩
        rw [← List.map_append]
        have hS := ((Sub.new (o := .lst ((ls.drop 1).map lkD)) hp1).trans (Sub.new (o := .lst ((ls.take 1).map lkD)) hp2)).trans (Sub.new (o := .lst ((ls.drop 1 ++ ls.take 1).map lkD)) hp3)
        have h3 : updM (updM (updM M' p1 (.lst ((ls.drop 1).map lkD))) p2 (.lst ((ls.take 1).map lkD))) p3 (.lst ((ls.drop 1 ++ ls.take 1).map lkD)) p3 = some (.lst ((ls.drop 1 ++ ls.take 1).map lkD)) := updM_same
        generalize updM (updM (updM M' p1 (.lst ((ls.drop 1).map lkD))) p2 (.lst ((ls.take 1).map lkD))) p3 (.lst ((ls.drop 1 ++ ls.take 1).map lkD)) = M5 at *
        refine ⟨_, _, hS _ _ hl, h3, ?_⟩
        rw [zipL_map]
        refine ⟨fun i τ M6 => Sub M5 M6 ∧ (∀ z ∈ (ls.zip (ls.drop 1 ++ ls.take 1)).take i, fol z.1 z.2 = true) ∧ ∃ v1 v2, τ = [some (.ref l), v1, v2], ⟨Sub.refl _, fun p hp => (nomatch hp), _, _, rfl⟩, fun _ _ _ _ h => ⟨h.1 _ _ (hS _ _ hl), h.1 _ _ h3⟩, ?_, ?_⟩
        · rintro i d τ M6 ed ⟨hS6, hf, v1, v2, rfl⟩
          rw [List.getElem?_map] at ed
          cases ez : (ls.zip (ls.drop 1 ++ ls.take 1))[i]? with
          | none => rw [ez] at ed; cases ed
          | some z =>
            rw [ez] at ed
            cases ed
            have bad : fol z.1 z.2 = false → rowGood ls = false := fun hf => by
              have ha : ((ls.zip (ls.drop 1 ++ ls.take 1)).all fun z => fol z.1 z.2) = false := List.all_eq_false.mpr ⟨z, List.mem_of_getElem? ez, by rw [hf]; exact Bool.false_ne_true⟩
              unfold rowGood
              rw [ha, Bool.and_false]
            obtain ⟨a, bt, bu⟩ := z
            obtain ⟨ha, hb'⟩ := List.of_mem_zip (List.mem_of_getElem? ez)
            have hbl : (bt, bu) ∈ ls := by
              rcases List.mem_append.mp hb' with h | h
              · exact List.mem_of_mem_drop h
              · exact List.mem_of_mem_take h
            cases bt with
            | block m qs => exact nof (hall _ hbl)
            | blank k =>
              refine ⟨a.2, rfl, (hsz a ha).1, (hsz a ha).2, fun p hp => ?_⟩
              refine .inr ⟨_, updM_same, rfl, flat_ints _, ?_⟩
              show if (!(((inss [] (nums a.2)).map D.int).any fun y => D.eq y (.int k))) = true then _ else _
              rw [any_intsR]
              by_cases hk : k ∈ nums a.2
              · rw [decide_eq_true (inss_mem.mpr (.inr hk))]
                refine ⟨hS6.trans (Sub.new hp), fun z hz => ?_, _, _, rfl⟩
                rw [List.take_add_one, ez] at hz
                rcases List.mem_append.mp hz with hz | hz
                · exact hf z hz
                · cases List.mem_singleton.mp hz
                  exact decide_eq_true hk
              · rw [decide_eq_false (fun z => (inss_mem.mp z).elim (fun z => absurd z List.not_mem_nil) hk)]
                exact ⟨by show 1 ≤ 1000; decide, h2 (bad (decide_eq_false hk)) _ (hS.trans (hS6.trans (Sub.new hp)))⟩
        · rintro τ M6 ⟨hS6, hf, v1, v2, rfl⟩
          refine ⟨_, hS.trans hS6, h1 ?_⟩
          unfold rowGood
          rw [List.all_eq_true.mpr hall, List.all_eq_true.mpr (fun z hz => hf z (by rw [List.length_map, List.take_length]; exact hz))]
          cases ls with
          | nil => exact absurd rfl h0
          | cons a r => rfl
/-! ### the end of a paper, papers walked -/
def lkIdx (ls : List (Tree × Tree)) (n : Int) : Option (Tree × Tree) := if 0 ≤ n then ls[n.toNat]? else none
def RowIs (ls : List (Tree × Tree)) (ns : List Int) (row : List (Tree × Tree)) : Prop := ns.map (lkIdx ls) = row.map some
theorem lkIdx_mem {ls : List (Tree × Tree)} {n : Int} {p : Tree × Tree} (h : lkIdx ls n = some p) : p ∈ ls := by
  unfold lkIdx at h
  by_cases h0 : 0 ≤ n
  · rw [if_pos h0] at h; exact List.mem_of_getElem? h
  · rw [if_neg h0] at h; cases h
theorem lkIdx_none {ls : List (Tree × Tree)} {n : Int} (h : n < 0 ∨ (ls.length : Int) ≤ n) : lkIdx ls n = none := by
  unfold lkIdx
  by_cases h0 : 0 ≤ n
  · rw [if_pos h0, List.getElem?_eq_none (by omega)]
  · rw [if_neg h0]
theorem row_len {ls row : List (Tree × Tree)} {ns : List Int} (h : RowIs ls ns row) : row.length = ns.length := by
  have := congrArg List.length h
  rw [List.length_map, List.length_map] at this
  exact this.symm
theorem row_get {ls row : List (Tree × Tree)} {ns : List Int} (h : RowIs ls ns row) {i : Nat} {n : Int} (e : ns[i]? = some n) : ∃ p, row[i]? = some p ∧ lkIdx ls n = some p := by
  have h1 : (ns.map (lkIdx ls))[i]? = (row.map some)[i]? := by rw [h]
  rw [List.getElem?_map, List.getElem?_map, e] at h1
  cases ep : row[i]? with
  | none => rw [ep] at h1; cases h1
  | some p => rw [ep] at h1; exact ⟨p, rfl, Option.some.inj h1⟩
theorem row_mem {ls row : List (Tree × Tree)} {ns : List Int} (h : RowIs ls ns row) {p : Tree × Tree} (hp : p ∈ row) : p ∈ ls := by
  obtain ⟨i, hi, rfl⟩ := List.getElem_of_mem hp
  have hl := row_len h
  obtain ⟨q, e1, e2⟩ := row_get h (List.getElem?_eq_getElem (l := ns) (i := i) (by omega))
  rw [List.getElem?_eq_getElem hi] at e1
  cases e1
  exact lkIdx_mem e2
theorem row_more {ls row : List (Tree × Tree)} {ns : List Int} {i : Nat} {n : Int} {p : Tree × Tree} (h : RowIs ls (ns.take i) row) (e : ns[i]? = some n) (hp : lkIdx ls n = some p) : RowIs ls (ns.take (i + 1)) (row ++ [p]) := by
  unfold RowIs at h ⊢
  rw [List.take_add_one, e, List.map_append, List.map_append, h]
  show _ ++ [lkIdx ls n] = _ ++ [some p]
  rw [hp]
def GoodP (ls : List (Tree × Tree)) (ns : List Int) : Prop := ∃ row, RowIs ls ns row ∧ rowGood row = true
def BadP (ls : List (Tree × Tree)) (ns : List Int) : Prop := (∃ k ∈ ns, lkIdx ls k = none) ∨ ∃ row, RowIs ls ns row ∧ rowGood row = false
theorem good_bad {ls : List (Tree × Tree)} {ns : List Int} (g : GoodP ls ns) (b : BadP ls ns) : False := by
  obtain ⟨row, h1, h2⟩ := g
  rcases b with ⟨k, hk, e⟩ | ⟨row', h3, h4⟩
  · obtain ⟨i, hi, rfl⟩ := List.getElem_of_mem hk
    obtain ⟨p, _, ep⟩ := row_get h1 (List.getElem?_eq_getElem hi)
    rw [e] at ep
    cases ep
  · have : row.map some = row'.map some := h1.symm.trans h3
    have e : row = row' := by
      have h := congrArg (List.filterMap id) this
      rw [List.filterMap_map, List.filterMap_map] at h
      simpa using h
    rw [e, h4] at h2
    cases h2
theorem none_sub {M M' : DH} {p : Addr} (h : Sub M M') (hp : M' p = none) : M p = none := by
  cases e : M p with
  | none => rfl
  | some o => rw [h p o e] at hp; cases hp
/-! ### the blanks as they first stand -/
theorem ins_split (ks acc : List Int) (n : Int) : ins (ks ++ acc.filter fun k => decide (k ∉ ks)) n = ks ++ (ins acc n).filter fun k => decide (k ∉ ks) := by
  unfold ins
  by_cases h1 : n ∈ ks
  · rw [if_pos (List.mem_append.mpr (.inl h1))]
    by_cases h2 : n ∈ acc
    · rw [if_pos h2]
    · rw [if_neg h2, List.filter_append]
      have : [n].filter (fun k => decide (k ∉ ks)) = [] := by simp [h1]
      rw [this, List.append_nil]
  · by_cases h2 : n ∈ acc
    · rw [if_pos h2, if_pos (List.mem_append.mpr (.inr (List.mem_filter.mpr ⟨h2, by simpa using h1⟩)))]
    · rw [if_neg h2, if_neg (fun z => by
        rcases List.mem_append.mp z with z | z
        · exact h1 z
        · exact h2 (List.mem_filter.mp z).1), List.filter_append]
      have : [n].filter (fun k => decide (k ∉ ks)) = [n] := by simp [h1]
      rw [this, List.append_assoc]
theorem inss_split (ks : List Int) : ∀ (ns acc : List Int), inss (ks ++ acc.filter fun k => decide (k ∉ ks)) ns = ks ++ (inss acc ns).filter fun k => decide (k ∉ ks)
  | [], acc => rfl
  | n :: ns, acc => by
    show inss (ins (ks ++ acc.filter fun k => decide (k ∉ ks)) n) ns = ks ++ (inss (ins acc n) ns).filter fun k => decide (k ∉ ks)
    rw [ins_split, inss_split ks ns (ins acc n)]
theorem inss_more (ks ns : List Int) : ks ++ (inss [] ns).filter (fun k => decide (k ∉ ks)) = inss ks ns := by
  have := inss_split ks ns []
  rw [List.filter_nil, List.append_nil] at this
  exact this.symm
def newOnes (ks : List Int) : D → Option D
  | .int k => if k ∈ ks then none else some (.int k)
  | _ => none
theorem newOnes_map (ks : List Int) : ∀ ns : List Int, (ns.map D.int).filterMap (newOnes ks) = (ns.filter fun k => decide (k ∉ ks)).map D.int
  | [] => rfl
  | n :: ns => by
    rw [List.map_cons, List.filterMap_cons]
    have e : newOnes ks (.int n) = if n ∈ ks then none else some (.int n) := rfl
    rw [e]
    by_cases h : n ∈ ks
    · rw [if_pos h, newOnes_map ks ns, List.filter_cons_of_neg (by simpa using h)]
    · rw [if_neg h, newOnes_map ks ns, List.filter_cons_of_pos (by simpa using h)]; rfl
theorem any_ints (ks : List Int) (n : Int) : ((ks.map D.int).any fun y => D.eq y (.int n)) = decide (n ∈ ks) := by
  induction ks with
  | nil => rfl
  | cons k ks ih =>
    rw [List.map_cons, List.any_cons, ih]
    have : D.eq (.int k) (.int n) = decide (k = n) := rfl
    rw [this]
    by_cases e : k = n
    · subst e; simp
    · have e' : ¬ n = k := fun z => e z.symm
      simp [e, e']
def spBlksC (n : Nat) : SpD := fun ds M Q => ∃ t : Tree, ds = [t.d] ∧ t.depth ≤ n ∧ t.knots ≤ 1000 ∧ ∀ l, M l = none → Q (.ref l) (updM M l (.lst ((inss [] (nums t)).map .int)))
theorem ok_blksC (T : Txt K mg) : ∀ n : Nat, FnD P w K mg base (n + 1) "_law_blanks" ["tree"] (spBlksC n)
  | 0 => (fn_none T.f__law_blanks fun ds M Q ⟨t, _, h, _⟩ => by have := depth_pos t; omega).mono (by omega)
  | n + 1 => by
    have F__law_blanks := ok_blksC T n
    refine def_ok T.f__law_blanks sc__law_blanks (fun ds M Q h => ?_) fun f cdv A outer s H E hr => ⟨_, (ss_cons (s_if (dt_cmp (od_eq hr) (d_ix (d_var 0) d_int) d_str (nomark _)) (ss_one (s_ret (d_lst (a_cons (d_ix (d_var 0) d_int) a_nil)))) ss_nil)
 (ss_cons (s_set (i := 1) sc__law_blanks.nd (d_lst a_nil))
 (ss_cons (s_for PassesOwn.never rfl (d_ix (d_var 0) d_int) (g_name (i := 2) sc__law_blanks.nd) (ss_one (s_set (i := 1) sc__law_blanks.nd (d_op od_add (d_var 1) (d_comp (Nc := ["k", "found"]) (js := [none, some 1]) (comp_okF ["tree", "found", "part"] (defScope s__law_blanks).names rfl rfl rfl rfl (by decide +kernel) (by decide +kernel) (by decide +kernel) rfl (by decide +kernel)) rfl (d_call F__law_blanks (hr.mono (by omega)) (a_cons (d_var 2) a_nil)) (fun C s H fp => (g_name (i := 0) (by show List.Nodup (["k", "found"] : List Str); decide +kernel))) (fun C s H fp => Or.inr ⟨_, rfl, (dt_cmp (od_notinX hr) (d_var 0) (d_var 1) (rfl))⟩) (fun C s H fp => (d_var 0)))))))
 (ss_one (s_ret (d_var 1)))))), fun ds M Q h => ?_⟩
    · obtain ⟨t, rfl, _⟩ := h; rfl
    · obtain ⟨t, rfl, hd, hk, q⟩ := h
      cases t with
      | blank k =>
        show ∀ p, M p = none → _
        intro p hp
        exact ⟨_, Sub.refl _, q p hp⟩
      | block z ps =>
        rw [Tree.depth] at hd
        rw [Tree.knots] at hk
        have h3 := length_knotss ps
        show ∀ p, M p = none → _
        intro p0 hp0
        refine ⟨fun i τ M' => ∃ (a : Addr) (v2 : Option D), M a = none ∧ M' a = some (.lst ((inss [] (numss (ps.take i))).map .int)) ∧ Sub M M' ∧ τ = [some (Tree.block z ps).d, some (.ref a), v2], ⟨p0, none, hp0, updM_same, Sub.new hp0, rfl⟩, fun _ _ _ _ _ => trivial, ?_, ?_⟩
        · rintro i d τ M' ed ⟨a, v2, ha0, ha, hS, rfl⟩
          rw [ds_map, List.getElem?_map] at ed
          cases e : ps[i]? with
          | none => rw [e] at ed; cases ed
          | some u =>
            rw [e] at ed
            cases ed
            have h1 := depth_get e
            have h2 := knots_get e
            have hl1 := inss_len (nums u) []
            have hl2 := nums_len u
            have hl3 := inss_len (numss (ps.take i)) []
            have hl4 := numss_len (ps.take i)
            have hl5 := knotss_take_le ps i
            have hl6 := knotss_take ps i u e
            have hl7 := knotss_take_le ps (i + 1)
            simp only [List.length_nil] at hl1 hl3
            refine ⟨u, rfl, by omega, by omega, fun lb hlb => ?_⟩
            have e4 : inss [] (numss (ps.take (i + 1))) = inss [] (numss (ps.take i)) ++ (inss [] (nums u)).filter (fun k => decide (k ∉ inss [] (numss (ps.take i)))) := by
              rw [numss_take ps i u e, inss_app, inss_more]
            generalize inss [] (numss (ps.take i)) = KS at *
            have hab : updM M' lb (.lst ((inss [] (nums u)).map .int)) a = some (.lst (KS.map .int)) := Sub.new hlb _ _ ha
            have hSb : Sub M (updM M' lb (.lst ((inss [] (nums u)).map .int))) := hS.trans (Sub.new hlb)
            refine ⟨_, updM_same, ⟨by rw [List.length_map]; omega, newOnes KS, fun d hd p acc hp => ?_, fun p hp => ?_⟩⟩
            · obtain ⟨k, _, rfl⟩ := List.mem_map.mp hd
              refine ⟨fgtA, Or.inr ⟨_, Sub.new hp _ _ hab, rfl, flat_ints _, ?_⟩⟩
              rw [any_ints]
              show if (!decide (k ∈ KS)) = true then _ else _
              by_cases c : k ∈ KS
              · rw [decide_eq_true c]; exact ⟨rfl, if_pos c⟩
              · rw [decide_eq_false c]; exact ⟨rfl, if_neg c⟩
            · rw [newOnes_map]
              have hf := List.length_filter_le (fun k => decide (k ∉ KS)) (inss [] (nums u))
              refine ⟨_, _, Sub.new hp _ _ hab, updM_same, by rw [List.length_map, List.length_map]; exact line1000 (by omega), fun p2 hp2 => ?_⟩
              have hSp := hSb.trans (Sub.new (o := .lst ((((inss [] (nums u)).filter fun k => decide (k ∉ KS))).map D.int)) hp)
              refine ⟨p2, _, none_sub hSp hp2, ?_, hSp.trans (Sub.new hp2), rfl⟩
              rw [updM_same, e4, List.map_append]
        · rintro τ M' ⟨a, v2, ha0, ha, hS, rfl⟩
          have e : (Tree.ds ps).length = ps.length := by rw [ds_map, List.length_map]
          rw [e, List.take_length] at ha
          exact ⟨updM M a (.lst ((inss [] (numss ps)).map .int)), fun c o ec => by
            by_cases z : c = a
            · subst z; rw [updM_same] at ec; rw [← ec]; exact ha
            · rw [updM_ne z] at ec; exact hS c o ec, q a ha0⟩
mutual
theorem eqOk_tree : ∀ t u : Tree, D.eqOk t.d u.d = true
  | .block n ps, .block m qs => by simp only [Tree.d, D.eqOk, D.plain, D.eqOks, Bool.and_true, Bool.true_and]; exact eqOks_trees ps qs
  | .block n ps, .blank k => by simp [Tree.d, D.eqOk, D.eqOks]
  | .blank k, .block n ps => by simp [Tree.d, D.eqOk, D.eqOks]
  | .blank k, .blank j => by simp [Tree.d, D.eqOk, D.eqOks]
theorem eqOks_trees : ∀ ts us : List Tree, D.eqOks (Tree.ds ts) (Tree.ds us) = true
  | [], us => by simp [Tree.ds, D.eqOks]
  | t :: ts, [] => by simp [Tree.ds, D.eqOks]
  | t :: ts, u :: us => by simp only [Tree.ds, D.eqOks, eqOk_tree t u, eqOks_trees ts us, Bool.and_true]
end
mutual
theorem dep_tree : ∀ t : Tree, D.dep t.d ≤ 2 * t.depth
  | .block n ps => by
    have := deps_trees ps
    simp only [Tree.d, D.dep, D.deps, Tree.depth]; omega
  | .blank k => by simp [Tree.d, D.dep, D.deps, Tree.depth]
theorem deps_trees : ∀ ts : List Tree, D.deps (Tree.ds ts) ≤ 2 * Tree.depths ts
  | [] => by simp [Tree.ds, D.deps]
  | t :: ts => by
    have h1 := dep_tree t
    have h2 := deps_trees ts
    simp only [Tree.ds, D.deps, Tree.depths]; omega
end
theorem ne_tree {t u : Tree} {M : DH} {Q : KD} (h : t.depth ≤ 70) (q : Q (.bl (!D.eq t.d u.d)) M) : DL.neD t.d u.d M Q := by
  have h1 := eqOk_tree t u
  have h2 := dep_tree t
  cases t with
  | block n ps => cases u with
    | block m qs => exact ⟨h1, by simp only [Tree.d, D.dep] at h2; omega, q⟩
    | blank k => exact ⟨h1, by simp only [Tree.d, D.dep] at h2; omega, q⟩
  | blank j => cases u with
    | block m qs => exact ⟨h1, by simp only [Tree.d, D.dep] at h2; omega, q⟩
    | blank k => exact ⟨h1, by simp only [Tree.d, D.dep] at h2; omega, q⟩
theorem eq_treeD {t u : Tree} {M : DH} {Q : KD} (h : t.depth ≤ 70) (q : Q (.bl (D.eq t.d u.d)) M) : DL.eqD t.d u.d M Q := by
  have h1 := eqOk_tree t u
  have h2 := dep_tree t
  cases t with
  | block n ps => cases u with
    | block m qs => exact ⟨h1, by simp only [Tree.d, D.dep] at h2; omega, q⟩
    | blank k => exact ⟨h1, by simp only [Tree.d, D.dep] at h2; omega, q⟩
  | blank j => cases u with
    | block m qs => exact ⟨h1, by simp only [Tree.d, D.dep] at h2; omega, q⟩
    | blank k => exact ⟨h1, by simp only [Tree.d, D.dep] at h2; omega, q⟩
/-! ### steps -/
inductive Stp where
  | part (e k : Int) | turned (e : Int) | linked (e f : Int) | joined (e : Int)
def Stp.d : Stp → D
  | .part e k => .tup [.str (Str.ofString "part"), .int e, .int k]
  | .turned e => .tup [.str (Str.ofString "turned"), .int e]
  | .linked e f => .tup [.str (Str.ofString "linked"), .int e, .int f]
  | .joined e => .tup [.str (Str.ofString "joined"), .int e, .int 0]
def partIx (p : Tree × Tree) (k : Int) : Option (Tree × Tree) := if sameH p.1 p.2 = true ∧ 0 ≤ k then (p.1.parts[k.toNat]?).bind fun a => (p.2.parts[k.toNat]?).map fun b => (a, b) else none
def linkIx (p q : Tree × Tree) : Option (Tree × Tree) := if D.eq p.2.d q.1.d = true then some (p.1, q.2) else none
def stepOf (ls : List (Tree × Tree)) : Stp → Option (Tree × Tree)
  | .part e k => (lkIdx ls e).bind fun p => partIx p k
  | .turned e => (lkIdx ls e).map fun p => (p.2, p.1)
  | .linked e f => (lkIdx ls e).bind fun p => (lkIdx ls f).bind fun q => linkIx p q
  | .joined _ => none
theorem lkIdx_some {ls : List (Tree × Tree)} {n : Int} {p : Tree × Tree} (h0 : 0 ≤ n) (e : ls[n.toNat]? = some p) : lkIdx ls n = some p := by unfold lkIdx; rw [if_pos h0]; exact e
def spLnk (mg : Str → Option Value) : SpE := fun ds M Q EX => ∃ p q : Tree × Tree, ds = [lkD p, lkD q] ∧ p.2.depth ≤ 70 ∧ (∀ r, linkIx p q = some r → Q (lkD r) M) ∧ (linkIx p q = none → EX (.ref (cl mg "BadPaper")) M)
theorem ok_lnk (T : Txt K mg) : FnE P w K mg base 1 "linked_likeness" ["first", "second"] (spLnk mg) := by
  refine def_okE T.f_linked_likeness sc_linked_likeness (fun ds M Q E h => ?_) fun f cdv A outer s H E EX hr hx hp => ⟨_, (ss_cons (s_if (dt_cmp (od_ne hr) (d_ix (d_var 0) d_int) (d_ix (d_var 1) d_int) (nomark _)) (ss_one (s_raise hx rfl (xc_BadPaper T) (a_cons d_str a_nil))) ss_nil)
 (ss_one (s_ret (d_tup (a_cons (d_ix (d_var 0) d_int) (a_cons (d_ix (d_var 1) d_int) a_nil)))))), fun ds M Q h => ?_⟩
  · obtain ⟨p, q, rfl, _⟩ := h; rfl
  · obtain ⟨⟨p1, p2⟩, ⟨q1, q2⟩, rfl, hd, h1, h2⟩ := h
    refine ne_tree (t := p2) (u := q1) hd ?_
    show if (!D.eq p2.d q1.d) = true then _ else _
    cases e : D.eq p2.d q1.d with
    | true =>
      refine rt_done (h1 (p1, q2) ?_)
      show (if D.eq p2.d q1.d = true then some (p1, q2) else none) = _
      rw [e]; rfl
    | false =>
      refine ⟨by show 1 ≤ 1000; decide, h2 ?_⟩
      show (if D.eq p2.d q1.d = true then some (p1, q2) else none) = _
      rw [e]; rfl
def spByG (mg : Str → Option Value) : SpE := fun ds M Q EX => ∃ (l : Addr) (ls : List (Tree × Tree)) (st : Stp), ds = [st.d, .ref l] ∧ M l = some (.lst (ls.map lkD)) ∧ (∀ p ∈ ls, p.2.depth ≤ 70) ∧ (∀ p, stepOf ls st = some p → Q (lkD p) M) ∧ (stepOf ls st = none → EX (.ref (cl mg "BadPaper")) M)
theorem part_none {p : Tree × Tree} {k : Int} (h : sameH p.1 p.2 = false ∨ k < 0 ∨ (p.1.parts.length : Int) ≤ k) : partIx p k = none := by
  unfold partIx
  by_cases c : sameH p.1 p.2 = true ∧ 0 ≤ k
  · rw [if_pos c, List.getElem?_eq_none (by rcases h with h | h | h; exact absurd c.1 (by rw [h]; exact Bool.false_ne_true); omega; omega)]
    rfl
  · rw [if_neg c]
theorem ok_byG (T : Txt K mg) : FnE P w K mg base 4 "likeness_by" ["step", "likenesses"] (spByG mg) := by
  have m_len := T.m_len
  have E_likeness_at := ok_lkAt (P := P) (w := w) (base := base) T
  have E_parts_likeness := ok_partLk (P := P) (w := w) (base := base) T
  have E_linked_likeness := ok_lnk (P := P) (w := w) (base := base) T
  refine def_okE T.f_likeness_by sc_likeness_by (fun ds M Q E h => ?_) fun f cdv A outer s H E EX hr hx hp => ⟨_, (ss_cons (s_set (i := 2) sc_likeness_by.nd (d_ix (d_var 0) d_int))
 (ss_cons (s_if (dt_cmp (od_ne hr) (d_callB cd_len rfl m_len bt_len (a_cons (d_var 0) a_nil)) (d_ifx (dt_cmp (od_eq hr) (d_var 2) d_str (nomark _)) d_int d_int) (nomark _)) (ss_one (s_raise hx rfl (xc_BadPaper T) (a_cons d_str a_nil))) ss_nil)
 (ss_cons (s_set (i := 3) sc_likeness_by.nd (d_callE E_likeness_at hx.toXCame (hr.mono (by omega)) (a_cons (d_var 1) (a_cons (d_ix (d_var 0) d_int) a_nil))))
 (ss_cons (s_if (dt_cmp (od_eq hr) (d_var 2) d_str (nomark _)) (ss_one (s_ret (d_tup (a_cons (d_ix (d_var 3) d_int) (a_cons (d_ix (d_var 3) d_int) a_nil))))) ss_nil)
 (ss_cons (s_if (dt_cmp (od_eq hr) (d_var 2) d_str (nomark _)) (ss_one (s_ret (d_callE E_parts_likeness hx.toXCame (hr.mono (by omega)) (a_cons (d_var 3) (a_cons (d_ix (d_var 0) d_int) a_nil))))) ss_nil)
 (ss_cons (s_if (dt_cmp (od_eq hr) (d_var 2) d_str (nomark _)) (ss_one (s_ret (d_callE E_linked_likeness hx.toXCame (hr.mono (by omega)) (a_cons (d_var 3) (a_cons (d_callE E_likeness_at hx.toXCame (hr.mono (by omega)) (a_cons (d_var 1) (a_cons (d_ix (d_var 0) d_int) a_nil))) a_nil))))) ss_nil)
 (ss_one (s_raise hx rfl (xc_BadPaper T) (a_cons d_str a_nil))))))))), fun ds M Q h => ?_⟩
  · obtain ⟨l, ls, st, rfl, _⟩ := h; rfl
  · obtain ⟨l, ls, st, rfl, hl, hd, h1, h2⟩ := h
    cases st with
    | turned e =>
      refine ⟨l, ls, e, rfl, hl, fun p h0 ep => ?_, fun z => ⟨_, Sub.refl _, h2 (by show (lkIdx ls e).map _ = _; rw [lkIdx_none z]; rfl)⟩⟩
      have q := h1 (p.2, p.1) (by show (lkIdx ls e).map _ = _; rw [lkIdx_some h0 ep]; rfl)
      exact rt_done q
    | joined e =>
      refine ⟨l, ls, e, rfl, hl, fun p h0 ep => ?_, fun z => ⟨_, Sub.refl _, h2 rfl⟩⟩
      exact ⟨by show 1 ≤ 1000; decide, h2 rfl⟩
    | part e k =>
      refine ⟨l, ls, e, rfl, hl, fun p h0 ep => ?_, fun z => ⟨_, Sub.refl _, h2 (by show (lkIdx ls e).bind _ = _; rw [lkIdx_none z]; rfl)⟩⟩
      have es : stepOf ls (.part e k) = partIx p k := by show (lkIdx ls e).bind _ = _; rw [lkIdx_some h0 ep]; rfl
      refine ⟨p, k, rfl, fun a b hs hk ea eb => ?_, fun z => ⟨_, Sub.refl _, h2 (es.trans (part_none z))⟩⟩
      refine rt_done (h1 (a, b) ?_)
      rw [es]
      unfold partIx
      rw [if_pos ⟨hs, hk⟩, ea, eb]
      rfl
    | linked e f' =>
      refine ⟨l, ls, e, rfl, hl, fun p h0 ep => ?_, fun z => ⟨_, Sub.refl _, h2 (by show (lkIdx ls e).bind _ = _; rw [lkIdx_none z]; rfl)⟩⟩
      refine ⟨l, ls, f', rfl, hl, fun q k0 eq => ?_, fun z => ⟨_, Sub.refl _, h2 (by show (lkIdx ls e).bind _ = _; rw [lkIdx_some h0 ep]; show (lkIdx ls f').bind _ = _; rw [lkIdx_none z]; rfl)⟩⟩
      have es : stepOf ls (.linked e f') = linkIx p q := by show (lkIdx ls e).bind _ = _; rw [lkIdx_some h0 ep]; show (lkIdx ls f').bind _ = _; rw [lkIdx_some k0 eq]; rfl
      exact ⟨p, q, rfl, hd p (List.mem_of_getElem? ep), fun r hr' => rt_done (h1 r (es.trans hr')), fun z => ⟨_, Sub.refl _, h2 (es.trans z)⟩⟩
/-! ### ends -/
inductive End where
  | unlike (e : Int) | within (ns : List Int) | alike
def unlikeB : Tree × Tree → Bool
  | (.block n ps, .block m qs) => !sameH (.block n ps) (.block m qs)
  | _ => false
def spUnl : SpD := fun ds M Q => ∃ p : Tree × Tree, ds = [p.1.d, p.2.d] ∧ Q (.bl (unlikeB p)) M
theorem ok_unl (T : Txt K mg) : FnD P w K mg base 3 "unlike_blocks" ["one", "other"] spUnl := by
  have F_same_head := ok_same (P := P) (w := w) (base := base) T
  refine def_ok T.f_unlike_blocks sc_unlike_blocks (fun ds M Q h => ?_) fun f cdv A outer s H E hr => ⟨_, (ss_cons (s_if (PW.pt (dw_or (dt_cmp (od_eq hr) (d_ix (d_var 0) d_int) d_str (nomark _)) (dw_or1 (dt_cmp (od_eq hr) (d_ix (d_var 1) d_int) d_str (nomark _))))) (ss_one (s_ret d_bl)) ss_nil)
 (ss_one (s_ret (d_not (d_call F_same_head (hr.mono (by omega)) (a_cons (d_var 0) (a_cons (d_var 1) a_nil))))))), fun ds M Q h => ?_⟩
  · obtain ⟨p, rfl, _⟩ := h; rfl
  · obtain ⟨⟨t, u⟩, rfl, q⟩ := h
    cases t with
    | blank k => exact rt_done q
    | block n ps => cases u with
      | blank k => exact rt_done q
      | block m qs => exact ⟨.block n ps, .block m qs, rfl, rt_done q⟩
/-- how an end lies -/
def EndAt (M : DH) : End → D → Prop
  | .unlike e, d => d = .tup [.str (Str.ofString "unlike"), .int e]
  | .within ns, d => ∃ r, d = .tup [.str (Str.ofString "within"), .ref r] ∧ M r = some (.lst (ns.map .int))
  | .alike, d => d = .tup [.str (Str.ofString "alike"), .int 0]
theorem EndAt.sub {M M' : DH} {e : End} {d : D} (h : EndAt M e d) (s : Sub M M') : EndAt M' e d := by
  cases e with
  | unlike e => exact h
  | alike => exact h
  | within ns => obtain ⟨r, h1, h2⟩ := h; exact ⟨r, h1, s _ _ h2⟩
def GoodE (ls : List (Tree × Tree)) : End → Prop
  | .unlike e => ∃ p, lkIdx ls e = some p ∧ unlikeB p = true
  | .within ns => GoodP ls ns
  | .alike => False
def BadE (ls : List (Tree × Tree)) : End → Prop
  | .unlike e => ∀ p, lkIdx ls e = some p → unlikeB p = false
  | .within ns => BadP ls ns
  | .alike => True
theorem goodE_bad {ls : List (Tree × Tree)} {e : End} (g : GoodE ls e) (b : BadE ls e) : False := by
  cases e with
  | unlike e => obtain ⟨p, h1, h2⟩ := g; rw [b p h1] at h2; cases h2
  | within ns => exact good_bad g b
  | alike => exact g
def End.len : End → Nat
  | .within ns => ns.length
  | _ => 0
def spEndG (mg : Str → Option Value) (n : Nat) : SpE := fun ds M Q EX => ∃ (l : Addr) (ls : List (Tree × Tree)) (e : End) (d : D), ds = [d, .ref l] ∧ EndAt M e d ∧ M l = some (.lst (ls.map lkD)) ∧ e.len ≤ 1000 ∧ (∀ p ∈ ls, p.2.depth ≤ n ∧ p.2.knots ≤ 1000) ∧
  (GoodE ls e → Q .non M) ∧ (BadE ls e → ∀ M1, Sub M M1 → EX (.ref (cl mg "BadPaper")) M1)
theorem ok_endG (T : Txt K mg) (n : Nat) : FnE P w K mg base (n + 4) "refuse_loose_end" ["end", "likenesses"] (spEndG mg n) := by
  have E_likeness_at := ok_lkAt (P := P) (w := w) (base := base) T
  have E_refuse_loose_row := ok_row (P := P) (w := w) (base := base) T n
  have F_unlike_blocks := ok_unl (P := P) (w := w) (base := base) T
  refine def_okC T.f_refuse_loose_end sc_refuse_loose_end (fun ds M Q E h => ?_) fun f cdv A outer s H E EX hr hx hh hp => ⟨_, (ss_one (s_if (dt_cmp (od_eq hr) (d_ix (d_var 0) d_int) d_str (nomark _)) (ss_cons (s_set (i := 2) sc_refuse_loose_end.nd (d_callE E_likeness_at hx.toXCame (hr.mono (by omega)) (a_cons (d_var 1) (a_cons (d_ix (d_var 0) d_int) a_nil))))
 (ss_one (s_if (dt_not (dt_val (d_call F_unlike_blocks (hr.mono (by omega)) (a_cons (d_ix (d_var 2) d_int) (a_cons (d_ix (d_var 2) d_int) a_nil))))) (ss_one (s_raise hx rfl (xc_BadPaper T) (a_cons d_str a_nil))) ss_nil))) (ss_one (s_if (dt_cmp (od_eq hr) (d_ix (d_var 0) d_int) d_str (nomark _)) (ss_one (s_expr (d_callE E_refuse_loose_row hx.toXCame (hr.mono (by omega)) (a_cons (d_compLE (Nc := ["number", "likenesses"]) (js := [none, some 1]) (comp_okF ["end", "likenesses", "likeness"] (defScope s_refuse_loose_end).names rfl rfl rfl rfl (by decide +kernel) (by decide +kernel) (by decide +kernel) rfl (by decide +kernel)) rfl hh rfl rfl rfl (d_ix (d_var 0) d_int) (fun C s H fp E => (g_name (i := 0) (by show List.Nodup (["number", "likenesses"] : List Str); decide +kernel))) (fun C s H fp E hx => (d_callE E_likeness_at hx (hr.mono (by omega)) (a_cons (d_var 1) (a_cons (d_var 0) a_nil))))) a_nil)))) (ss_one (s_raise hx rfl (xc_BadPaper T) (a_cons d_str a_nil))))))), fun ds M Q h => ?_⟩
  · obtain ⟨l, ls, e, d, rfl, _⟩ := h; rfl
  · obtain ⟨l, ls, e, d, rfl, he, hl, hz, hsz, h1, h2⟩ := h
    cases e with
    | alike =>
      have he' : d = .tup [.str (Str.ofString "alike"), .int 0] := he
      subst he'
      exact ⟨by show 1 ≤ 1000; decide, h2 trivial _ (Sub.refl _)⟩
    | unlike e =>
      have he' : d = .tup [.str (Str.ofString "unlike"), .int e] := he
      subst he'
      refine ⟨l, ls, e, rfl, hl, fun p h0 ep => ?_, fun z => ⟨_, Sub.refl _, h2 (fun p hp' => by rw [lkIdx_none z] at hp'; cases hp') _ (Sub.refl _)⟩⟩
      have ek := lkIdx_some h0 ep
      refine ⟨p, rfl, ?_⟩
      show if (!unlikeB p) = true then _ else _
      cases eu : unlikeB p with
      | true => exact ⟨M, Sub.refl _, h1 ⟨p, ek, eu⟩⟩
      | false => exact ⟨by show 1 ≤ 1000; decide, h2 (fun p' hp' => by rw [ek] at hp'; cases hp'; exact eu) _ (Sub.refl _)⟩
    | within ns =>
    obtain ⟨r, he', hr'⟩ := he
    subst he'
    have hz' : ns.length ≤ 1000 := hz
    refine ⟨_, hr', by rw [List.length_map]; omega, fun p hp => ?_⟩
    refine ⟨fun i xs M' => ∃ row, RowIs ls (ns.take i) row ∧ xs = row.map lkD ∧ i ≤ ns.length ∧ M' = updM M p (.lst xs), ⟨[], rfl, rfl, Nat.zero_le _, rfl⟩, fun i xs M' hw => ?_, fun i d xs M' ed hw => ?_, fun xs M' hw => ?_⟩
    · obtain ⟨row, _, _, _, rfl⟩ := hw
      exact Sub.new hp _ _ hr'
    · obtain ⟨row, hrow, rfl, hi, rfl⟩ := hw
      rw [List.getElem?_map] at ed
      cases en : ns[i]? with
      | none => rw [en] at ed; cases ed
      | some k =>
        rw [en] at ed
        cases ed
        have hi' := (List.getElem?_eq_some_iff.mp en).1
        refine ⟨by rw [List.length_map, row_len hrow, List.length_take]; omega, fgtA, l, ls, k, rfl, Sub.new hp _ _ hl, fun q h0 eq => ?_, fun bad => ⟨_, Sub.refl _, h2 (.inl ⟨k, List.mem_of_getElem? en, lkIdx_none bad⟩) _ (Sub.new hp)⟩⟩
        have ek : lkIdx ls k = some q := lkIdx_some h0 eq
        refine ⟨updM_same, row ++ [q], row_more hrow en ek, by rw [List.map_append]; rfl, hi', ?_⟩
        rw [updM_upd]
    · obtain ⟨row, hrow, rfl, _, rfl⟩ := hw
      rw [List.length_map, List.take_length] at hrow
      refine ⟨p, row, rfl, updM_same, by rw [row_len hrow]; exact hz', fun q hq => hsz q (row_mem hrow hq), fun hg => ⟨M, Sub.new hp, h1 ⟨row, hrow, hg⟩⟩, fun hb M1 hs => ⟨_, Sub.refl _, h2 (.inr ⟨row, hrow, hb⟩) _ ((Sub.new hp).trans hs)⟩⟩
/-! ### papers walked -/
/-- the likenesses behind steps; none where one of them is bad -/
def walkAll (ls : List (Tree × Tree)) : List Stp → Option (List (Tree × Tree))
  | [] => some ls
  | st :: r => (stepOf ls st).bind fun p => walkAll (ls ++ [p]) r
def OkLs (n : Nat) (ls : List (Tree × Tree)) : Prop := ∀ p ∈ ls, (p.1.depth ≤ n ∧ p.1.knots ≤ 1000) ∧ (p.2.depth ≤ n ∧ p.2.knots ≤ 1000)
theorem part_sizes {t u : Tree} {i : Nat} (h : t.parts[i]? = some u) : u.depth ≤ t.depth ∧ u.knots ≤ t.knots := by
  have h1 := depth_get h
  have h2 := knots_get h
  rw [depth_parts t, knots_parts t]
  exact ⟨by omega, by omega⟩
theorem step_ok {n : Nat} {ls : List (Tree × Tree)} (h : OkLs n ls) {st : Stp} {p : Tree × Tree} (e : stepOf ls st = some p) : OkLs n (ls ++ [p]) := by
  have hp : (p.1.depth ≤ n ∧ p.1.knots ≤ 1000) ∧ (p.2.depth ≤ n ∧ p.2.knots ≤ 1000) := by
    cases st with
    | joined e => cases e
    | turned k =>
      cases ek : lkIdx ls k with
      | none =>
        have e' : (lkIdx ls k).map (fun p => (p.2, p.1)) = some p := e
        rw [ek] at e'; cases e'
      | some q =>
        have e' : (lkIdx ls k).map (fun p => (p.2, p.1)) = some p := e
        rw [ek] at e'; cases e'
        exact ⟨(h q (lkIdx_mem ek)).2, (h q (lkIdx_mem ek)).1⟩
    | part k j =>
      have e' : ((lkIdx ls k).bind fun p => partIx p j) = some p := e
      cases ek : lkIdx ls k with
      | none => rw [ek] at e'; cases e'
      | some q =>
        rw [ek] at e'
        have e2 : partIx q j = some p := e'
        unfold partIx at e2
        by_cases c : sameH q.1 q.2 = true ∧ 0 ≤ j
        · rw [if_pos c] at e2
          cases ea : q.1.parts[j.toNat]? with
          | none => rw [ea] at e2; cases e2
          | some a => cases eb : q.2.parts[j.toNat]? with
            | none => rw [ea, eb] at e2; cases e2
            | some b =>
              rw [ea, eb] at e2
              cases e2
              obtain ⟨⟨q1, q2⟩, q3, q4⟩ := h q (lkIdx_mem ek)
              have a1 := part_sizes ea
              have b1 := part_sizes eb
              exact ⟨⟨by show a.depth ≤ n; omega, by show a.knots ≤ 1000; omega⟩, by show b.depth ≤ n; omega, by show b.knots ≤ 1000; omega⟩
        · rw [if_neg c] at e2; cases e2
    | linked k j =>
      have e' : ((lkIdx ls k).bind fun p => (lkIdx ls j).bind fun q => linkIx p q) = some p := e
      cases ek : lkIdx ls k with
      | none => rw [ek] at e'; cases e'
      | some q => cases ej : lkIdx ls j with
        | none => rw [ek, ej] at e'; cases e'
        | some r =>
          rw [ek, ej] at e'
          have e2 : linkIx q r = some p := e'
          unfold linkIx at e2
          by_cases c : D.eq q.2.d r.1.d = true
          · rw [if_pos c] at e2; cases e2
            exact ⟨(h q (lkIdx_mem ek)).1, (h r (lkIdx_mem ej)).2⟩
          · rw [if_neg c] at e2; cases e2
  intro q hq
  rcases List.mem_append.mp hq with hq | hq
  · exact h q hq
  · cases List.mem_singleton.mp hq; exact hp
def spWalkG (mg : Str → Option Value) (n : Nat) : SpE := fun ds M Q EX => ∃ (one other : Tree) (st : Addr) (sts : List Stp) (e : End) (d : D), ds = [one.d, other.d, .tup [.ref st, d]] ∧ M st = some (.lst (sts.map Stp.d)) ∧ EndAt M e d ∧ sts.length ≤ 100 ∧ e.len ≤ 1000 ∧ n ≤ 70 ∧ OkLs n [(one, other)] ∧
  (∀ ls, walkAll [(one, other)] sts = some ls → GoodE ls e → ∀ l, M l = none → Q (.ref l) (updM M l (.lst (ls.map lkD)))) ∧
  ((walkAll [(one, other)] sts = none ∨ ∃ ls, walkAll [(one, other)] sts = some ls ∧ BadE ls e) → ∀ M1, Sub M M1 → EX (.ref (cl mg "BadPaper")) M1)
theorem walk_split : ∀ (a b : List Stp) (ls : List (Tree × Tree)), walkAll ls (a ++ b) = (walkAll ls a).bind fun m => walkAll m b
  | [], b, ls => rfl
  | s :: a, b, ls => by
    rw [List.cons_append]
    show (stepOf ls s).bind _ = ((stepOf ls s).bind _).bind _
    cases stepOf ls s with
    | none => rfl
    | some p => exact walk_split a b (ls ++ [p])
theorem walk_one {sts : List Stp} {i : Nat} {s : Stp} (h : sts[i]? = some s) (ls : List (Tree × Tree)) : walkAll ls (sts.take (i + 1)) = (walkAll ls (sts.take i)).bind fun m => (stepOf m s).map fun p => m ++ [p] := by
  rw [List.take_add_one, h, walk_split]
  congr 1
  funext m
  show (stepOf m s).bind _ = _
  cases stepOf m s <;> rfl
theorem walk_none {sts : List Stp} {i : Nat} {ls : List (Tree × Tree)} (h : walkAll ls (sts.take i) = none) : walkAll ls sts = none := by
  rw [← List.take_append_drop i sts, walk_split, h]; rfl
theorem ok_walkG (T : Txt K mg) (n : Nat) : FnE P w K mg base (n + 6) "walked" ["one", "other", "paper"] (spWalkG mg n) := by
  have E_likeness_by := ok_byG (P := P) (w := w) (base := base) T
  have E_refuse_loose_end := ok_endG (P := P) (w := w) (base := base) T n
  refine def_okE T.f_walked sc_walked (fun ds M Q E h => ?_) fun f cdv A outer s H E EX hr hx hp => ⟨_, (ss_cons (s_set (i := 3) sc_walked.nd (d_lst (a_cons (d_tup (a_cons (d_var 0) (a_cons (d_var 1) a_nil))) a_nil)))
 (ss_cons (s_for hp rfl (d_ix (d_var 2) d_int) (g_name (i := 4) sc_walked.nd) (ss_one (s_expr (d_bm PySem.F.plainAttrs_list PySem.F.slot_list_append PySem.F.type_list_append md_append (d_var 3) (a_cons (d_callE E_likeness_by hx.toXCame (hr.mono (by omega)) (a_cons (d_var 4) (a_cons (d_var 3) a_nil))) a_nil)))))
 (ss_cons (s_expr (d_callE E_refuse_loose_end hx.toXCame (hr.mono (by omega)) (a_cons (d_ix (d_var 2) d_int) (a_cons (d_var 3) a_nil))))
 (ss_one (s_ret (d_var 3)))))), fun ds M Q h => ?_⟩
  · obtain ⟨one, other, st, sts, e, d, rfl, _⟩ := h; rfl
  · obtain ⟨one, other, st, sts, e, d, rfl, hst, he, hsl, hel, hn, hok, h1, h2⟩ := h
    show ∀ l, M l = none → _
    intro l hl
    refine ⟨_, Sub.new hl _ _ hst, fun i τ M' => ∃ (ls : List (Tree × Tree)) (v : Option D), walkAll [(one, other)] (sts.take i) = some ls ∧ OkLs n ls ∧ ls.length = i + 1 ∧ M' = updM M l (.lst (ls.map lkD)) ∧ τ = [some one.d, some other.d, some (.tup [.ref st, d]), some (.ref l), v], ⟨[(one, other)], none, rfl, hok, rfl, rfl, rfl⟩, fun i τ M' _ hw => ?_, ?_, ?_⟩
    · obtain ⟨ls, v, _, _, _, rfl, _⟩ := hw; exact Sub.new hl _ _ hst
    · rintro i d' τ M' ed ⟨ls, v, hw, ho, hll, rfl, rfl⟩
      rw [List.getElem?_map] at ed
      cases es : sts[i]? with
      | none => rw [es] at ed; cases ed
      | some s' =>
        rw [es] at ed
        cases ed
        have hi := (List.getElem?_eq_some_iff.mp es).1
        refine ⟨⟨rfl, _, updM_same⟩, l, ls, s', rfl, updM_same, fun p hp' => by have := (ho p hp').2.1; omega, fun p ep => ?_, fun z => ?_⟩
        · refine ⟨_, updM_same, by rw [List.length_map]; exact small1000 (by omega), ls ++ [p], _, ?_, step_ok ho ep, by rw [List.length_append, hll]; rfl, ?_, rfl⟩
          · rw [walk_one es, hw]
            show (stepOf ls s').map _ = _
            rw [ep]; rfl
          · rw [updM_upd, List.map_append]; rfl
        · refine ⟨_, Sub.refl _, h2 (.inl (walk_none (i := i + 1) ?_)) _ (Sub.new hl)⟩
          rw [walk_one es, hw]
          show (stepOf ls s').map _ = _
          rw [z]; rfl
    · rintro τ M' ⟨ls, v, hw, ho, hll, rfl, rfl⟩
      rw [List.length_map, List.take_length] at hw
      refine ⟨l, ls, e, d, rfl, he.sub (Sub.new hl), updM_same, hel, fun p hp' => (ho p hp').2, fun hg => ?_, fun hb M1 hs => ⟨_, Sub.refl _, h2 (.inr ⟨ls, hw, hb⟩) _ ((Sub.new hl).trans hs)⟩⟩
      exact rt_done (h1 ls hw hg l hl)
theorem seq_any {a u : TSd} {E : EndsD} {τ : DSt} {M : DH} (W : DSt → DH → Prop) (hu : ∀ τ' M', W τ' M' → u E τ' M') (h : ∀ R : DSt → DH → Prop, (∀ τ' M', W τ' M' → R τ' M') → a { E with nx := R } τ M) : DL.sSeq a u E τ M := h (u E) hu
mutual
/-- no block has more than nine parts -/
def w9 : Tree → Prop
  | .block _ ps => ps.length ≤ 9 ∧ w9s ps
  | .blank _ => True
def w9s : List Tree → Prop
  | [] => True
  | t :: ts => w9 t ∧ w9s ts
end
theorem w9s_app : ∀ {a b : List Tree}, w9s a → w9s b → w9s (a ++ b)
  | [], _, _, h => h
  | _ :: _, _, h1, h2 => ⟨h1.1, w9s_app h1.2 h2⟩
theorem w9s_get : ∀ {ts : List Tree} {t : Tree}, w9s ts → t ∈ ts → w9 t
  | u :: ts, t, h, ht => by
    rcases List.mem_cons.mp ht with rfl | ht
    · exact h.1
    · exact w9s_get h.2 ht
theorem knotss_appC : ∀ (a b : List Tree), Tree.knotss (a ++ b) = Tree.knotss a + Tree.knotss b
  | [], b => by simp [Tree.knotss]
  | t :: a, b => by rw [List.cons_append, Tree.knotss, Tree.knotss, knotss_appC a b]; omega
theorem depths_appC : ∀ (a b : List Tree), Tree.depths (a ++ b) = max (Tree.depths a) (Tree.depths b)
  | [], b => by simp [Tree.depths]
  | t :: a, b => by rw [List.cons_append, Tree.depths, Tree.depths, depths_appC a b]; omega
structure GrowS (M M' : DH) (lx lp : Addr) (ys : List Int) (ps : List Tree) : Prop where
  px : M' lx = some (.lst (ys.map .int))
  pp : M' lp = some (.lst (ps.map Tree.d))
  p0 : M lp = none
  ne : lx ≠ lp
  sub : Sub M M'
theorem GrowS.fresh {M M' : DH} {lx lp p : Addr} {ys : List Int} {ps : List Tree} {o : MO} (h : GrowS M M' lx lp ys ps) (hp : M' p = none) : GrowS M (updM M' p o) lx lp ys ps :=
  ⟨Sub.new hp _ _ h.px, Sub.new hp _ _ h.pp, h.p0, h.ne, h.sub.trans (Sub.new hp)⟩
theorem GrowS.push {M M' : DH} {lx lp : Addr} {ys : List Int} {ps : List Tree} (h : GrowS M M' lx lp ys ps) (t : Tree) : GrowS M (updM M' lp (.lst (ps.map Tree.d ++ [t.d]))) lx lp ys (ps ++ [t]) :=
  ⟨by rw [updM_ne h.ne]; exact h.px, by rw [updM_same, List.map_append]; rfl, h.p0, h.ne, sub_upd h.sub h.p0⟩
def spGrow (n : Nat) : SpD := fun ds M Q => ∃ (lc : Addr) (cs : List Int) (a deep : Nat) (ln : Addr) (xs : List D) (first : Int), ds = [.ref lc, .int a, .int deep, .ref ln, .int first] ∧ deep < n ∧ M lc = some (.lst (cs.map .int)) ∧ M ln = some (.lst xs) ∧ NamesC xs ∧ cs.length ≤ 60 ∧
  ∀ (t : Tree) (a' : Nat), a ≤ a' → a' ≤ max a cs.length → t.depth ≤ deep + 1 → t.knots + 3 * a ≤ 3 * a' + 1 + (if a = 0 then 6 else 0) → w9 t → Q (.tup [t.d, .int a']) M
theorem ok_grow (T : Txt K mg) : ∀ n : Nat, FnD P w K mg base (n + 2) "_law_grow" ["cells", "at", "deep", "names", "first"] (spGrow n)
  | 0 => (fn_none T.f__law_grow fun ds M Q ⟨_, _, _, deep, _, _, _, _, h, _⟩ => by omega).mono (by omega)
  | n + 1 => by
    have m_int := T.m_int
    have m_len := T.m_len
    have m_range := T.m_range
    have m_tuple := T.m_tuple
    have F__law_grow := ok_grow T n
    have F__law_stream := ok_stream (P := P) (w := w) (base := base) T
    have F__law_number := ok_numC (P := P) (w := w) (base := base) T
    refine def_ok T.f__law_grow sc__law_grow (fun ds M Q h => ?_) fun f cdv A outer s H E hr => ⟨_, (ss_cons (s_if (dt_cmp od_ge (d_var 1) (d_callB cd_len rfl m_len bt_len (a_cons (d_var 0) a_nil)) (nomark _)) (ss_one (s_ret (d_tup (a_cons (d_tup (a_cons d_str (a_cons (d_ix (d_var 3) d_int) (a_cons (d_tup a_nil) a_nil)))) (a_cons (d_var 1) a_nil))))) ss_nil)
 (ss_cons (s_set (i := 5) sc__law_grow.nd (d_call F__law_stream (hr.mono (by omega)) (a_cons (d_ix (d_var 0) (d_var 1)) (a_cons d_int a_nil))))
 (ss_cons (s_set (i := 1) sc__law_grow.nd (d_op od_add (d_var 1) d_int))
 (ss_cons (s_if (dt_cmp (od_eq hr) (d_op od_mod (d_ix (d_var 5) d_int) d_int) d_int (nomark _)) (ss_one (s_ret (d_tup (a_cons (d_tup (a_cons d_str (a_cons (d_call F__law_number (hr.mono (by omega)) (a_cons (d_var 4) (a_cons (d_op od_mod (d_ix (d_var 5) d_int) d_int) a_nil))) a_nil))) (a_cons (d_var 1) a_nil))))) ss_nil)
 (ss_cons (s_set (i := 6) sc__law_grow.nd (d_lst a_nil))
 (ss_cons (s_if (dt_cmp od_gt (d_var 2) d_int (nomark _)) (ss_one (s_for1 PassesOwn.never rfl m_range (a_cons (d_ix (d_lst (a_cons d_int (a_cons d_int (a_cons d_int (a_cons d_int (a_cons d_int (a_cons d_int a_nil))))))) (d_op od_mod (d_ix (d_var 5) d_int) (d_ix (d_lst (a_cons d_int (a_cons d_int a_nil))) (d_callTy cd_int rfl m_int bt_int (a_cons (d_cmp (od_eq hr) (d_var 1) d_int (nomark _)) a_nil))))) a_nil) (g_name (i := 7) sc__law_grow.nd) (ss_cons (s_asg (d_call F__law_grow (hr.mono (by omega)) (a_cons (d_var 0) (a_cons (d_var 1) (a_cons (d_op od_sub (d_var 2) d_int) (a_cons (d_var 3) (a_cons (d_var 4) a_nil)))))) (g_tup rfl (gs_cons (g_name (i := 8) sc__law_grow.nd) (gs_cons (g_name (i := 1) sc__law_grow.nd) gs_nil)) len_2))
 (ss_one (s_expr (d_bm PySem.F.plainAttrs_list PySem.F.slot_list_append PySem.F.type_list_append md_append (d_var 6) (a_cons (d_var 8) a_nil))))))) ss_nil)
 (ss_one (s_ret (d_tup (a_cons (d_tup (a_cons d_str (a_cons (d_ix (d_var 3) (d_op od_mod (d_ix (d_var 5) d_int) d_int)) (a_cons (d_callTy cd_tuple rfl m_tuple bt_tuple (a_cons (d_var 6) a_nil)) a_nil)))) (a_cons (d_var 1) a_nil))))))))))), fun ds M Q h => ?_⟩
    · obtain ⟨lc, cs, a, deep, ln, xs, first, rfl, _⟩ := h; rfl
    · obtain ⟨lc, cs, a, deep, ln, xs, first, rfl, hdn, hlc, hln, hx, hc60, q⟩ := h
      have hname : ∀ i : Int, 0 ≤ i → i < 5 → ∃ z : Str, atI xs i = some (.str z) := fun i h0 h1 => by
        obtain ⟨d, hd⟩ := at_some (xs := xs) h0 (by rw [hx.1]; omega)
        obtain ⟨j, _, hj, _⟩ := atI_get hd
        obtain ⟨z, rfl⟩ := hx.2 d (List.mem_of_getElem? hj)
        exact ⟨z, hd⟩
      refine ⟨_, hlc, ?_⟩
      show if decide ((((cs.map D.int).length : Nat) : Int) ≤ (a : Int)) = true then _ else _
      rw [List.length_map]
      by_cases ha : cs.length ≤ a
      · rw [decide_eq_true (show ((cs.length : Nat) : Int) ≤ (a : Int) by omega), if_pos rfl]
        obtain ⟨z, hz⟩ := hname 0 (by decide) (by decide)
        refine ⟨xs, _, hln, hz, ?_⟩
        exact rt_done (q (.block z []) a (Nat.le_refl _) (by omega) (by show 0 + 1 ≤ _; omega) (by show 0 + 1 + _ ≤ _; omega) ⟨by decide, trivial⟩)
      · rw [decide_eq_false (show ¬ ((cs.length : Nat) : Int) ≤ (a : Int) by omega), if_neg Bool.false_ne_true]
        have hal : a < cs.length := by omega
        refine ⟨_, .int cs[a], hlc, atI_nat (by rw [List.getElem?_map, List.getElem?_eq_getElem hal]; rfl), cs[a], 4, rfl, by decide, fun lx ys hlx hyl hy0 => ?_⟩
        obtain ⟨y0, e0, p0⟩ := nn_ix (k := 0) hyl (by decide) hy0
        obtain ⟨y1, e1, p1⟩ := nn_ix (k := 1) hyl (by decide) hy0
        obtain ⟨y2, e2, p2⟩ := nn_ix (k := 2) hyl (by decide) hy0
        obtain ⟨y3, e3, p3⟩ := nn_ix (k := 3) hyl (by decide) hy0
        have hS1 : Sub M (updM M lx (.lst (ys.map .int))) := Sub.new hlx
        have hX : updM M lx (.lst (ys.map .int)) lx = some (.lst (ys.map .int)) := updM_same
        generalize updM M lx (.lst (ys.map .int)) = M1 at *
        refine ⟨_, _, hX, e0, by show (0 : Int) < 4; decide, ?_⟩
        show if decide (y0 % 4 = 0) = true then _ else _
        by_cases hy : y0 % 4 = 0
        · rw [decide_eq_true hy, if_pos rfl]
          have b1 := Int.emod_nonneg y1 (b := 4) (by decide)
          have b2 := Int.emod_lt_of_pos y1 (b := 4) (by decide)
          refine ⟨_, _, hX, e1, by show (0 : Int) < 4; decide, first, y1 % 4, rfl, ⟨b1, by omega⟩, fun r hr => ?_⟩
          exact ⟨M, hS1, q (.blank r) (a + 1) (by omega) (by omega) (by show 1 ≤ _; omega) (by show 1 + _ ≤ _; omega) trivial⟩
        · rw [decide_eq_false hy, if_neg Bool.false_ne_true]
          show ∀ lp, M1 lp = none → _
          intro lp hlp
          have G0 : GrowS M (updM M1 lp (.lst [])) lx lp ys [] := ⟨Sub.new hlp _ _ hX, updM_same, none_sub hS1 hlp, (by intro z; subst z; rw [hX] at hlp; cases hlp), hS1.trans (Sub.new hlp)⟩
          generalize updM M1 lp (.lst []) = M2 at *
          dsimp only [DL.hName]
          refine seq_any (fun τ' M' => ∃ (ps : List Tree) (a' : Nat) (v7 v8 : Option D), GrowS M M' lx lp ys ps ∧ a + 1 ≤ a' ∧ a' ≤ cs.length ∧ Tree.depths ps ≤ deep ∧ Tree.knotss ps + 3 * a ≤ 3 * a' + (if a = 0 then 6 else 0) ∧ w9s ps ∧ ps.length ≤ 9 ∧
            τ' = [some (.ref lc), some (.int (a' : Nat)), some (.int deep), some (.ref ln), some (.int first), some (.ref lx), some (.ref lp), v7, v8]) ?_ (fun R hR => ?_)
          · rintro τ' M' ⟨ps, a', v7, v8, G, h1, h2, h3, h4, h5, h6, rfl⟩
            have b1 := Int.emod_nonneg y3 (b := 5) (by decide)
            have b2 := Int.emod_lt_of_pos y3 (b := 5) (by decide)
            obtain ⟨z, hz⟩ := hname (y3 % 5) b1 b2
            refine ⟨_, _, G.px, e3, by show (0 : Int) < 5; decide, xs, _, G.sub _ _ hln, hz, ?_⟩
            refine ⟨_, G.pp, M, G.sub, ?_⟩
            have := q (.block z ps) a' (by omega) (by omega) (by show Tree.depths ps + 1 ≤ _; omega) (by show Tree.knotss ps + 1 + _ ≤ _; omega) ⟨h6, h5⟩
            rw [Tree.d, ds_map] at this
            exact this
          · show if decide ((0 : Int) < (deep : Int)) = true then _ else _
            by_cases hd0 : deep = 0
            · rw [decide_eq_false (show ¬ (0 : Int) < (deep : Int) by omega), if_neg Bool.false_ne_true]
              exact hR _ _ ⟨[], a + 1, none, none, G0, by omega, by omega, by simp [Tree.depths], by simp only [Tree.knotss]; omega, trivial, by decide, rfl⟩
            · rw [decide_eq_true (show (0 : Int) < (deep : Int) by omega), if_pos rfl]
              show ∀ p1, M2 p1 = none → _
              intro p1 hp1
              have G1 := G0.fresh (o := .lst [.int 0, .int 1, .int 2, .int 2, .int 3, .int 9]) hp1
              have h1 : updM M2 p1 (.lst [.int 0, .int 1, .int 2, .int 2, .int 3, .int 9]) p1 = some (.lst [.int 0, .int 1, .int 2, .int 2, .int 3, .int 9]) := updM_same
              refine ⟨_, _, G1.px, e2, ?_⟩
              generalize updM M2 p1 (.lst [.int 0, .int 1, .int 2, .int 2, .int 3, .int 9]) = M3 at *
              show ∀ p2, M3 p2 = none → _
              intro p2 hp2
              have G2 := G1.fresh (o := .lst [.int 5, .int 6]) hp2
              have h2 := Sub.new (o := .lst [.int 5, .int 6]) hp2 _ _ h1
              obtain ⟨j, hj1, hj0, hj2⟩ : ∃ j : Int, atI [D.int 5, D.int 6] (if decide ((a : Int) + 1 = 1) = true then 1 else 0) = some (.int j) ∧ 0 < j ∧ (j = 5 ∨ (j = 6 ∧ a = 0)) := by
                by_cases ha0 : a = 0
                · rw [decide_eq_true (show (a : Int) + 1 = 1 by omega), if_pos rfl]; exact ⟨6, rfl, by decide, .inr ⟨rfl, ha0⟩⟩
                · rw [decide_eq_false (show ¬ (a : Int) + 1 = 1 by omega), if_neg Bool.false_ne_true]; exact ⟨5, rfl, by decide, .inl rfl⟩
              have b1 := Int.emod_nonneg y2 (b := j) (by omega)
              have b2 := Int.emod_lt_of_pos y2 (b := j) hj0
              obtain ⟨m, hm, hmb⟩ : ∃ m : Nat, atI [D.int 0, D.int 1, D.int 2, D.int 2, D.int 3, D.int 9] (y2 % j) = some (.int (m : Nat)) ∧ m ≤ 3 + (if a = 0 then 6 else 0) := by
                have hr : y2 % j = 0 ∨ y2 % j = 1 ∨ y2 % j = 2 ∨ y2 % j = 3 ∨ y2 % j = 4 ∨ (y2 % j = 5 ∧ a = 0) := by omega
                rcases hr with h | h | h | h | h | ⟨h, ha0⟩ <;> rw [h]
                · exact ⟨0, rfl, by omega⟩
                · exact ⟨1, rfl, by omega⟩
                · exact ⟨2, rfl, by omega⟩
                · exact ⟨2, rfl, by omega⟩
                · exact ⟨3, rfl, by omega⟩
                · exact ⟨9, rfl, by rw [if_pos ha0]; decide⟩
              refine ⟨_, .int j, updM_same, hj1, hj0, _, .int (m : Nat), h2, hm, ?_⟩
              generalize updM M3 p2 (.lst [.int 5, .int 6]) = M4 at *
              have hm9 : m ≤ 9 := by split at hmb <;> omega
              refine ⟨⟨by omega, by omega⟩, fun i τ M' => ∃ (ps : List Tree) (a' : Nat) (v7 v8 : Option D), GrowS M M' lx lp ys ps ∧ ps.length = i ∧ a + 1 ≤ a' ∧ a' ≤ cs.length ∧ Tree.depths ps ≤ deep ∧ Tree.knotss ps + 3 * (a + 1) ≤ 3 * a' + i ∧ w9s ps ∧
                τ = [some (.ref lc), some (.int (a' : Nat)), some (.int deep), some (.ref ln), some (.int first), some (.ref lx), some (.ref lp), v7, v8],
                ⟨[], a + 1, none, none, G2, rfl, by omega, by omega, by simp [Tree.depths], by simp only [Tree.knotss]; omega, trivial, rfl⟩, ?_, ?_⟩
              · rintro i τ M' hi ⟨ps, a', v7, v8, G, g1, g2, g3, g4, g5, g6, rfl⟩
                have hi' : i < ((m : Nat) : Int).toNat := hi
                refine ⟨lc, cs, a', deep - 1, ln, xs, first, by show [_, _, D.int ((deep : Int) - 1), _, _] = _; rw [show (deep : Int) - 1 = ((deep - 1 : Nat) : Int) by omega], by omega, G.sub _ _ hlc, G.sub _ _ hln, hx, hc60, fun t a2 k1 k2 k3 k4 k5 => ?_⟩
                rw [if_neg (by omega)] at k4
                refine ⟨⟨rfl, _, G.pp⟩, _, G.pp, by rw [List.length_map]; exact small1000 (by omega), ps ++ [t], a2, _, _, G.push t, by rw [List.length_append, g1]; rfl, by omega, by omega, ?_, ?_, ?_, rfl⟩
                · rw [depths_appC]; simp only [Tree.depths]; omega
                · rw [knotss_appC]; simp only [Tree.knotss]; omega
                · exact w9s_app g6 ⟨k5, trivial⟩
              · rintro τ M' ⟨ps, a', v7, v8, G, g1, g2, g3, g4, g5, g6, rfl⟩
                have g1' : ps.length = ((m : Nat) : Int).toNat := g1
                have g5' : Tree.knotss ps + 3 * (a + 1) ≤ 3 * a' + ((m : Nat) : Int).toNat := g5
                rw [Int.toNat_natCast] at g1' g5'
                exact hR _ _ ⟨ps, a', v7, v8, G, g2, g3, g4, by omega, g6, by omega, rfl⟩
/-! ### a tree changed, the pair -/
def SmallC (sm : List Tree) : Prop := 0 < sm.length ∧ ∀ t ∈ sm, t.depth ≤ 2 ∧ t.knots ≤ 3 ∧ w9 t
def spChg (n : Nat) : SpD := fun ds M Q => ∃ (t : Tree) (lx : Addr) (xs : List Int) (a : Nat) (ls : Addr) (sm : List Tree), ds = [t.d, .ref lx, .int (a : Nat), .ref ls] ∧ t.depth ≤ n ∧ a + t.knots ≤ 2000 ∧ w9 t ∧ M lx = some (.lst (xs.map .int)) ∧ xs.length = 16 ∧ M ls = some (.lst (sm.map Tree.d)) ∧ SmallC sm ∧
  ∀ (u : Tree) (a' : Nat), u.depth ≤ t.depth + 1 → u.knots ≤ 3 * t.knots → w9 u → a' ≤ a + t.knots → Q (.tup [u.d, .int (a' : Nat)]) M
theorem name_at {nm : List D} (h : NamesC nm) (x : Int) : ∃ z : Str, atI nm (x % 5) = some (.str z) := by
  obtain ⟨d, hd⟩ := at_some (xs := nm) (Int.emod_nonneg x (b := 5) (by decide)) (by rw [h.1]; exact Int.emod_lt_of_pos x (b := 5) (by decide))
  obtain ⟨j, _, hj, _⟩ := atI_get hd
  obtain ⟨z, rfl⟩ := h.2 d (List.mem_of_getElem? hj)
  exact ⟨z, hd⟩
theorem tree_at {bs : List Tree} (hb : 0 < bs.length) (x : Int) : ∃ t ∈ bs, atI (bs.map Tree.d) (x % ((bs.map Tree.d).length : Int)) = some t.d := by
  have hp : (0 : Int) < ((bs.map Tree.d).length : Int) := by rw [List.length_map]; omega
  obtain ⟨d, hd⟩ := at_some (xs := bs.map Tree.d) (Int.emod_nonneg x (by omega)) (Int.emod_lt_of_pos x hp)
  obtain ⟨j, _, hj, _⟩ := atI_get hd
  obtain ⟨t, ht, rfl⟩ := List.mem_map.mp (List.mem_of_getElem? hj)
  exact ⟨t, ht, hd⟩
theorem int_at {xs : List Int} {i : Int} (h0 : 0 ≤ i) (h1 : i < ((xs.map D.int).length : Int)) : ∃ c : Int, atI (xs.map D.int) i = some (.int c) := by
  obtain ⟨d, hd⟩ := at_some (xs := xs.map D.int) h0 h1
  obtain ⟨j, _, hj, _⟩ := atI_get hd
  obtain ⟨c, _, rfl⟩ := List.mem_map.mp (List.mem_of_getElem? hj)
  exact ⟨c, hd⟩
theorem ok_chg (T : Txt K mg) : ∀ n : Nat, FnD P w K mg base (n + 1) "_law_changed" ["tree", "xs", "at", "small"] (spChg n)
  | 0 => (fn_none T.f__law_changed fun ds M Q ⟨t, _, _, _, _, _, _, h, _⟩ => by have := depth_pos t; omega).mono (by omega)
  | n + 1 => by
    have m_len := T.m_len
    have m_tuple := T.m_tuple
    have F__law_changed := ok_chg T n
    refine def_ok T.f__law_changed sc__law_changed (fun ds M Q h => ?_) fun f cdv A outer s H E hr => ⟨_, (ss_cons (s_set (i := 4) sc__law_changed.nd (d_op od_fdiv (d_ix (d_var 1) (d_op od_mod (d_var 2) (d_callB cd_len rfl m_len bt_len (a_cons (d_var 1) a_nil)))) (d_op od_add d_int (d_op od_fdiv (d_var 2) (d_callB cd_len rfl m_len bt_len (a_cons (d_var 1) a_nil))))))
 (ss_cons (s_set (i := 2) sc__law_changed.nd (d_op od_add (d_var 2) d_int))
 (ss_cons (s_if (dt_cmp (od_eq hr) (d_op od_mod (d_var 4) d_int) d_int (nomark _)) (ss_one (s_ret (d_tup (a_cons (d_ix (d_var 3) (d_op od_mod (d_op od_fdiv (d_var 4) d_int) (d_callB cd_len rfl m_len bt_len (a_cons (d_var 3) a_nil)))) (a_cons (d_var 2) a_nil))))) ss_nil)
 (ss_cons (s_if (dt_cmp (od_eq hr) (d_ix (d_var 0) d_int) d_str (nomark _)) (ss_one (s_ret (d_tup (a_cons (d_var 0) (a_cons (d_var 2) a_nil))))) ss_nil)
 (ss_cons (s_set (i := 5) sc__law_changed.nd (d_lst a_nil))
 (ss_cons (s_for PassesOwn.never rfl (d_ix (d_var 0) d_int) (g_name (i := 6) sc__law_changed.nd) (ss_cons (s_asg (d_call F__law_changed (hr.mono (by omega)) (a_cons (d_var 6) (a_cons (d_var 1) (a_cons (d_var 2) (a_cons (d_var 3) a_nil))))) (g_tup rfl (gs_cons (g_name (i := 7) sc__law_changed.nd) (gs_cons (g_name (i := 2) sc__law_changed.nd) gs_nil)) len_2))
 (ss_one (s_expr (d_bm PySem.F.plainAttrs_list PySem.F.slot_list_append PySem.F.type_list_append md_append (d_var 5) (a_cons (d_var 7) a_nil))))))
 (ss_one (s_ret (d_tup (a_cons (d_tup (a_cons d_str (a_cons (d_ix (d_var 0) d_int) (a_cons (d_callTy cd_tuple rfl m_tuple bt_tuple (a_cons (d_var 5) a_nil)) a_nil)))) (a_cons (d_var 2) a_nil))))))))))), fun ds M Q h => ?_⟩
    · obtain ⟨t, lx, xs, a, ls, sm, rfl, _⟩ := h; rfl
    · obtain ⟨t, lx, xs, a, ls, sm, rfl, hd, hk, hw, hx, hxl, hs, hsm, q⟩ := h
      have hlen : ((xs.map D.int).length : Int) = 16 := by rw [List.length_map, hxl]; rfl
      have h16 : (0 : Int) < ((xs.map D.int).length : Int) := by omega
      obtain ⟨c, hc⟩ := int_at (xs := xs) (Int.emod_nonneg ((a : Nat) : Int) (b := ((xs.map D.int).length : Int)) (by omega)) (Int.emod_lt_of_pos _ h16)
      have hq0 : 0 ≤ ((a : Nat) : Int) / ((xs.map D.int).length : Int) := Int.ediv_nonneg (by omega) (by omega)
      refine ⟨_, hx, h16, _, _, hx, hc, _, hx, ⟨h16, by rw [hlen]; decide⟩, ?_⟩
      have hq1 : ((a : Nat) : Int) / ((xs.map D.int).length : Int) ≤ ((a : Nat) : Int) := by rw [hlen]; omega
      refine ⟨⟨by show (0 : Int) < 1 + ((a : Nat) : Int) / ((xs.map D.int).length : Int); omega, by show 1 + ((a : Nat) : Int) / ((xs.map D.int).length : Int) < 1073741824; omega⟩, ?_⟩
      have ha1 : (((a : Nat) : Int) + 1) = ((a + 1 : Nat) : Int) := rfl
      refine ⟨by show (0 : Int) < 8; decide, ?_⟩
      show if decide (c / (1 + ((a : Nat) : Int) / ((xs.map D.int).length : Int)) % 8 = 0) = true then _ else _
      have hkp := knots_pos t
      by_cases ht : (c / (1 + ((a : Nat) : Int) / ((xs.map D.int).length : Int))) % 8 = 0
      · refine ifT ht ?_
        obtain ⟨u, hu, eu⟩ := tree_at hsm.1 ((c / (1 + ((a : Nat) : Int) / ((xs.map D.int).length : Int))) / 8)
        obtain ⟨u1, u2, u3⟩ := hsm.2 u hu
        have hp := depth_pos t
        refine ⟨⟨by show (0 : Int) < 8; decide, by show (8 : Int) < 1073741824; decide⟩, _, hs, by show (0 : Int) < ((sm.map Tree.d).length : Int); rw [List.length_map]; have := hsm.1; omega, _, _, hs, eu, ?_⟩
        exact rt_done (q u (a + 1) (by omega) (by omega) u3 (by omega))
      · refine ifF ht ?_
        cases t with
        | blank k => exact rt_done (q (.blank k) (a + 1) (by omega) (by omega) trivial (by omega))
        | block z ps =>
          rw [Tree.depth] at hd
          rw [Tree.knots] at hk
          obtain ⟨hw1, hw2⟩ := hw
          show ∀ p, _ → _
          intro lp hlp
          refine ⟨fun i τ M' => ∃ (us : List Tree) (a' : Nat) (v6 v7 : Option D), us.length = i ∧ Tree.depths us ≤ Tree.depths ps + 1 ∧ Tree.knotss us ≤ 3 * Tree.knotss (ps.take i) ∧ w9s us ∧ a' ≤ a + 1 + Tree.knotss (ps.take i) ∧ M' lp = some (.lst (us.map Tree.d)) ∧ Sub M M' ∧
            τ = [some (Tree.block z ps).d, some (.ref lx), some (.int (a' : Nat)), some (.ref ls), some (.int (c / (1 + ((a : Nat) : Int) / ((xs.map D.int).length : Int)))), some (.ref lp), v6, v7], ⟨[], a + 1, none, none, rfl, by simp [Tree.depths], by simp [Tree.knotss], trivial, by omega, updM_same, Sub.new hlp, rfl⟩, fun _ _ _ _ _ => trivial, ?_, ?_⟩
          · rintro i d τ M' ed ⟨us, a', v6, v7, g1, g2, g3, g4, g5, g6, hS, rfl⟩
            rw [ds_map, List.getElem?_map] at ed
            cases e : ps[i]? with
            | none => rw [e] at ed; cases ed
            | some u =>
              rw [e] at ed
              cases ed
              have e1 := depth_get e
              have e2 := knotss_take ps i u e
              have e3 := knotss_take_le ps (i + 1)
              have e4 := (List.getElem?_eq_some_iff.mp e).1
              refine ⟨u, lx, xs, a', ls, sm, rfl, by omega, by omega, w9s_get hw2 (List.mem_of_getElem? e), hS _ _ hx, hxl, hS _ _ hs, hsm, fun u' a2 d1 k1 w1 b1 => ?_⟩
              refine ⟨⟨rfl, _, g6⟩, _, g6, by rw [List.length_map]; exact small1000 (by omega), us ++ [u'], a2, _, _, by rw [List.length_append, g1]; rfl, ?_, ?_, w9s_app g4 ⟨w1, trivial⟩, by omega, by rw [updM_same, List.map_append]; rfl, sub_upd hS hlp, rfl⟩
              · rw [depths_appC]; simp only [Tree.depths]; omega
              · rw [knotss_appC, e2]; simp only [Tree.knotss]; omega
          · rintro τ M' ⟨us, a', v6, v7, g1, g2, g3, g4, g5, g6, hS, rfl⟩
            have eL : (Tree.ds ps).length = ps.length := by rw [ds_map, List.length_map]
            rw [eL, List.take_length] at g3 g5
            rw [eL] at g1
            refine ⟨_, g6, M, hS, ?_⟩
            have qq := q (.block z us) a' (by rw [Tree.depth, Tree.depth]; omega) (by rw [Tree.knots, Tree.knots]; omega) ⟨by omega, g4⟩ (by rw [Tree.knots]; omega)
            rw [Tree.d, ds_map] at qq
            exact qq
def spPair : SpD := fun ds M Q => ∃ ns : List Int, ds = [.rol (ns.map .int)] ∧ ∀ one other : Tree, (one.depth ≤ 10 ∧ one.knots ≤ 1000 ∧ w9 one) → (other.depth ≤ 10 ∧ other.knots ≤ 1000 ∧ w9 other) → Q (.tup [one.d, other.d]) M
theorem cut_le {α : Type} (xs : List α) (a b : Nat) : (DL.cutD xs (some (a : Int)) (some (b : Int))).length ≤ b - a := by
  unfold DL.cutD
  rw [HT.sIx_nat, HT.sIx_nat, List.length_take]
  omega
theorem ok_pair (T : Txt K mg) : FnD P w K mg base 20 "_law_pair" ["script"] spPair := by
  have F__law_names := ok_namesC (P := P) (w := w) (base := base) T
  have F__law_cell_at := ok_cell (P := P) (w := w) (base := base) T
  have F__law_stream := ok_stream (P := P) (w := w) (base := base) T
  have F__law_number := ok_numC (P := P) (w := w) (base := base) T
  have F__law_grow := ok_grow (P := P) (w := w) (base := base) T 7
  have F__law_changed := ok_chg (P := P) (w := w) (base := base) T 10
  refine def_ok T.f__law_pair sc__law_pair (fun ds M Q h => ?_) fun f cdv A outer s H E hr => ⟨_, (ss_cons (s_set (i := 1) sc__law_pair.nd (d_call F__law_names (hr.mono (by omega)) (a_cons (d_call F__law_cell_at (hr.mono (by omega)) (a_cons (d_var 0) (a_cons d_int a_nil))) a_nil)))
 (ss_cons (s_set (i := 2) sc__law_pair.nd (d_call F__law_cell_at (hr.mono (by omega)) (a_cons (d_var 0) (a_cons d_int a_nil))))
 (ss_cons (s_set (i := 3) sc__law_pair.nd (d_ix (d_call F__law_grow (hr.mono (by omega)) (a_cons (d_sl sd_sl (d_var 0) (o_some d_int) (o_some d_int)) (a_cons d_int (a_cons d_int (a_cons (d_var 1) (a_cons (d_var 2) a_nil)))))) d_int))
 (ss_cons (s_set (i := 4) sc__law_pair.nd (d_call F__law_stream (hr.mono (by omega)) (a_cons (d_op od_add (d_call F__law_cell_at (hr.mono (by omega)) (a_cons (d_var 0) (a_cons d_int a_nil))) d_int) (a_cons d_int a_nil))))
 (ss_cons (s_set (i := 5) sc__law_pair.nd (d_lst (a_cons (d_tup (a_cons d_str (a_cons (d_ix (d_var 1) d_int) (a_cons (d_tup a_nil) a_nil)))) (a_cons (d_tup (a_cons d_str (a_cons (d_call F__law_number (hr.mono (by omega)) (a_cons (d_var 2) (a_cons d_int a_nil))) a_nil))) (a_cons (d_tup (a_cons d_str (a_cons (d_call F__law_number (hr.mono (by omega)) (a_cons (d_var 2) (a_cons d_int a_nil))) a_nil))) a_nil)))))
 (ss_cons (s_expr (d_bm PySem.F.plainAttrs_list PySem.F.slot_list_append PySem.F.type_list_append md_append (d_var 5) (a_cons (d_tup (a_cons d_str (a_cons (d_ix (d_var 1) d_int) (a_cons (d_tup (a_cons (d_tup (a_cons d_str (a_cons (d_call F__law_number (hr.mono (by omega)) (a_cons (d_var 2) (a_cons d_int a_nil))) a_nil))) (a_cons (d_tup (a_cons d_str (a_cons (d_call F__law_number (hr.mono (by omega)) (a_cons (d_var 2) (a_cons d_int a_nil))) a_nil))) a_nil))) a_nil)))) a_nil)))
 (ss_one (s_ret (d_tup (a_cons (d_var 3) (a_cons (d_ix (d_call F__law_changed (hr.mono (by omega)) (a_cons (d_var 3) (a_cons (d_var 4) (a_cons d_int (a_cons (d_var 5) a_nil))))) d_int) a_nil))))))))))), fun ds M Q h => ?_⟩
  · obtain ⟨ns, rfl, _⟩ := h; rfl
  · obtain ⟨ns, rfl, q⟩ := h
    refine ⟨ns, 0, rfl, by decide, fun c0 => ?_⟩
    refine ⟨c0, rfl, fun ln nm hln hnm => ?_⟩
    refine ⟨ns, 1, rfl, by decide, fun first => ?_⟩
    show ∀ p, _ → _
    intro p hp
    rw [show DL.cutD (ns.map D.int) (some 2) (some 22) = (DL.cutD ns (some 2) (some 22)).map D.int from cut_map D.int ns _ _]
    have hcl : (DL.cutD ns (some 2) (some 22)).length ≤ 20 := cut_le ns 2 22
    generalize DL.cutD ns (some 2) (some 22) = cs at *
    have hS1 := (Sub.new (o := .lst nm) hln).trans (Sub.new (o := .lst (cs.map D.int)) hp)
    have hN1 : updM (updM M ln (.lst nm)) p (.lst (cs.map D.int)) ln = some (.lst nm) := Sub.new hp _ _ updM_same
    have hC1 : updM (updM M ln (.lst nm)) p (.lst (cs.map D.int)) p = some (.lst (cs.map D.int)) := updM_same
    generalize updM (updM M ln (.lst nm)) p (.lst (cs.map D.int)) = M1 at *
    refine ⟨p, cs, 0, 6, ln, nm, first, rfl, by decide, hC1, hN1, hnm, by omega, fun one a' a1 a2 o1 o2 o3 => ?_⟩
    rw [if_pos rfl] at o2
    have a3 : a' ≤ 20 := by omega
    refine ⟨ns, 0, rfl, by decide, fun c1 => ?_⟩
    refine ⟨c1 + 5, 16, rfl, by decide, fun lx xs hlx hxl hx0 => ?_⟩
    have hS2 := hS1.trans (Sub.new (o := .lst (xs.map .int)) hlx)
    have hN2 := Sub.new (o := .lst (xs.map .int)) hlx _ _ hN1
    have hX2 : updM M1 lx (.lst (xs.map .int)) lx = some (.lst (xs.map .int)) := updM_same
    generalize updM M1 lx (.lst (xs.map .int)) = M2 at *
    obtain ⟨z0, hz0⟩ := name_at hnm 0
    obtain ⟨z1, hz1⟩ := name_at hnm 1
    refine ⟨_, _, hN2, hz0, first, 1, rfl, ⟨by decide, by decide⟩, fun r1 _ => ?_⟩
    refine ⟨first, 4, rfl, ⟨by decide, by decide⟩, fun r4 _ => ?_⟩
    show ∀ p, _ → _
    intro l hl
    have hS3 := hS2.trans (Sub.new (o := .lst [(Tree.block z0 []).d, (Tree.blank r1).d, (Tree.blank r4).d]) hl)
    have hN3 := Sub.new (o := .lst [(Tree.block z0 []).d, (Tree.blank r1).d, (Tree.blank r4).d]) hl _ _ hN2
    have hX3 := Sub.new (o := .lst [(Tree.block z0 []).d, (Tree.blank r1).d, (Tree.blank r4).d]) hl _ _ hX2
    have hL3 : updM M2 l (.lst [(Tree.block z0 []).d, (Tree.blank r1).d, (Tree.blank r4).d]) l = some (.lst [(Tree.block z0 []).d, (Tree.blank r1).d, (Tree.blank r4).d]) := updM_same
    refine ⟨⟨rfl, _, hL3⟩, _, _, hN3, hz1, first, 1, rfl, ⟨by decide, by decide⟩, fun r5 _ => ?_⟩
    refine ⟨first, 2, rfl, ⟨by decide, by decide⟩, fun r6 _ => ?_⟩
    refine ⟨_, hL3, small1000 (by show 3 ≤ 1000; decide), ?_⟩
    have hxl2 : lx ≠ l := by intro z; subst z; rw [hX2] at hl; cases hl
    refine ⟨one, lx, xs, 0, l, [.block z0 [], .blank r1, .blank r4, .block z1 [.blank r5, .blank r6]], rfl, by omega, by omega, o3, by rw [updM_ne hxl2]; exact hX3, hxl, by rw [updM_same]; rfl, ⟨by show 0 < 4; decide, fun t ht => ?_⟩, fun other a4 b1 b2 b3 b4 => ?_⟩
    · simp only [List.mem_cons, List.not_mem_nil, or_false] at ht
      rcases ht with rfl | rfl | rfl | rfl
      · exact ⟨by show 1 ≤ 2; decide, by show 1 ≤ 3; decide, by show 0 ≤ 9; decide, trivial⟩
      · exact ⟨by show 1 ≤ 2; decide, by show 1 ≤ 3; decide, trivial⟩
      · exact ⟨by show 1 ≤ 2; decide, by show 1 ≤ 3; decide, trivial⟩
      · exact ⟨by show 2 ≤ 2; decide, by show 3 ≤ 3; decide, by show 2 ≤ 9; decide, trivial, trivial, trivial⟩
    · have hfr : M l = none := none_sub hS2 hl
      exact ⟨M, sub_upd hS3 hfr, q one other ⟨by omega, by omega, o3⟩ ⟨by omega, by omega, b3⟩⟩
mutual
theorem eq_tree : ∀ t u : Tree, D.eq t.d u.d = true ↔ t = u
  | .block n ps, .block m qs => by
    simp only [Tree.d, D.eq, D.eqs, Bool.and_true, Bool.and_eq_true, beq_iff_eq, Tree.block.injEq, eqs_trees ps qs]
    simp
  | .block n ps, .blank k => by simp [Tree.d, D.eq, D.eqs]
  | .blank k, .block n ps => by simp [Tree.d, D.eq, D.eqs]
  | .blank k, .blank j => by simp [Tree.d, D.eq, D.eqs]
theorem eqs_trees : ∀ ts us : List Tree, D.eqs (Tree.ds ts) (Tree.ds us) = true ↔ ts = us
  | [], [] => by simp [Tree.ds, D.eqs]
  | [], u :: us => by simp [Tree.ds, D.eqs]
  | t :: ts, [] => by simp [Tree.ds, D.eqs]
  | t :: ts, u :: us => by simp only [Tree.ds, D.eqs, Bool.and_eq_true, eq_tree t u, eqs_trees ts us, List.cons.injEq]
end
theorem eq_comm' (t u : Tree) : D.eq t.d u.d = D.eq u.d t.d := by
  cases h : D.eq t.d u.d with
  | true =>
    have e := (eq_tree t u).mp h
    subst e
    exact h.symm
  | false =>
    cases e : D.eq u.d t.d with
    | false => rfl
    | true =>
      have e' := (eq_tree u t).mp e
      subst e'
      rw [e] at h
      cases h
/-! ### the law's own: same heads, steps -/
def spSameL : SpD := fun ds M Q => ∃ p : Tree × Tree, ds = [lkD p] ∧ Q (.bl (sameH p.1 p.2)) M
theorem ok_sameL (T : Txt K mg) : FnD P w K mg base 1 "_law_same" ["pair"] spSameL := by
  have m_len := T.m_len
  refine def_ok T.f__law_same sc__law_same (fun ds M Q h => ?_) fun f cdv A outer s H E hr => ⟨_, (ss_cons (s_asg (d_var 0) (g_tup rfl (gs_cons (g_name (i := 1) sc__law_same.nd) (gs_cons (g_name (i := 2) sc__law_same.nd) gs_nil)) len_2))
 (ss_cons (s_if (PW.pt (dw_or (dt_cmp (od_ne hr) (d_ix (d_var 1) d_int) d_str (nomark _)) (dw_or1 (dt_cmp (od_ne hr) (d_ix (d_var 2) d_int) d_str (nomark _))))) (ss_one (s_ret d_bl)) ss_nil)
 (ss_one (s_ret (d_and (d_cmp (od_eq hr) (d_ix (d_var 1) d_int) (d_ix (d_var 2) d_int) (nomark _)) (d_one (d_cmp (od_eq hr) (d_callB cd_len rfl m_len bt_len (a_cons (d_ix (d_var 1) d_int) a_nil)) (d_callB cd_len rfl m_len bt_len (a_cons (d_ix (d_var 2) d_int) a_nil)) (nomark _)))))))), fun ds M Q h => ?_⟩
  · obtain ⟨p, rfl, _⟩ := h; rfl
  · obtain ⟨⟨t, u⟩, rfl, q⟩ := h
    cases t with
    | blank k => exact rt_done q
    | block n ps => cases u with
      | blank k => exact rt_done q
      | block m qs =>
        show if decide (n = m) = true then _ else _
        have ql : Q (.bl (decide (n = m) && decide (ps.length = qs.length))) M := q
        by_cases h : n = m
        · refine ifT h ?_
          have e : (decide (n = m) && decide (ps.length = qs.length)) = decide (((Tree.ds ps).length : Int) = ((Tree.ds qs).length : Int)) := by
            rw [decide_eq_true h, Bool.true_and, ds_map, ds_map, List.length_map, List.length_map]
            exact decide_eq_decide.mpr ⟨fun z => by omega, fun z => by omega⟩
          rw [e] at ql
          exact rt_done ql
        · refine ifF h ?_
          rw [decide_eq_false h, Bool.false_and] at ql
          exact rt_done ql
theorem same_block {p : Tree × Tree} (h : sameH p.1 p.2 = true) : ∃ n ps qs, p = (.block n ps, .block n qs) ∧ ps.length = qs.length := by
  obtain ⟨t, u⟩ := p
  cases t with
  | blank k => exact nof h
  | block n ps => cases u with
    | blank k => exact nof h
    | block m qs =>
      have h' := Bool.and_eq_true_iff.mp h
      have e := of_decide_eq_true h'.1
      subst e
      exact ⟨n, ps, qs, rfl, of_decide_eq_true h'.2⟩
theorem ds_nil (ps : List Tree) (h : Tree.depths ps ≤ 70) : D.eqOks (Tree.ds ps) [] = true ∧ D.deps (Tree.ds ps) ≤ 150 ∧ D.eqs (Tree.ds ps) [] = decide (ps = []) := by
  have h1 := deps_trees ps
  cases ps with
  | nil => exact ⟨rfl, by omega, rfl⟩
  | cons t ts => exact ⟨rfl, by omega, rfl⟩
theorem lk_mod {ls : List (Tree × Tree)} (h : 0 < ls.length) (x : Int) : ∃ p, lkIdx ls (x % ((ls.map lkD).length : Int)) = some p := by
  have hp : (0 : Int) < ((ls.map lkD).length : Int) := by rw [List.length_map]; omega
  have h0 := Int.emod_nonneg x (b := ((ls.map lkD).length : Int)) (by omega)
  have h1 := Int.emod_lt_of_pos x hp
  have hl : (x % ((ls.map lkD).length : Int)).toNat < ls.length := by rw [List.length_map] at h0 h1 ⊢; omega
  exact ⟨_, lkIdx_some h0 (List.getElem?_eq_getElem hl)⟩
theorem lk_at {ls : List (Tree × Tree)} {n : Int} {p : Tree × Tree} (h : lkIdx ls n = some p) : atI (ls.map lkD) n = some (lkD p) := by
  unfold lkIdx at h
  by_cases h0 : 0 ≤ n
  · rw [if_pos h0] at h
    have e : n = ((n.toNat : Nat) : Int) := by omega
    rw [e]
    exact atI_nat (by rw [List.getElem?_map, h]; rfl)
  · rw [if_neg h0] at h; cases h
def meetF (ls : List (Tree × Tree)) (p : Tree × Tree) : D → Option D
  | .int k => match lkIdx ls k with
    | some q => if D.eq q.1.d p.2.d = true then some (.int k) else none
    | none => none
  | _ => none
theorem meet_map (ls : List (Tree × Tree)) (p : Tree × Tree) : ∀ is : List Nat, ∃ fs : List Int, (is.map fun i : Nat => D.int (i : Int)).filterMap (meetF ls p) = fs.map D.int ∧ ∀ k ∈ fs, ∃ q, lkIdx ls k = some q ∧ D.eq q.1.d p.2.d = true
  | [] => ⟨[], rfl, fun k hk => nomatch hk⟩
  | i :: is => by
    obtain ⟨fs, h1, h2⟩ := meet_map ls p is
    cases ek : lkIdx ls (i : Int) with
    | none =>
      have e : meetF ls p (.int (i : Int)) = none := by
        show (match lkIdx ls (i : Int) with
          | some q => if D.eq q.1.d p.2.d = true then some (D.int (i : Int)) else none
          | none => none) = _
        rw [ek]
      exact ⟨fs, by rw [List.map_cons, List.filterMap_cons, e, h1], h2⟩
    | some q =>
      have e : meetF ls p (.int (i : Int)) = if D.eq q.1.d p.2.d = true then some (D.int (i : Int)) else none := by
        show (match lkIdx ls (i : Int) with
          | some q => if D.eq q.1.d p.2.d = true then some (D.int (i : Int)) else none
          | none => none) = _
        rw [ek]
      by_cases c : D.eq q.1.d p.2.d = true
      · rw [if_pos c] at e
        refine ⟨(i : Int) :: fs, by rw [List.map_cons, List.filterMap_cons, e, h1]; rfl, fun k hk => ?_⟩
        rcases List.mem_cons.mp hk with rfl | hk
        · exact ⟨q, ek, c⟩
        · exact h2 k hk
      · rw [if_neg c] at e
        exact ⟨fs, by rw [List.map_cons, List.filterMap_cons, e, h1], h2⟩
theorem fgt3 {a b : Option D} {d : D} : Fgt [none, a, b] [some d, a, b] := ⟨rfl, fun i x e => by
  match i, e with
  | 0, e => cases e
  | 1, e => exact e
  | 2, e => exact e
  | i + 3, e => simp at e⟩
theorem ints_mod {fs : List Int} (h : 0 < fs.length) (x : Int) : ∃ k ∈ fs, atI (fs.map D.int) (x % ((fs.map D.int).length : Int)) = some (.int k) := by
  have hp : (0 : Int) < ((fs.map D.int).length : Int) := by rw [List.length_map]; omega
  obtain ⟨d, hd⟩ := at_some (xs := fs.map D.int) (Int.emod_nonneg x (by omega)) (Int.emod_lt_of_pos x hp)
  obtain ⟨j, _, hj, _⟩ := atI_get hd
  obtain ⟨k, hk, rfl⟩ := List.mem_map.mp (List.mem_of_getElem? hj)
  exact ⟨k, hk, hd⟩
def spStep : SpD := fun ds M Q => ∃ (lp lx : Addr) (ls : List (Tree × Tree)) (xs : List Int), ds = [.ref lp, .ref lx] ∧ M lp = some (.lst (ls.map lkD)) ∧ M lx = some (.lst (xs.map .int)) ∧ xs.length = 3 ∧ (∀ x ∈ xs, 0 ≤ x) ∧ 0 < ls.length ∧ ls.length ≤ 1000 ∧ OkLs 60 ls ∧
  ∀ st p, stepOf ls st = some p → Q (.tup [st.d, lkD p]) M
theorem ok_step (T : Txt K mg) : FnD P w K mg base 2 "_law_step" ["pairs", "xs"] spStep := by
  have m_len := T.m_len
  have m_range := T.m_range
  have F__law_same := ok_sameL (P := P) (w := w) (base := base) T
  refine def_ok T.f__law_step sc__law_step (fun ds M Q h => ?_) fun f cdv A outer s H E hr => ⟨_, (ss_cons (s_set (i := 2) sc__law_step.nd (d_op od_mod (d_ix (d_var 1) d_int) (d_callB cd_len rfl m_len bt_len (a_cons (d_var 0) a_nil))))
 (ss_cons (s_set (i := 3) sc__law_step.nd (d_ix (d_var 0) (d_var 2)))
 (ss_cons (s_if (PW.pt (dw_and (dt_cmp (od_eq hr) (d_op od_mod (d_ix (d_var 1) d_int) d_int) d_int (nomark _)) (dw_and (dt_val (d_call F__law_same (hr.mono (by omega)) (a_cons (d_var 3) a_nil))) (dw_and1 (dt_cmp (od_ne hr) (d_ix (d_ix (d_var 3) d_int) d_int) (d_tup a_nil) (nomark _)))))) (ss_cons (s_set (i := 4) sc__law_step.nd (d_op od_mod (d_ix (d_var 1) d_int) (d_callB cd_len rfl m_len bt_len (a_cons (d_ix (d_ix (d_var 3) d_int) d_int) a_nil))))
 (ss_one (s_ret (d_tup (a_cons (d_tup (a_cons d_str (a_cons (d_var 2) (a_cons (d_var 4) a_nil)))) (a_cons (d_tup (a_cons (d_ix (d_ix (d_ix (d_var 3) d_int) d_int) (d_var 4)) (a_cons (d_ix (d_ix (d_ix (d_var 3) d_int) d_int) (d_var 4)) a_nil))) a_nil)))))) ss_nil)
 (ss_cons (s_if (dt_cmp (od_eq hr) (d_op od_mod (d_ix (d_var 1) d_int) d_int) d_int (nomark _)) (ss_cons (s_setR (i := 5) sc__law_step.nd (Nc := ["f", "pair", "pairs"]) (js := [none, some 3, some 0]) (comp_okF ["pairs", "xs", "e", "pair", "k", "meeting", "f"] (defScope s__law_step).names rfl rfl rfl rfl (by decide +kernel) (by decide +kernel) (by decide +kernel) rfl (by decide +kernel)) rfl m_range (a_cons (d_callB cd_len rfl m_len bt_len (a_cons (d_var 0) a_nil)) a_nil) (fun C s H fp => (g_name (i := 0) (by show List.Nodup (["f", "pair", "pairs"] : List Str); decide +kernel))) (fun C s H fp => Or.inr ⟨_, rfl, (dt_cmp (od_eq hr) (d_ix (d_ix (d_var 2) (d_var 0)) d_int) (d_ix (d_var 1) d_int) (nomark _))⟩) (fun C s H fp => (d_var 0)))
 (ss_one (s_if (dt_cmp (od_ne hr) (d_var 5) (d_lst a_nil) (nomark _)) (ss_cons (s_set (i := 6) sc__law_step.nd (d_ix (d_var 5) (d_op od_mod (d_ix (d_var 1) d_int) (d_callB cd_len rfl m_len bt_len (a_cons (d_var 5) a_nil)))))
 (ss_one (s_ret (d_tup (a_cons (d_tup (a_cons d_str (a_cons (d_var 2) (a_cons (d_var 6) a_nil)))) (a_cons (d_tup (a_cons (d_ix (d_var 3) d_int) (a_cons (d_ix (d_ix (d_var 0) (d_var 6)) d_int) a_nil))) a_nil)))))) ss_nil))) ss_nil)
 (ss_one (s_ret (d_tup (a_cons (d_tup (a_cons d_str (a_cons (d_var 2) a_nil))) (a_cons (d_tup (a_cons (d_ix (d_var 3) d_int) (a_cons (d_ix (d_var 3) d_int) a_nil))) a_nil))))))))), fun ds M Q h => ?_⟩
  · obtain ⟨lp, lx, ls, xs, rfl, _⟩ := h; rfl
  · obtain ⟨lp, lx, ls, xs, rfl, hp, hx, hxl, hx0, hl0, hl1, hok, q⟩ := h
    obtain ⟨x0, e0, p0⟩ := nn_ix (k := 0) hxl (by decide) hx0
    obtain ⟨x1, e1, p1⟩ := nn_ix (k := 1) hxl (by decide) hx0
    obtain ⟨x2, e2, p2⟩ := nn_ix (k := 2) hxl (by decide) hx0
    obtain ⟨p, ep⟩ := lk_mod hl0 x0
    have hpos : (0 : Int) < ((ls.map lkD).length : Int) := by rw [List.length_map]; omega
    refine ⟨_, _, hx, e0, _, hp, hpos, ?_⟩
    refine ⟨_, _, hp, lk_at ep, ?_⟩
    have hop := hok p (lkIdx_mem ep)
    have turn : ∀ M', Sub M M' → (endsOf Q).rt (.tup [(Stp.turned (x0 % ((ls.map lkD).length : Int))).d, lkD (p.2, p.1)]) M' := fun M' hs => ⟨M, hs, q _ _ (by show (lkIdx ls _).map _ = _; rw [ep]; rfl)⟩
    dsimp only [DL.hName]
    refine seq_any (fun τ' M' => M' = M ∧ ∃ v4, τ' = [some (.ref lp), some (.ref lx), some (.int (x0 % ((ls.map lkD).length : Int))), some (lkD p), v4, none, none]) ?_ (fun R hR => ?_)
    · rintro τ' M' ⟨rfl, v4, rfl⟩
      refine seq_any (fun τ' M2 => Sub M' M2 ∧ ∃ v4 v5 v6, τ' = [some (.ref lp), some (.ref lx), some (.int (x0 % ((ls.map lkD).length : Int))), some (lkD p), v4, v5, v6]) ?_ (fun R hR => ?_)
      · rintro τ' M2 ⟨hs, v4, v5, v6, rfl⟩
        exact turn M2 hs
      · refine ⟨_, _, hx, e1, by show (0 : Int) < 3; decide, ?_⟩
        show if decide (x1 % 3 = 1) = true then _ else _
        by_cases c : x1 % 3 = 1
        · refine ifT c ?_
          refine ⟨_, hp, ⟨by rw [List.length_map]; omega, by rw [List.length_map]; omega⟩, ⟨by rw [List.length_map, List.length_range, List.length_map]; omega, meetF ls p, fun d hd l acc hl => ?_, fun l hl => ?_⟩⟩
          · obtain ⟨i, hi, rfl⟩ := List.mem_map.mp hd
            have hi' := List.mem_range.mp hi
            rw [List.length_map, Int.toNat_natCast] at hi'
            have eq := List.getElem?_eq_getElem hi'
            have ek : lkIdx ls (i : Int) = some ls[i] := lkIdx_some (by omega) (by rw [Int.toNat_natCast]; exact eq)
            have em : meetF ls p (.int (i : Int)) = if D.eq ls[i].1.d p.2.d = true then some (D.int (i : Int)) else none := by
              show (match lkIdx ls (i : Int) with
                | some q => if D.eq q.1.d p.2.d = true then some (D.int (i : Int)) else none
                | none => none) = _
              rw [ek]
            refine ⟨fgt3, _, _, Sub.new hl _ _ hp, lk_at ek, ?_⟩
            refine eq_treeD (t := ls[i].1) (u := p.2) (by have := (hok _ (List.mem_of_getElem? eq)).1.1; omega) ?_
            show if D.eq ls[i].1.d p.2.d = true then _ else _
            by_cases ce : D.eq ls[i].1.d p.2.d = true
            · rw [if_pos ce] at em ⊢
              exact ⟨rfl, em⟩
            · rw [if_neg ce] at em ⊢
              exact ⟨rfl, em⟩
          · obtain ⟨fs, ef, hf⟩ := meet_map ls p (List.range ((ls.map lkD).length : Int).toNat)
            rw [ef]
            have hS := Sub.new (o := .lst (fs.map D.int)) hl
            show ∀ p, _ → _
            intro l2 hl2
            refine ⟨_, _, Sub.new hl2 _ _ updM_same, updM_same, .inr rfl, ?_⟩
            show if (!((fs.map D.int).isEmpty && true)) = true then _ else _
            cases fs with
            | nil =>
              show R _ _
              exact hR _ _ ⟨hS.trans (Sub.new hl2), _, _, _, rfl⟩
            | cons k0 fs =>
              obtain ⟨k, hk, ak⟩ := ints_mod (fs := k0 :: fs) (by rw [List.length_cons]; omega) x2
              obtain ⟨r, er, ce⟩ := hf k hk
              have hS2 := hS.trans (Sub.new (o := .lst []) hl2)
              refine ⟨_, _, hS2 _ _ hx, e2, _, Sub.new hl2 _ _ updM_same, by show (0 : Int) < (((k0 :: fs).map D.int).length : Int); rw [List.length_map, List.length_cons]; omega, _, _, Sub.new hl2 _ _ updM_same, ak, ?_⟩
              refine ⟨_, _, hS2 _ _ hp, lk_at er, ?_⟩
              have qq := q (.linked (x0 % ((ls.map lkD).length : Int)) k) (p.1, r.2) (by
                show ((lkIdx ls _).bind fun p => (lkIdx ls k).bind fun q => linkIx p q) = _
                rw [ep, er]
                show (if D.eq p.2.d r.1.d = true then some (p.1, r.2) else none) = _
                rw [eq_comm', if_pos ce])
              exact ⟨M', hS2, qq⟩
        · refine ifF c ?_
          exact hR _ _ ⟨Sub.refl _, _, _, _, rfl⟩
    · refine ⟨_, _, hx, e1, by show (0 : Int) < 3; decide, ?_⟩
      show if decide (x1 % 3 = 0) = true then _ else _
      have skip : R [some (.ref lp), some (.ref lx), some (.int (x0 % ((ls.map lkD).length : Int))), some (lkD p), none, none, none] M := hR _ _ ⟨rfl, _, rfl⟩
      by_cases c : x1 % 3 = 0
      · refine ifT c ?_
        refine ⟨p, rfl, ?_⟩
        show if sameH p.1 p.2 = true then _ else _
        by_cases hs : sameH p.1 p.2 = true
        · rw [if_pos hs]
          obtain ⟨n, ps, qs, rfl, hlen⟩ := same_block hs
          obtain ⟨n1, n2, n3⟩ := ds_nil ps (by have := hop.1.1; rw [Tree.depth] at this; omega)
          refine ⟨n1, n2, ?_⟩
          show if (!D.eqs (Tree.ds ps) []) = true then _ else _
          rw [n3]
          by_cases hn : ps = []
          · rw [decide_eq_true hn]
            exact skip
          · rw [decide_eq_false hn]
            have hpl : 0 < ps.length := List.length_pos_iff.mpr hn
            have el : (Tree.ds ps).length = ps.length := by rw [ds_map, List.length_map]
            have hkp : (0 : Int) < ((Tree.ds ps).length : Int) := by rw [el]; omega
            have k0 := Int.emod_nonneg x2 (b := ((Tree.ds ps).length : Int)) (by omega)
            have k1 := Int.emod_lt_of_pos x2 hkp
            refine ⟨_, _, hx, e2, hkp, ?_⟩
            obtain ⟨j, hj⟩ : ∃ j : Nat, x2 % ((Tree.ds ps).length : Int) = (j : Int) := ⟨(x2 % ((Tree.ds ps).length : Int)).toNat, by omega⟩
            rw [hj] at k0 k1
            have hja : j < ps.length := by rw [el] at k1; omega
            have ea := List.getElem?_eq_getElem hja
            have eb := List.getElem?_eq_getElem (l := qs) (i := j) (by omega)
            have aa : atI (Tree.ds ps) (x2 % ((Tree.ds ps).length : Int)) = some ps[j].d := by rw [hj]; exact atI_nat (by rw [ds_map, List.getElem?_map, ea]; rfl)
            have ab : atI (Tree.ds qs) (x2 % ((Tree.ds ps).length : Int)) = some (qs[j]'(by omega)).d := by rw [hj]; exact atI_nat (by rw [ds_map, List.getElem?_map, eb]; rfl)
            show DL.onSome (atI (Tree.ds ps) (x2 % ((Tree.ds ps).length : Int))) _
            rw [aa]
            show DL.onSome (atI (Tree.ds qs) (x2 % ((Tree.ds ps).length : Int))) _
            rw [ab]
            refine ⟨M, Sub.refl _, ?_⟩
            refine q (.part (x0 % ((ls.map lkD).length : Int)) (x2 % ((Tree.ds ps).length : Int))) (ps[j], qs[j]'(by omega)) ?_
            show ((lkIdx ls _).bind fun p => partIx p _) = _
            rw [ep]
            show partIx (.block n ps, .block n qs) _ = _
            rw [hj]
            unfold partIx
            rw [if_pos ⟨hs, by omega⟩, Int.toNat_natCast]
            show ((ps[j]?).bind fun a => (qs[j]?).map fun b => (a, b)) = _
            rw [ea, eb]
            rfl
        · rw [if_neg hs]
          exact skip
      · refine ifF c ?_
        exact skip
theorem nxE {nx : DSt → DH → Prop} {rt : KD} {bk ct : DSt → DH → Prop} {τ : DSt} {M : DH} (h : nx τ M) : EndsD.nx { nx := nx, rt := rt, bk := bk, ct := ct } τ M := h
/-! ### ends drawn -/
def selfB (p : Tree × Tree) : Bool := bbT p && fol p p
theorem rowGood_one (p : Tree × Tree) : rowGood [p] = selfB p := by
  unfold rowGood selfB
  show (true && (bbT p && true) && (fol p p && true)) = _
  rw [Bool.true_and, Bool.and_true, Bool.and_true]
theorem good_one {ls : List (Tree × Tree)} {k : Int} {p : Tree × Tree} (h : lkIdx ls k = some p) (hs : selfB p = true) : GoodP ls [k] := ⟨[p], by unfold RowIs; rw [List.map_cons, h]; rfl, by rw [rowGood_one]; exact hs⟩
theorem bad_one {ls : List (Tree × Tree)} {k : Int} {p : Tree × Tree} (h : lkIdx ls k = some p) (hs : selfB p = false) : BadP ls [k] := .inr ⟨[p], by unfold RowIs; rw [List.map_cons, h]; rfl, by rw [rowGood_one]; exact hs⟩
/-- the numbers below i of the likenesses that are so -/
def sel (c : Tree × Tree → Bool) (ls : List (Tree × Tree)) : Nat → List Int
  | 0 => []
  | i + 1 => match ls[i]? with
    | some p => if c p = true then sel c ls i ++ [(i : Int)] else sel c ls i
    | none => sel c ls i
theorem sel_len (c : Tree × Tree → Bool) (ls : List (Tree × Tree)) : ∀ i : Nat, (sel c ls i).length ≤ i
  | 0 => Nat.le_refl _
  | i + 1 => by
    have h := sel_len c ls i
    rw [sel]
    split
    · split
      · rw [List.length_append]; show _ + 1 ≤ _; omega
      · omega
    · omega
theorem sel_mem (c : Tree × Tree → Bool) (ls : List (Tree × Tree)) : ∀ (i : Nat) (k : Int), k ∈ sel c ls i → ∃ p, lkIdx ls k = some p ∧ c p = true
  | 0, k, h => nomatch h
  | i + 1, k, h => by
    rw [sel] at h
    cases e : ls[i]? with
    | none => rw [e] at h; exact sel_mem c ls i k h
    | some p =>
      rw [e] at h
      have h' : k ∈ (if c p = true then sel c ls i ++ [(i : Int)] else sel c ls i) := h
      by_cases hc : c p = true
      · rw [if_pos hc] at h'
        rcases List.mem_append.mp h' with h' | h'
        · exact sel_mem c ls i k h'
        · cases List.mem_singleton.mp h'
          exact ⟨p, lkIdx_some (by omega) (by rw [Int.toNat_natCast]; exact e), hc⟩
      · rw [if_neg hc] at h'
        exact sel_mem c ls i k h'
theorem sel_has (c : Tree × Tree → Bool) (ls : List (Tree × Tree)) : ∀ (i j : Nat) (p : Tree × Tree), j < i → ls[j]? = some p → c p = true → (j : Int) ∈ sel c ls i
  | 0, j, p, h, _, _ => absurd h (Nat.not_lt_zero _)
  | i + 1, j, p, h, e, hc => by
    rw [sel]
    by_cases hj : j = i
    · subst hj
      rw [e]
      show (j : Int) ∈ (if c p = true then sel c ls j ++ [(j : Int)] else sel c ls j)
      rw [if_pos hc]
      exact List.mem_append.mpr (.inr (List.mem_singleton.mpr rfl))
    · have ih := sel_has c ls i j p (by omega) e hc
      cases e2 : ls[i]? with
      | none => exact ih
      | some q =>
        show (j : Int) ∈ (if c q = true then sel c ls i ++ [(i : Int)] else sel c ls i)
        split
        · exact List.mem_append.mpr (.inl ih)
        · exact ih
theorem sel_some {c : Tree × Tree → Bool} {ls : List (Tree × Tree)} {i : Nat} {p : Tree × Tree} (e : ls[i]? = some p) : sel c ls (i + 1) = if c p = true then sel c ls i ++ [(i : Int)] else sel c ls i := by rw [sel, e]
theorem sel_any {c : Tree × Tree → Bool} {ls : List (Tree × Tree)} {k : Int} {p : Tree × Tree} (h : lkIdx ls k = some p) : (((sel c ls ls.length).map D.int).any fun y => D.eq y (.int k)) = c p := by
  rw [any_intsR]
  unfold lkIdx at h
  by_cases h0 : 0 ≤ k
  · rw [if_pos h0] at h
    have hk := (List.getElem?_eq_some_iff.mp h).1
    have ek : k = ((k.toNat : Nat) : Int) := by omega
    cases hc : c p with
    | true =>
      refine decide_eq_true ?_
      rw [ek]
      exact sel_has c ls _ _ p hk h hc
    | false =>
      refine decide_eq_false fun z => ?_
      obtain ⟨p', e1, e2⟩ := sel_mem c ls _ _ z
      unfold lkIdx at e1
      rw [if_pos h0, h] at e1
      cases e1
      rw [hc] at e2
      cases e2
  · rw [if_neg h0] at h; cases h
def spEndL (n : Nat) : SpD := fun ds M Q => ∃ (lp lx : Addr) (ls : List (Tree × Tree)) (xs : List Int), ds = [.ref lp, .ref lx] ∧ M lp = some (.lst (ls.map lkD)) ∧ M lx = some (.lst (xs.map .int)) ∧ xs.length = 3 ∧ (∀ x ∈ xs, 0 ≤ x) ∧ 0 < ls.length ∧ ls.length ≤ 1000 ∧ OkLs n ls ∧
  ∀ (e : End) (d : D) (b : Bool) M', Sub M M' → EndAt M' e d → e.len ≤ 1 → (b = true → GoodE ls e) → (b = false → BadE ls e) → Q (.tup [d, .bl b]) M'
theorem ok_endL (T : Txt K mg) (n : Nat) : FnD P w K mg base (n + 3) "_law_end" ["pairs", "xs"] (spEndL n) := by
  have m_len := T.m_len
  have m_range := T.m_range
  have F__law_same := ok_sameL (P := P) (w := w) (base := base) T
  have F__law_blanks := ok_blksC (P := P) (w := w) (base := base) T n
  refine def_ok T.f__law_end sc__law_end (fun ds M Q h => ?_) fun f cdv A outer s H E hr => ⟨_, (ss_cons (s_set (i := 2) sc__law_end.nd (d_lst a_nil))
 (ss_cons (s_set (i := 3) sc__law_end.nd (d_lst a_nil))
 (ss_cons (s_for1 PassesOwn.never rfl m_range (a_cons (d_callB cd_len rfl m_len bt_len (a_cons (d_var 0) a_nil)) a_nil) (g_name (i := 4) sc__law_end.nd) (ss_cons (s_asg (d_ix (d_var 0) (d_var 4)) (g_tup rfl (gs_cons (g_name (i := 5) sc__law_end.nd) (gs_cons (g_name (i := 6) sc__law_end.nd) gs_nil)) len_2))
 (ss_cons (s_if (PW.pt (dw_and (dt_cmp (od_eq hr) (d_ix (d_var 5) d_int) d_str (nomark _)) (dw_and (dt_cmp (od_eq hr) (d_ix (d_var 6) d_int) d_str (nomark _)) (dw_and1 (dt_not (dt_val (d_call F__law_same (hr.mono (by omega)) (a_cons (d_ix (d_var 0) (d_var 4)) a_nil)))))))) (ss_one (s_expr (d_bm PySem.F.plainAttrs_list PySem.F.slot_list_append PySem.F.type_list_append md_append (d_var 2) (a_cons (d_var 4) a_nil)))) ss_nil)
 (ss_one (s_if (PW.pt (dw_and (dt_cmp (od_eq hr) (d_ix (d_var 5) d_int) d_str (nomark _)) (dw_and (dt_cmp (od_eq hr) (d_ix (d_var 6) d_int) d_str (nomark _)) (dw_and1 (dt_cmp (od_inX hr) (d_ix (d_var 5) d_int) (d_call F__law_blanks (hr.mono (by omega)) (a_cons (d_var 6) a_nil)) (rfl)))))) (ss_one (s_expr (d_bm PySem.F.plainAttrs_list PySem.F.slot_list_append PySem.F.type_list_append md_append (d_var 3) (a_cons (d_var 4) a_nil)))) ss_nil)))))
 (ss_cons (s_if (PW.pt (dw_and (dt_cmp (od_eq hr) (d_op od_mod (d_ix (d_var 1) d_int) d_int) d_int (nomark _)) (dw_and1 (dt_cmp (od_ne hr) (d_var 3) (d_lst a_nil) (nomark _))))) (ss_one (s_ret (d_tup (a_cons (d_tup (a_cons d_str (a_cons (d_lst (a_cons (d_ix (d_var 3) (d_op od_mod (d_ix (d_var 1) d_int) (d_callB cd_len rfl m_len bt_len (a_cons (d_var 3) a_nil)))) a_nil)) a_nil))) (a_cons d_bl a_nil))))) ss_nil)
 (ss_cons (s_if (dt_cmp (od_ne hr) (d_var 2) (d_lst a_nil) (nomark _)) (ss_one (s_ret (d_tup (a_cons (d_tup (a_cons d_str (a_cons (d_ix (d_var 2) (d_op od_mod (d_ix (d_var 1) d_int) (d_callB cd_len rfl m_len bt_len (a_cons (d_var 2) a_nil)))) a_nil))) (a_cons d_bl a_nil))))) ss_nil)
 (ss_cons (s_set (i := 4) sc__law_end.nd (d_op od_mod (d_ix (d_var 1) d_int) (d_callB cd_len rfl m_len bt_len (a_cons (d_var 0) a_nil))))
 (ss_one (s_ret (d_tup (a_cons (d_ix (d_lst (a_cons (d_tup (a_cons d_str (a_cons (d_var 4) a_nil))) (a_cons (d_tup (a_cons d_str (a_cons (d_lst (a_cons (d_var 4) a_nil)) a_nil))) a_nil))) (d_op od_mod (d_ix (d_var 1) d_int) d_int)) (a_cons (d_ix (d_lst (a_cons (d_cmp (od_inX hr) (d_var 4) (d_var 2) (rfl)) (a_cons (d_cmp (od_inX hr) (d_var 4) (d_var 3) (rfl)) a_nil))) (d_op od_mod (d_ix (d_var 1) d_int) d_int)) a_nil))))))))))), fun ds M Q h => ?_⟩
  · obtain ⟨lp, lx, ls, xs, rfl, _⟩ := h; rfl
  · obtain ⟨lp, lx, ls, xs, rfl, hp, hx, hxl, hx0, hl0, hl1, hok, q⟩ := h
    obtain ⟨x0, e0, p0⟩ := nn_ix (k := 0) hxl (by decide) hx0
    obtain ⟨x1, e1, p1⟩ := nn_ix (k := 1) hxl (by decide) hx0
    obtain ⟨x2, e2, p2⟩ := nn_ix (k := 2) hxl (by decide) hx0
    have hpos : (0 : Int) < ((ls.map lkD).length : Int) := by rw [List.length_map]; omega
    have hlm : ((ls.map lkD).length : Int) = (ls.length : Int) := by rw [List.length_map]
    show ∀ p, _ → _
    intro lu hlu
    show ∀ p, _ → _
    intro lw hlw
    have hne : lu ≠ lw := by intro z; subst z; rw [updM_same] at hlw; cases hlw
    have hw0 : M lw = none := (upd_none hlw).2
    have hS0 := (Sub.new (o := .lst []) hlu).trans (Sub.new (o := .lst []) hlw)
    refine ⟨_, hS0 _ _ hp, ⟨by omega, by omega⟩, fun i τ M' => Sub M M' ∧ M' lu = some (.lst ((sel unlikeB ls i).map .int)) ∧ M' lw = some (.lst ((sel selfB ls i).map .int)) ∧ ∃ v4 v5 v6, τ = [some (.ref lp), some (.ref lx), some (.ref lu), some (.ref lw), v4, v5, v6], ⟨hS0, Sub.new hlw _ _ updM_same, updM_same, none, none, none, rfl⟩, ?_, ?_⟩
    · rintro i τ M' hi ⟨hS, hu, hw, v4, v5, v6, rfl⟩
      rw [hlm, Int.toNat_natCast] at hi
      have ei := List.getElem?_eq_getElem hi
      have ek : lkIdx ls ((i : Nat) : Int) = some ls[i] := lkIdx_some (by omega) (by rw [Int.toNat_natCast]; exact ei)
      have hop := hok _ (List.mem_of_getElem? ei)
      have su := sel_some (c := unlikeB) ei
      have sw := sel_some (c := selfB) ei
      have ml := sel_len unlikeB ls i
      have wl := sel_len selfB ls i
      refine ⟨_, _, hS _ _ hp, lk_at ek, ?_⟩
      generalize ls[i] = p at *
      obtain ⟨t, u⟩ := p
      dsimp only [DL.hTup, DL.hCons, DL.hNil, DL.hName, lkD, List.set]
      refine seq_any (fun τ' M2 => Sub M M2 ∧ M2 lu = some (.lst ((sel unlikeB ls (i + 1)).map .int)) ∧ M2 lw = some (.lst ((sel selfB ls i).map .int)) ∧ τ' = [some (.ref lp), some (.ref lx), some (.ref lu), some (.ref lw), some (.int (i : Nat)), some t.d, some u.d]) ?_ (fun R hR => ?_)
      · rintro τ' M2 ⟨hS2, hu2, hw2, rfl⟩
        have fin : ∀ M3, Sub M M3 → M3 lu = some (.lst ((sel unlikeB ls (i + 1)).map .int)) → M3 lw = some (.lst ((sel selfB ls i).map .int)) → selfB (t, u) = false → Sub M M3 ∧ M3 lu = some (.lst ((sel unlikeB ls (i + 1)).map .int)) ∧ M3 lw = some (.lst ((sel selfB ls (i + 1)).map .int)) ∧ ∃ v4 v5 v6, [some (D.ref lp), some (D.ref lx), some (D.ref lu), some (D.ref lw), some (D.int (i : Nat)), some t.d, some u.d] = [some (.ref lp), some (.ref lx), some (.ref lu), some (.ref lw), v4, v5, v6] := fun M3 a b c hf => ⟨a, b, by rw [sw, hf]; exact c, _, _, _, rfl⟩
        cases t with
        | block m qs => exact fin M2 hS2 hu2 hw2 rfl
        | blank k => cases u with
          | blank j => exact fin M2 hS2 hu2 hw2 rfl
          | block m qs =>
            refine ⟨.block m qs, rfl, hop.2.1, hop.2.2, fun l hl => ?_⟩
            refine .inr ⟨_, updM_same, rfl, flat_ints _, ?_⟩
            show if (((inss [] (nums (.block m qs))).map D.int).any fun y => D.eq y (.int k)) = true then _ else _
            rw [any_intsR]
            have hS3 := hS2.trans (Sub.new (o := .lst ((inss [] (nums (.block m qs))).map D.int)) hl)
            have hu3 := Sub.new (o := .lst ((inss [] (nums (.block m qs))).map D.int)) hl _ _ hu2
            have hw3 := Sub.new (o := .lst ((inss [] (nums (.block m qs))).map D.int)) hl _ _ hw2
            by_cases hk : k ∈ nums (.block m qs)
            · rw [decide_eq_true (inss_mem.mpr (.inr hk))]
              refine ⟨⟨rfl, _, hw3⟩, _, hw3, by rw [List.length_map]; exact small1000 (by omega), sub_upd hS3 hw0, by rw [updM_ne hne]; exact hu3, ?_, _, _, _, rfl⟩
              have hb : selfB (.blank k, .block m qs) = true := by
                show (true && decide (k ∈ nums (.block m qs))) = true
                rw [decide_eq_true hk]; rfl
              rw [updM_same, sw, if_pos hb, List.map_append]
              rfl
            · rw [decide_eq_false (fun z => (inss_mem.mp z).elim (fun z => absurd z List.not_mem_nil) hk)]
              refine fin _ hS3 hu3 hw3 ?_
              show (true && decide (k ∈ nums (.block m qs))) = false
              rw [decide_eq_false hk]; rfl
      · have skip : unlikeB (t, u) = false → R [some (.ref lp), some (.ref lx), some (.ref lu), some (.ref lw), some (.int (i : Nat)), some t.d, some u.d] M' := fun hf => hR _ _ ⟨hS, by rw [su, hf]; exact hu, hw, rfl⟩
        cases t with
        | blank k => exact skip rfl
        | block m qs => cases u with
          | blank k => exact skip rfl
          | block m2 qs2 =>
            refine ⟨_, _, hS _ _ hp, lk_at ek, (.block m qs, .block m2 qs2), rfl, ?_⟩
            show if (!sameH (.block m qs) (.block m2 qs2)) = true then _ else _
            cases hs : sameH (.block m qs) (.block m2 qs2) with
            | true => exact skip (by show (!sameH (.block m qs) (.block m2 qs2)) = false; rw [hs]; rfl)
            | false =>
              refine ⟨⟨rfl, _, hu⟩, _, hu, by rw [List.length_map]; exact small1000 (by omega), ?_⟩
              have hb : unlikeB (.block m qs, .block m2 qs2) = true := by show (!sameH (.block m qs) (.block m2 qs2)) = true; rw [hs]; rfl
              refine hR _ _ ⟨sub_upd hS hlu, ?_, by rw [updM_ne (Ne.symm hne)]; exact hw, rfl⟩
              rw [updM_same, su, if_pos hb, List.map_append]
              rfl
    · rintro τ M' ⟨hS, hu, hw, v4, v5, v6, rfl⟩
      rw [hlm, Int.toNat_natCast] at hu hw
      obtain ⟨p, ep⟩ := lk_mod hl0 x1
      have hU := sel_mem unlikeB ls ls.length
      have hW := sel_mem selfB ls ls.length
      have aU := sel_any (c := unlikeB) ep
      have aW := sel_any (c := selfB) ep
      generalize sel unlikeB ls ls.length = us at *
      generalize sel selfB ls ls.length = ws at *
      refine nxE ?_
      refine seq_any (fun τ' M2 => Sub M M2 ∧ M2 lu = some (.lst (us.map .int)) ∧ M2 lw = some (.lst (ws.map .int)) ∧ ∃ v4 v5 v6, τ' = [some (.ref lp), some (.ref lx), some (.ref lu), some (.ref lw), v4, v5, v6]) ?_ (fun R hR => ?_)
      · rintro τ' M2 ⟨hS2, hu2, hw2, v4, v5, v6, rfl⟩
        refine seq_any (fun τ' M3 => Sub M M3 ∧ M3 lu = some (.lst (us.map .int)) ∧ M3 lw = some (.lst (ws.map .int)) ∧ ∃ v4 v5 v6, τ' = [some (.ref lp), some (.ref lx), some (.ref lu), some (.ref lw), v4, v5, v6]) ?_ (fun R hR => ?_)
        · rintro τ' M3 ⟨hS3, hu3, hw3, v4, v5, v6, rfl⟩
          refine ⟨_, _, hS3 _ _ hx, e1, _, hS3 _ _ hp, hpos, ?_⟩
          show ∀ p, _ → _
          intro l1 hl1
          show ∀ p, _ → _
          intro l2 hl2
          have hS5 := (hS3.trans (Sub.new (o := .lst [.int (x1 % ((ls.map lkD).length : Int))]) hl1)).trans (Sub.new (o := .lst [.tup [.str (Str.ofString "unlike"), .int (x1 % ((ls.map lkD).length : Int))], .tup [.str (Str.ofString "within"), .ref l1]]) hl2)
          have hu5 := Sub.new (o := .lst [.tup [.str (Str.ofString "unlike"), .int (x1 % ((ls.map lkD).length : Int))], .tup [.str (Str.ofString "within"), .ref l1]]) hl2 _ _ (Sub.new (o := .lst [.int (x1 % ((ls.map lkD).length : Int))]) hl1 _ _ hu3)
          have hw5 := Sub.new (o := .lst [.tup [.str (Str.ofString "unlike"), .int (x1 % ((ls.map lkD).length : Int))], .tup [.str (Str.ofString "within"), .ref l1]]) hl2 _ _ (Sub.new (o := .lst [.int (x1 % ((ls.map lkD).length : Int))]) hl1 _ _ hw3)
          have hi5 : updM (updM M3 l1 (.lst [.int (x1 % ((ls.map lkD).length : Int))])) l2 (.lst [.tup [.str (Str.ofString "unlike"), .int (x1 % ((ls.map lkD).length : Int))], .tup [.str (Str.ofString "within"), .ref l1]]) l1 = some (.lst [.int (x1 % ((ls.map lkD).length : Int))]) := Sub.new hl2 _ _ updM_same
          have hj5 : updM (updM M3 l1 (.lst [.int (x1 % ((ls.map lkD).length : Int))])) l2 (.lst [.tup [.str (Str.ofString "unlike"), .int (x1 % ((ls.map lkD).length : Int))], .tup [.str (Str.ofString "within"), .ref l1]]) l2 = some (.lst [.tup [.str (Str.ofString "unlike"), .int (x1 % ((ls.map lkD).length : Int))], .tup [.str (Str.ofString "within"), .ref l1]]) := updM_same
          generalize updM (updM M3 l1 (.lst [.int (x1 % ((ls.map lkD).length : Int))])) l2 (.lst [.tup [.str (Str.ofString "unlike"), .int (x1 % ((ls.map lkD).length : Int))], .tup [.str (Str.ofString "within"), .ref l1]]) = M5 at *
          have h2n := Int.emod_nonneg x2 (b := 2) (by decide)
          have h2l := Int.emod_lt_of_pos x2 (b := 2) (by decide)
          refine ⟨_, _, hS5 _ _ hx, e2, by show (0 : Int) < 2; decide, ?_⟩
          rcases (show x2 % 2 = 0 ∨ x2 % 2 = 1 by omega) with c | c
          · refine ⟨_, .tup [.str (Str.ofString "unlike"), .int (x1 % ((ls.map lkD).length : Int))], hj5, by show atI _ (x2 % 2) = _; rw [c]; rfl, ?_⟩
            refine .inr ⟨_, hu5, rfl, flat_ints _, ?_⟩
            refine .inr ⟨_, hw5, rfl, flat_ints _, ?_⟩
            show ∀ p, _ → _
            intro l3 hl3
            refine ⟨_, _, Sub.new hl3 _ _ (hS5 _ _ hx), e2, by show (0 : Int) < 2; decide, _, .bl (unlikeB p), updM_same, by show atI [D.bl ((us.map D.int).any fun y => D.eq y (.int (x1 % ((ls.map lkD).length : Int)))), D.bl ((ws.map D.int).any fun y => D.eq y (.int (x1 % ((ls.map lkD).length : Int))))] (x2 % 2) = _; rw [c, aU]; rfl, ?_⟩
            exact ⟨_, Sub.refl _, q (.unlike (x1 % ((ls.map lkD).length : Int))) _ (unlikeB p) _ (hS5.trans (Sub.new hl3)) rfl (Nat.zero_le _) (fun h => ⟨p, ep, h⟩) (fun h p' hp' => by rw [ep] at hp'; cases hp'; exact h)⟩
          · refine ⟨_, .tup [.str (Str.ofString "within"), .ref l1], hj5, by show atI _ (x2 % 2) = _; rw [c]; rfl, ?_⟩
            refine .inr ⟨_, hu5, rfl, flat_ints _, ?_⟩
            refine .inr ⟨_, hw5, rfl, flat_ints _, ?_⟩
            show ∀ p, _ → _
            intro l3 hl3
            refine ⟨_, _, Sub.new hl3 _ _ (hS5 _ _ hx), e2, by show (0 : Int) < 2; decide, _, .bl (selfB p), updM_same, by show atI [D.bl ((us.map D.int).any fun y => D.eq y (.int (x1 % ((ls.map lkD).length : Int)))), D.bl ((ws.map D.int).any fun y => D.eq y (.int (x1 % ((ls.map lkD).length : Int))))] (x2 % 2) = _; rw [c, aW]; rfl, ?_⟩
            exact ⟨_, Sub.refl _, q (.within [x1 % ((ls.map lkD).length : Int)]) _ (selfB p) _ (hS5.trans (Sub.new hl3)) ⟨l1, rfl, Sub.new hl3 _ _ hi5⟩ (Nat.le_refl _) (fun h => good_one ep h) (fun h => bad_one ep h)⟩
        · show ∀ p, _ → _
          intro l hl
          refine ⟨_, _, Sub.new hl _ _ hu2, updM_same, .inr rfl, ?_⟩
          show if (!((us.map D.int).isEmpty && true)) = true then _ else _
          cases us with
          | nil => exact hR _ _ ⟨hS2.trans (Sub.new hl), Sub.new hl _ _ hu2, Sub.new hl _ _ hw2, _, _, _, rfl⟩
          | cons k0 us =>
            obtain ⟨k, hk, ak⟩ := ints_mod (fs := k0 :: us) (by rw [List.length_cons]; omega) x1
            obtain ⟨r, er, ce⟩ := hU k hk
            refine ⟨_, _, Sub.new hl _ _ (hS2 _ _ hx), e1, _, Sub.new hl _ _ hu2, by show (0 : Int) < (((k0 :: us).map D.int).length : Int); rw [List.length_map, List.length_cons]; omega, _, _, Sub.new hl _ _ hu2, ak, ?_⟩
            exact ⟨_, Sub.refl _, q (.unlike k) _ true _ (hS2.trans (Sub.new hl)) rfl (Nat.zero_le _) (fun _ => ⟨r, er, ce⟩) (fun z => nomatch z)⟩
      · refine ⟨_, _, hS _ _ hx, e0, by show (0 : Int) < 2; decide, ?_⟩
        show if decide (x0 % 2 = 0) = true then _ else _
        by_cases c : x0 % 2 = 0
        · refine ifT c ?_
          show ∀ p, _ → _
          intro l hl
          refine ⟨_, _, Sub.new hl _ _ hw, updM_same, .inr rfl, ?_⟩
          show if (!((ws.map D.int).isEmpty && true)) = true then _ else _
          cases ws with
          | nil => exact hR _ _ ⟨hS.trans (Sub.new hl), Sub.new hl _ _ hu, Sub.new hl _ _ hw, _, _, _, rfl⟩
          | cons k0 ws =>
            obtain ⟨k, hk, ak⟩ := ints_mod (fs := k0 :: ws) (by rw [List.length_cons]; omega) x1
            obtain ⟨r, er, ce⟩ := hW k hk
            refine ⟨_, _, Sub.new hl _ _ (hS _ _ hx), e1, _, Sub.new hl _ _ hw, by show (0 : Int) < (((k0 :: ws).map D.int).length : Int); rw [List.length_map, List.length_cons]; omega, _, _, Sub.new hl _ _ hw, ak, ?_⟩
            show ∀ p, _ → _
            intro l2 hl2
            exact ⟨_, Sub.refl _, q (.within [k]) _ true _ ((hS.trans (Sub.new hl)).trans (Sub.new hl2)) ⟨l2, rfl, updM_same⟩ (Nat.le_refl _) (fun _ => good_one er ce) (fun z => nomatch z)⟩
        · refine ifF c ?_
          exact hR _ _ ⟨hS, hu, hw, _, _, _, rfl⟩
/-! ### bad steps, bad ends -/
def W9Ls (ls : List (Tree × Tree)) : Prop := ∀ p ∈ ls, w9 p.1 ∧ w9 p.2
theorem w9_parts {t : Tree} (h : w9 t) : t.parts.length ≤ 9 := by
  cases t with
  | blank k => exact Nat.zero_le _
  | block n ps => exact h.1
theorem w9_part {t u : Tree} {i : Nat} (h : w9 t) (e : t.parts[i]? = some u) : w9 u := by
  cases t with
  | blank k => have e' : ([] : List Tree)[i]? = some u := e; rw [List.getElem?_nil] at e'; cases e'
  | block n ps => exact w9s_get h.2 (List.mem_of_getElem? e)
theorem step_w9 {ls : List (Tree × Tree)} (h : W9Ls ls) {st : Stp} {p : Tree × Tree} (e : stepOf ls st = some p) : W9Ls (ls ++ [p]) := by
  have hp : w9 p.1 ∧ w9 p.2 := by
    cases st with
    | joined e => cases e
    | turned k =>
      have e' : (lkIdx ls k).map (fun p => (p.2, p.1)) = some p := e
      cases ek : lkIdx ls k with
      | none => rw [ek] at e'; cases e'
      | some q =>
        rw [ek] at e'; cases e'
        exact ⟨(h q (lkIdx_mem ek)).2, (h q (lkIdx_mem ek)).1⟩
    | part k j =>
      have e' : ((lkIdx ls k).bind fun p => partIx p j) = some p := e
      cases ek : lkIdx ls k with
      | none => rw [ek] at e'; cases e'
      | some q =>
        rw [ek] at e'
        have e2 : partIx q j = some p := e'
        unfold partIx at e2
        by_cases c : sameH q.1 q.2 = true ∧ 0 ≤ j
        · rw [if_pos c] at e2
          cases ea : q.1.parts[j.toNat]? with
          | none => rw [ea] at e2; cases e2
          | some a => cases eb : q.2.parts[j.toNat]? with
            | none => rw [ea, eb] at e2; cases e2
            | some b =>
              rw [ea, eb] at e2
              cases e2
              exact ⟨w9_part (h q (lkIdx_mem ek)).1 ea, w9_part (h q (lkIdx_mem ek)).2 eb⟩
        · rw [if_neg c] at e2; cases e2
    | linked k j =>
      have e' : ((lkIdx ls k).bind fun p => (lkIdx ls j).bind fun q => linkIx p q) = some p := e
      cases ek : lkIdx ls k with
      | none => rw [ek] at e'; cases e'
      | some q => cases ej : lkIdx ls j with
        | none => rw [ek, ej] at e'; cases e'
        | some r =>
          rw [ek, ej] at e'
          have e2 : linkIx q r = some p := e'
          unfold linkIx at e2
          by_cases c : D.eq q.2.d r.1.d = true
          · rw [if_pos c] at e2; cases e2
            exact ⟨(h q (lkIdx_mem ek)).1, (h r (lkIdx_mem ej)).2⟩
          · rw [if_neg c] at e2; cases e2
  intro q hq
  rcases List.mem_append.mp hq with hq | hq
  · exact h q hq
  · cases List.mem_singleton.mp hq; exact hp
theorem bad_turned {ls : List (Tree × Tree)} {e : Int} (h : lkIdx ls e = none) : stepOf ls (.turned e) = none := by show (lkIdx ls e).map _ = _; rw [h]; rfl
theorem bad_part {ls : List (Tree × Tree)} {e k : Int} (h : ∀ p, lkIdx ls e = some p → partIx p k = none) : stepOf ls (.part e k) = none := by
  show (lkIdx ls e).bind _ = _
  cases c : lkIdx ls e with
  | none => rfl
  | some p => exact h p c
theorem bad_linked {ls : List (Tree × Tree)} {e f : Int} (h : ∀ p q, lkIdx ls e = some p → lkIdx ls f = some q → linkIx p q = none) : stepOf ls (.linked e f) = none := by
  show ((lkIdx ls e).bind fun p => (lkIdx ls f).bind fun q => linkIx p q) = none
  cases c : lkIdx ls e with
  | none => rfl
  | some p => cases c2 : lkIdx ls f with
    | none => rfl
    | some q => exact h p q c c2
theorem bad_linked1 {ls : List (Tree × Tree)} {e f : Int} (h : lkIdx ls e = none ∨ lkIdx ls f = none) : stepOf ls (.linked e f) = none := bad_linked fun p q h1 h2 => by
  rcases h with h | h
  · rw [h] at h1; cases h1
  · rw [h] at h2; cases h2
def AllBad (ls : List (Tree × Tree)) (sts : List Stp) : Prop := ∀ st ∈ sts, stepOf ls st = none
theorem AllBad.app {ls : List (Tree × Tree)} {a b : List Stp} (h1 : AllBad ls a) (h2 : AllBad ls b) : AllBad ls (a ++ b) := fun st hs => (List.mem_append.mp hs).elim (h1 st) (h2 st)
theorem AllBad.one {ls : List (Tree × Tree)} {s : Stp} (h : stepOf ls s = none) : AllBad ls [s] := fun st hs => by cases List.mem_singleton.mp hs; exact h
def spBadS : SpD := fun ds M Q => ∃ (lp lx : Addr) (ls : List (Tree × Tree)) (xs : List Int), ds = [.ref lp, .ref lx] ∧ M lp = some (.lst (ls.map lkD)) ∧ M lx = some (.lst (xs.map .int)) ∧ xs.length = 5 ∧ (∀ x ∈ xs, 0 ≤ x) ∧ 0 < ls.length ∧ ls.length ≤ 50 ∧ OkLs 60 ls ∧ W9Ls ls ∧
  ∀ st, stepOf ls st = none → Q st.d M
theorem stp_mod {sts : List Stp} (h : 0 < sts.length) (x : Int) : ∃ s ∈ sts, atI (sts.map Stp.d) (x % ((sts.map Stp.d).length : Int)) = some s.d := by
  have hp : (0 : Int) < ((sts.map Stp.d).length : Int) := by rw [List.length_map]; omega
  obtain ⟨d, hd⟩ := at_some (xs := sts.map Stp.d) (Int.emod_nonneg x (by omega)) (Int.emod_lt_of_pos x hp)
  obtain ⟨j, _, hj, _⟩ := atI_get hd
  obtain ⟨s, hs, rfl⟩ := List.mem_map.mp (List.mem_of_getElem? hj)
  exact ⟨s, hs, hd⟩
theorem ok_badS (T : Txt K mg) : FnD P w K mg base 2 "_law_bad_step" ["pairs", "xs"] spBadS := by
  have m_len := T.m_len
  have m_range := T.m_range
  have F__law_same := ok_sameL (P := P) (w := w) (base := base) T
  refine def_ok T.f__law_bad_step sc__law_bad_step (fun ds M Q h => ?_) fun f cdv A outer s H E hr => ⟨_, (ss_cons (s_set (i := 2) sc__law_bad_step.nd (d_callB cd_len rfl m_len bt_len (a_cons (d_var 0) a_nil)))
 (ss_cons (s_set (i := 3) sc__law_bad_step.nd (d_op od_mod (d_ix (d_var 1) d_int) (d_var 2)))
 (ss_cons (s_set (i := 4) sc__law_bad_step.nd (d_lst (a_cons (d_tup (a_cons d_str (a_cons (d_var 3) (a_cons (d_op od_add d_int (d_op od_mod (d_ix (d_var 1) d_int) d_int)) a_nil)))) (a_cons (d_tup (a_cons d_str (a_cons (d_var 2) a_nil))) (a_cons (d_tup (a_cons d_str (a_cons (d_var 3) (a_cons (d_var 2) a_nil)))) (a_cons (d_tup (a_cons d_str (a_cons (d_op od_sub (d_neg d_int) (d_op od_mod (d_ix (d_var 1) d_int) d_int)) a_nil))) a_nil))))))
 (ss_cons (s_set (i := 4) sc__law_bad_step.nd (d_op od_add (d_var 4) (d_lst (a_cons (d_tup (a_cons d_str (a_cons (d_var 3) (a_cons d_int a_nil)))) (a_cons (d_tup (a_cons d_str (a_cons (d_var 3) (a_cons (d_neg d_int) a_nil)))) (a_cons (d_tup (a_cons d_str (a_cons (d_op od_add (d_op od_add (d_var 2) d_int) (d_op od_mod (d_ix (d_var 1) d_int) d_int)) (a_cons (d_var 3) a_nil)))) (a_cons (d_tup (a_cons d_str (a_cons (d_var 2) (a_cons d_int a_nil)))) a_nil)))))))
 (ss_cons (s_set (i := 4) sc__law_bad_step.nd (d_op od_add (d_var 4) (d_lst (a_cons (d_tup (a_cons d_str (a_cons (d_op od_sub (d_neg d_int) (d_op od_mod (d_ix (d_var 1) d_int) d_int)) (a_cons d_int a_nil)))) (a_cons (d_tup (a_cons d_str (a_cons (d_var 3) (a_cons (d_op od_sub (d_neg d_int) (d_op od_mod (d_ix (d_var 1) d_int) d_int)) a_nil)))) (a_cons (d_tup (a_cons d_str (a_cons (d_op od_sub (d_neg d_int) (d_op od_mod (d_ix (d_var 1) d_int) d_int)) (a_cons (d_var 3) a_nil)))) a_nil))))))
 (ss_cons (s_for1 PassesOwn.never rfl m_range (a_cons (d_var 2) a_nil) (g_name (i := 5) sc__law_bad_step.nd) (ss_cons (s_if (dt_cmp (od_ne hr) (d_ix (d_ix (d_var 0) (d_var 5)) d_int) (d_ix (d_ix (d_var 0) (d_var 3)) d_int) (nomark _)) (ss_one (s_expr (d_bm PySem.F.plainAttrs_list PySem.F.slot_list_append PySem.F.type_list_append md_append (d_var 4) (a_cons (d_tup (a_cons d_str (a_cons (d_var 3) (a_cons (d_var 5) a_nil)))) a_nil)))) ss_nil)
 (ss_one (s_for PassesOwn.never rfl (d_ix (d_var 0) (d_var 5)) (g_name (i := 6) sc__law_bad_step.nd) (ss_one (s_if (PW.pt (dw_and (dt_not (dt_val (d_call F__law_same (hr.mono (by omega)) (a_cons (d_ix (d_var 0) (d_var 5)) a_nil)))) (dw_and (dt_cmp (od_eq hr) (d_ix (d_var 6) d_int) d_str (nomark _)) (dw_and1 (dt_cmp (od_ne hr) (d_ix (d_var 6) d_int) (d_tup a_nil) (nomark _)))))) (ss_one (s_expr (d_bm PySem.F.plainAttrs_list PySem.F.slot_list_append PySem.F.type_list_append md_append (d_var 4) (a_cons (d_tup (a_cons d_str (a_cons (d_var 5) (a_cons (d_op od_mod (d_ix (d_var 1) d_int) (d_callB cd_len rfl m_len bt_len (a_cons (d_ix (d_var 6) d_int) a_nil))) a_nil)))) a_nil)))) ss_nil))))))
 (ss_one (s_ret (d_ix (d_var 4) (d_op od_mod (d_ix (d_var 1) d_int) (d_callB cd_len rfl m_len bt_len (a_cons (d_var 4) a_nil)))))))))))), fun ds M Q h => ?_⟩
  · obtain ⟨lp, lx, ls, xs, rfl, _⟩ := h; rfl
  · obtain ⟨lp, lx, ls, xs, rfl, hp, hx, hxl, hx0, hl0, hl1, hok, hw9, q⟩ := h
    obtain ⟨x0, e0, p0⟩ := nn_ix (k := 0) hxl (by decide) hx0
    obtain ⟨x1, e1, p1⟩ := nn_ix (k := 1) hxl (by decide) hx0
    obtain ⟨x2, e2, p2⟩ := nn_ix (k := 2) hxl (by decide) hx0
    obtain ⟨p, ep⟩ := lk_mod hl0 x0
    have hpos : (0 : Int) < ((ls.map lkD).length : Int) := by rw [List.length_map]; omega
    have hlm : ((ls.map lkD).length : Int) = (ls.length : Int) := by rw [List.length_map]
    have t3 : (0 : Int) < 3 := by decide
    have t9 : (0 : Int) < 9 := by decide
    have m3 := Int.emod_nonneg x1 (b := 3) (by decide)
    have m9 := Int.emod_nonneg x1 (b := 9) (by decide)
    have nT : ∀ k : Int, ((ls.map lkD).length : Int) ≤ k → lkIdx ls k = none := fun k hk => lkIdx_none (.inr (by omega))
    have nN : ∀ k : Int, k < 0 → lkIdx ls k = none := fun k hk => lkIdx_none (.inl hk)
    refine ⟨_, hp, ?_⟩
    refine ⟨_, _, hx, e0, hpos, ?_⟩
    refine ⟨_, _, hx, e1, t3, _, _, hx, e1, t3, ?_⟩
    show ∀ p, _ → _
    intro l1 hl1
    have hB1 : AllBad ls [.part (x0 % ((ls.map lkD).length : Int)) (9 + x1 % 3), .turned ((ls.map lkD).length : Int), .linked (x0 % ((ls.map lkD).length : Int)) ((ls.map lkD).length : Int), .turned (-1 - x1 % 3)] := fun st hs => by
      simp only [List.mem_cons, List.not_mem_nil, or_false] at hs
      rcases hs with rfl | rfl | rfl | rfl
      · exact bad_part fun p hp' => part_none (.inr (.inr (by have := w9_parts (hw9 p (lkIdx_mem hp')).1; omega)))
      · exact bad_turned (nT _ (Int.le_refl _))
      · exact bad_linked1 (.inr (nT _ (Int.le_refl _)))
      · exact bad_turned (nN _ (by omega))
    have hB2 : AllBad ls [.joined (x0 % ((ls.map lkD).length : Int)), .part (x0 % ((ls.map lkD).length : Int)) (-1), .linked (((ls.map lkD).length : Int) + 1 + x1 % 9) (x0 % ((ls.map lkD).length : Int)), .part ((ls.map lkD).length : Int) 0] := fun st hs => by
      simp only [List.mem_cons, List.not_mem_nil, or_false] at hs
      rcases hs with rfl | rfl | rfl | rfl
      · rfl
      · exact bad_part fun p hp' => part_none (.inr (.inl (by decide)))
      · exact bad_linked1 (.inl (nT _ (by omega)))
      · exact bad_part fun p hp' => by rw [nT _ (Int.le_refl _)] at hp'; cases hp'
    have hB3 : AllBad ls [.part (-1 - x1 % 3) 0, .linked (x0 % ((ls.map lkD).length : Int)) (-1 - x1 % 3), .linked (-1 - x1 % 3) (x0 % ((ls.map lkD).length : Int))] := fun st hs => by
      simp only [List.mem_cons, List.not_mem_nil, or_false] at hs
      rcases hs with rfl | rfl | rfl
      · exact bad_part fun p hp' => by rw [nN _ (by omega)] at hp'; cases hp'
      · exact bad_linked1 (.inr (nN _ (by omega)))
      · exact bad_linked1 (.inl (nN _ (by omega)))
    have hS1 := Sub.new (o := .lst ([Stp.part (x0 % ((ls.map lkD).length : Int)) (9 + x1 % 3), .turned ((ls.map lkD).length : Int), .linked (x0 % ((ls.map lkD).length : Int)) ((ls.map lkD).length : Int), .turned (-1 - x1 % 3)].map Stp.d)) hl1
    refine ⟨_, _, hS1 _ _ hx, e1, t9, ?_⟩
    show ∀ p, _ → _
    intro l2 hl2
    have hS2 := hS1.trans (Sub.new (o := .lst ([Stp.joined (x0 % ((ls.map lkD).length : Int)), .part (x0 % ((ls.map lkD).length : Int)) (-1), .linked (((ls.map lkD).length : Int) + 1 + x1 % 9) (x0 % ((ls.map lkD).length : Int)), .part ((ls.map lkD).length : Int) 0].map Stp.d)) hl2)
    refine ⟨_, _, Sub.new hl2 _ _ updM_same, updM_same, line1000 (by show 4 + 4 ≤ 1000; decide), fun l3 hl3 => ?_⟩
    have hS3 := hS2.trans (Sub.new (o := .lst (([Stp.part (x0 % ((ls.map lkD).length : Int)) (9 + x1 % 3), .turned ((ls.map lkD).length : Int), .linked (x0 % ((ls.map lkD).length : Int)) ((ls.map lkD).length : Int), .turned (-1 - x1 % 3)] ++ [Stp.joined (x0 % ((ls.map lkD).length : Int)), .part (x0 % ((ls.map lkD).length : Int)) (-1), .linked (((ls.map lkD).length : Int) + 1 + x1 % 9) (x0 % ((ls.map lkD).length : Int)), .part ((ls.map lkD).length : Int) 0]).map Stp.d)) hl3)
    refine ⟨_, _, hS3 _ _ hx, e1, t3, _, _, hS3 _ _ hx, e1, t3, _, _, hS3 _ _ hx, e1, t3, ?_⟩
    show ∀ p, _ → _
    intro l4 hl4
    refine ⟨_, _, Sub.new hl4 _ _ updM_same, updM_same, line1000 (by show 8 + 3 ≤ 1000; decide), fun l5 hl5 => ?_⟩
    have hS4 := hS3.trans (Sub.new (o := .lst ([Stp.part (-1 - x1 % 3) 0, .linked (x0 % ((ls.map lkD).length : Int)) (-1 - x1 % 3), .linked (-1 - x1 % 3) (x0 % ((ls.map lkD).length : Int))].map Stp.d)) hl4)
    have hl50 : M l5 = none := none_sub hS4 hl5
    have hB := (hB1.app hB2).app hB3
    have hS5 := hS4.trans (Sub.new (o := .lst ((([Stp.part (x0 % ((ls.map lkD).length : Int)) (9 + x1 % 3), .turned ((ls.map lkD).length : Int), .linked (x0 % ((ls.map lkD).length : Int)) ((ls.map lkD).length : Int), .turned (-1 - x1 % 3)] ++ [Stp.joined (x0 % ((ls.map lkD).length : Int)), .part (x0 % ((ls.map lkD).length : Int)) (-1), .linked (((ls.map lkD).length : Int) + 1 + x1 % 9) (x0 % ((ls.map lkD).length : Int)), .part ((ls.map lkD).length : Int) 0]) ++ [Stp.part (-1 - x1 % 3) 0, .linked (x0 % ((ls.map lkD).length : Int)) (-1 - x1 % 3), .linked (-1 - x1 % 3) (x0 % ((ls.map lkD).length : Int))]).map Stp.d)) hl5)
    refine ⟨⟨by omega, by omega⟩, fun i τ M' => ∃ (S : List Stp) (v5 v6 : Option D), AllBad ls S ∧ 0 < S.length ∧ S.length ≤ 11 + 3 * i ∧ Sub M M' ∧ M' l5 = some (.lst (S.map Stp.d)) ∧ τ = [some (.ref lp), some (.ref lx), some (.int ((ls.map lkD).length : Int)), some (.int (x0 % ((ls.map lkD).length : Int))), some (.ref l5), v5, v6], ⟨_, none, none, hB, by show 0 < 11; decide, by show 11 ≤ _; omega, hS5, updM_same, rfl⟩, ?_, ?_⟩
    · rintro i τ M' hi ⟨S, v5, v6, hb, hs0, hs1, hS, hL, rfl⟩
      rw [hlm, Int.toNat_natCast] at hi
      have ei := List.getElem?_eq_getElem hi
      have ek : lkIdx ls ((i : Nat) : Int) = some ls[i] := lkIdx_some (by omega) (by rw [Int.toNat_natCast]; exact ei)
      have hop := hok _ (List.mem_of_getElem? ei)
      generalize ls[i] = r at *
      refine seq_any (fun τ' M2 => ∃ (S : List Stp), AllBad ls S ∧ 0 < S.length ∧ S.length ≤ 11 + 3 * i + 1 ∧ Sub M M2 ∧ M2 l5 = some (.lst (S.map Stp.d)) ∧ τ' = [some (.ref lp), some (.ref lx), some (.int ((ls.map lkD).length : Int)), some (.int (x0 % ((ls.map lkD).length : Int))), some (.ref l5), some (.int (i : Nat)), v6]) ?_ (fun R hR => ?_)
      · rintro τ' M2 ⟨S, hb, hs0, hs1, hS, hL, rfl⟩
        refine ⟨_, _, hS _ _ hp, lk_at ek, ?_⟩
        refine ⟨fun j τ M3 => ∃ (S : List Stp) (v6 : Option D), AllBad ls S ∧ 0 < S.length ∧ S.length ≤ 11 + 3 * i + 1 + j ∧ Sub M M3 ∧ M3 l5 = some (.lst (S.map Stp.d)) ∧ τ = [some (.ref lp), some (.ref lx), some (.int ((ls.map lkD).length : Int)), some (.int (x0 % ((ls.map lkD).length : Int))), some (.ref l5), some (.int (i : Nat)), v6], ⟨S, _, hb, hs0, hs1, hS, hL, rfl⟩, fun _ _ _ _ _ => trivial, ?_, ?_⟩
        · rintro j d τ M3 ed ⟨S, v6, hb, hs0, hs1, hS, hL, rfl⟩
          obtain ⟨sd, hsd, hdd, hj⟩ : ∃ sd : Tree, d = sd.d ∧ sd.depth ≤ 60 ∧ j < 2 := by
            obtain ⟨r1, r2⟩ := r
            match j, ed with
            | 0, ed => exact ⟨r1, (Option.some.inj ed).symm, hop.1.1, by decide⟩
            | 1, ed => exact ⟨r2, (Option.some.inj ed).symm, hop.2.1, by decide⟩
            | j + 2, ed => have ed' : (none : Option D) = some d := ed; cases ed'
          subst hsd
          have skip : ∀ v6, ∃ (S : List Stp) (v6' : Option D), AllBad ls S ∧ 0 < S.length ∧ S.length ≤ 11 + 3 * i + 1 + (j + 1) ∧ Sub M M3 ∧ M3 l5 = some (.lst (S.map Stp.d)) ∧ [some (D.ref lp), some (D.ref lx), some (D.int ((ls.map lkD).length : Int)), some (D.int (x0 % ((ls.map lkD).length : Int))), some (D.ref l5), some (D.int (i : Nat)), v6] = [some (.ref lp), some (.ref lx), some (.int ((ls.map lkD).length : Int)), some (.int (x0 % ((ls.map lkD).length : Int))), some (.ref l5), some (.int (i : Nat)), v6'] := fun v6 => ⟨S, v6, hb, hs0, by omega, hS, hL, rfl⟩
          refine ⟨_, _, hS _ _ hp, lk_at ek, r, rfl, ?_⟩
          show if (!sameH r.1 r.2) = true then _ else _
          cases hs : sameH r.1 r.2 with
          | true => exact skip _
          | false =>
            cases sd with
            | blank k => exact skip _
            | block z ps =>
              obtain ⟨n1, n2, n3⟩ := ds_nil ps (by rw [Tree.depth] at hdd; omega)
              refine ⟨n1, n2, ?_⟩
              show if (!D.eqs (Tree.ds ps) []) = true then _ else _
              rw [n3]
              by_cases hn : ps = []
              · rw [decide_eq_true hn]
                exact skip _
              · rw [decide_eq_false hn]
                have hpl : 0 < ps.length := List.length_pos_iff.mpr hn
                have hkp : (0 : Int) < ((Tree.ds ps).length : Int) := by rw [ds_map, List.length_map]; omega
                refine ⟨⟨rfl, _, hL⟩, _, _, hS _ _ hx, e1, hkp, _, hL, by rw [List.length_map]; exact small1000 (by omega), ?_⟩
                refine ⟨S ++ [.part (i : Nat) (x1 % ((Tree.ds ps).length : Int))], _, hb.app (AllBad.one (bad_part fun p' hp' => ?_)), by rw [List.length_append]; omega, by rw [List.length_append]; show S.length + 1 ≤ _; omega, sub_upd hS hl50, by rw [updM_same, List.map_append]; rfl, rfl⟩
                rw [ek] at hp'
                cases hp'
                exact part_none (.inl hs)
        · rintro τ M3 ⟨S, v6, hb, hs0, hs1, hS, hL, rfl⟩
          have hs1' : S.length ≤ 11 + 3 * i + 1 + 2 := hs1
          exact ⟨S, _, _, hb, hs0, by omega, hS, hL, rfl⟩
      · refine ⟨_, _, hS _ _ hp, lk_at ek, _, _, hS _ _ hp, lk_at ep, ?_⟩
        refine ne_tree (t := r.1) (u := p.2) (by omega) ?_
        show if (!D.eq r.1.d p.2.d) = true then _ else _
        cases hs : D.eq r.1.d p.2.d with
        | true => exact hR _ _ ⟨S, hb, hs0, by omega, hS, hL, rfl⟩
        | false =>
          refine ⟨⟨rfl, _, hL⟩, _, hL, by rw [List.length_map]; exact small1000 (by omega), ?_⟩
          refine hR _ _ ⟨S ++ [.linked (x0 % ((ls.map lkD).length : Int)) (i : Nat)], hb.app (AllBad.one (bad_linked fun p' q' hp' hq' => ?_)), by rw [List.length_append]; omega, by rw [List.length_append]; show S.length + 1 ≤ _; omega, sub_upd hS hl50, by rw [updM_same, List.map_append]; rfl, rfl⟩
          rw [ek] at hq'
          rw [ep] at hp'
          cases hp'
          cases hq'
          unfold linkIx
          rw [eq_comm', hs]
          rfl
    · rintro τ M' ⟨S, v5, v6, hb, hs0, hs1, hS, hL, rfl⟩
      obtain ⟨st, hst, ast⟩ := stp_mod hs0 x2
      refine ⟨_, _, hS _ _ hx, e2, _, hL, by show (0 : Int) < ((S.map Stp.d).length : Int); rw [List.length_map]; omega, _, _, hL, ast, ?_⟩
      exact ⟨M, hS, q st (hb st hst)⟩
/-! ### bad ends -/
def delM (M : DH) (a : Addr) : DH := fun b => if b = a then none else M b
theorem del_sub (M : DH) (a : Addr) : Sub (delM M a) M := fun b o e => by
  unfold delM at e
  by_cases z : b = a
  · rw [if_pos z] at e; cases e
  · rw [if_neg z] at e; exact e
theorem del_upd (M : DH) (a : Addr) (o : MO) : delM (updM M a o) a = delM M a := by
  funext b
  unfold delM
  by_cases z : b = a
  · rw [if_pos z, if_pos z]
  · rw [if_neg z, if_neg z, updM_ne z]
theorem del_new {M : DH} {a p : Addr} {o : MO} (h : M p = none) : Sub (delM M a) (delM (updM M p o) a) := fun b u e => by
  unfold delM at e ⊢
  by_cases z : b = a
  · rw [if_pos z] at e; cases e
  · rw [if_neg z] at e ⊢
    exact Sub.new h _ _ e
theorem del_get {M : DH} {a b : Addr} {o : MO} (hb : b ≠ a) (h : M b = some o) : delM M a b = some o := by unfold delM; rw [if_neg hb]; exact h
def EndsOk (ls : List (Tree × Tree)) (N : DH) (es : List (End × D)) : Prop := ∀ x ∈ es, EndAt N x.1 x.2 ∧ BadE ls x.1 ∧ x.1.len ≤ 1
theorem EndsOk.sub {ls : List (Tree × Tree)} {N N' : DH} {es : List (End × D)} (h : EndsOk ls N es) (s : Sub N N') : EndsOk ls N' es := fun x hx => ⟨(h x hx).1.sub s, (h x hx).2⟩
theorem EndsOk.more {ls : List (Tree × Tree)} {N : DH} {es : List (End × D)} {e : End} {d : D} (h : EndsOk ls N es) (h1 : EndAt N e d) (h2 : BadE ls e) (h3 : e.len ≤ 1) : EndsOk ls N (es ++ [(e, d)]) := fun x hx => by
  rcases List.mem_append.mp hx with hx | hx
  · exact h x hx
  · cases List.mem_singleton.mp hx; exact ⟨h1, h2, h3⟩
theorem ends_mod {es : List (End × D)} (h : 0 < es.length) (x : Int) : ∃ s ∈ es, atI (es.map (·.2)) (x % ((es.map (·.2)).length : Int)) = some s.2 := by
  have hp : (0 : Int) < ((es.map (·.2)).length : Int) := by rw [List.length_map]; omega
  obtain ⟨d, hd⟩ := at_some (xs := es.map (·.2)) (Int.emod_nonneg x (by omega)) (Int.emod_lt_of_pos x hp)
  obtain ⟨j, _, hj, _⟩ := atI_get hd
  obtain ⟨s, hs, rfl⟩ := List.mem_map.mp (List.mem_of_getElem? hj)
  exact ⟨s, hs, hd⟩
def spBadE (n : Nat) : SpD := fun ds M Q => ∃ (lp lx : Addr) (ls : List (Tree × Tree)) (xs : List Int), ds = [.ref lp, .ref lx] ∧ M lp = some (.lst (ls.map lkD)) ∧ M lx = some (.lst (xs.map .int)) ∧ xs.length = 5 ∧ (∀ x ∈ xs, 0 ≤ x) ∧ 0 < ls.length ∧ ls.length ≤ 50 ∧ OkLs n ls ∧
  ∀ (e : End) (d : D) M', Sub M M' → EndAt M' e d → e.len ≤ 1 → BadE ls e → Q d M'
theorem ok_badE (T : Txt K mg) (n : Nat) : FnD P w K mg base (n + 3) "_law_bad_end" ["pairs", "xs"] (spBadE n) := by
  have m_len := T.m_len
  have m_range := T.m_range
  have F__law_same := ok_sameL (P := P) (w := w) (base := base) T
  have F__law_blanks := ok_blksC (P := P) (w := w) (base := base) T n
  refine def_ok T.f__law_bad_end sc__law_bad_end (fun ds M Q h => ?_) fun f cdv A outer s H E hr => ⟨_, (ss_cons (s_set (i := 2) sc__law_bad_end.nd (d_lst (a_cons (d_tup (a_cons d_str (a_cons (d_callB cd_len rfl m_len bt_len (a_cons (d_var 0) a_nil)) a_nil))) (a_cons (d_tup (a_cons d_str (a_cons (d_lst a_nil) a_nil))) (a_cons (d_tup (a_cons d_str (a_cons (d_lst (a_cons (d_callB cd_len rfl m_len bt_len (a_cons (d_var 0) a_nil)) a_nil)) a_nil))) (a_cons (d_tup (a_cons d_str (a_cons d_int a_nil))) (a_cons (d_tup (a_cons d_str (a_cons (d_neg d_int) a_nil))) a_nil)))))))
 (ss_cons (s_expr (d_bm PySem.F.plainAttrs_list PySem.F.slot_list_append PySem.F.type_list_append md_append (d_var 2) (a_cons (d_tup (a_cons d_str (a_cons (d_lst (a_cons (d_neg d_int) a_nil)) a_nil))) a_nil)))
 (ss_cons (s_for1 PassesOwn.never rfl m_range (a_cons (d_callB cd_len rfl m_len bt_len (a_cons (d_var 0) a_nil)) a_nil) (g_name (i := 3) sc__law_bad_end.nd) (ss_cons (s_asg (d_ix (d_var 0) (d_var 3)) (g_tup rfl (gs_cons (g_name (i := 4) sc__law_bad_end.nd) (gs_cons (g_name (i := 5) sc__law_bad_end.nd) gs_nil)) len_2))
 (ss_cons (s_if (PW.pt (dw_or (dt_cmp (od_eq hr) (d_ix (d_var 4) d_int) d_str (nomark _)) (dw_or (dt_cmp (od_eq hr) (d_ix (d_var 5) d_int) d_str (nomark _)) (dw_or1 (dt_val (d_call F__law_same (hr.mono (by omega)) (a_cons (d_ix (d_var 0) (d_var 3)) a_nil))))))) (ss_one (s_expr (d_bm PySem.F.plainAttrs_list PySem.F.slot_list_append PySem.F.type_list_append md_append (d_var 2) (a_cons (d_tup (a_cons d_str (a_cons (d_var 3) a_nil))) a_nil)))) ss_nil)
 (ss_one (s_if (PW.pt (dw_or (dt_cmp (od_eq hr) (d_ix (d_var 4) d_int) d_str (nomark _)) (dw_or (dt_cmp (od_eq hr) (d_ix (d_var 5) d_int) d_str (nomark _)) (dw_or1 (dt_cmp (od_notinX hr) (d_ix (d_var 4) d_int) (d_call F__law_blanks (hr.mono (by omega)) (a_cons (d_var 5) a_nil)) (rfl)))))) (ss_one (s_expr (d_bm PySem.F.plainAttrs_list PySem.F.slot_list_append PySem.F.type_list_append md_append (d_var 2) (a_cons (d_tup (a_cons d_str (a_cons (d_lst (a_cons (d_var 3) a_nil)) a_nil))) a_nil)))) ss_nil)))))
 (ss_one (s_ret (d_ix (d_var 2) (d_op od_mod (d_ix (d_var 1) d_int) (d_callB cd_len rfl m_len bt_len (a_cons (d_var 2) a_nil))))))))), fun ds M Q h => ?_⟩
  · obtain ⟨lp, lx, ls, xs, rfl, _⟩ := h; rfl
  · obtain ⟨lp, lx, ls, xs, rfl, hp, hx, hxl, hx0, hl0, hl1, hok, q⟩ := h
    obtain ⟨x2, e2, p2⟩ := nn_ix (k := 2) hxl (by decide) hx0
    have hlm : ((ls.map lkD).length : Int) = (ls.length : Int) := by rw [List.length_map]
    have nT : lkIdx ls ((ls.map lkD).length : Int) = none := lkIdx_none (.inr (by omega))
    have nN : lkIdx ls (-1) = none := lkIdx_none (.inl (by decide))
    have bu : ∀ k : Int, lkIdx ls k = none → BadE ls (.unlike k) := fun k hk p hp' => by rw [hk] at hp'; cases hp'
    have bw : ∀ k : Int, lkIdx ls k = none → BadE ls (.within [k]) := fun k hk => .inl ⟨k, List.mem_singleton.mpr rfl, hk⟩
    refine ⟨_, hp, ?_⟩
    show ∀ p, _ → _
    intro l1 hl1
    have hS1 := Sub.new (o := .lst ([] : List D)) hl1
    have h11 : updM M l1 (.lst ([] : List D)) l1 = some (.lst ([] : List D)) := updM_same
    refine ⟨_, hS1 _ _ hp, ?_⟩
    show ∀ p, _ → _
    intro l2 hl2
    have hS2 := hS1.trans (Sub.new (o := .lst [.int ((ls.map lkD).length : Int)]) hl2)
    have h12 := Sub.new (o := .lst [.int ((ls.map lkD).length : Int)]) hl2 _ _ h11
    have h22 : updM (updM M l1 (.lst ([] : List D))) l2 (.lst [.int ((ls.map lkD).length : Int)]) l2 = some (.lst [.int ((ls.map lkD).length : Int)]) := updM_same
    show ∀ p, _ → _
    intro l hl
    have hl0' : M l = none := none_sub hS2 hl
    have hE3 : EndsOk ls (delM (updM (updM (updM M l1 (.lst ([] : List D))) l2 (.lst [.int ((ls.map lkD).length : Int)])) l (.lst [.tup [.str (Str.ofString "unlike"), .int ((ls.map lkD).length : Int)], .tup [.str (Str.ofString "within"), .ref l1], .tup [.str (Str.ofString "within"), .ref l2], .tup [.str (Str.ofString "alike"), .int 0], .tup [.str (Str.ofString "unlike"), .int (-1)]])) l)
        [(.unlike ((ls.map lkD).length : Int), .tup [.str (Str.ofString "unlike"), .int ((ls.map lkD).length : Int)]), (.within [], .tup [.str (Str.ofString "within"), .ref l1]), (.within [((ls.map lkD).length : Int)], .tup [.str (Str.ofString "within"), .ref l2]), (.alike, .tup [.str (Str.ofString "alike"), .int 0]), (.unlike (-1), .tup [.str (Str.ofString "unlike"), .int (-1)])] := by
      rw [del_upd]
      have n1 : l1 ≠ l := by intro z; subst z; rw [h12] at hl; cases hl
      have n2 : l2 ≠ l := by intro z; subst z; rw [h22] at hl; cases hl
      intro x hx'
      simp only [List.mem_cons, List.not_mem_nil, or_false] at hx'
      rcases hx' with rfl | rfl | rfl | rfl | rfl
      · exact ⟨rfl, bu _ nT, Nat.zero_le _⟩
      · exact ⟨⟨l1, rfl, del_get n1 h12⟩, .inr ⟨[], rfl, rfl⟩, Nat.zero_le _⟩
      · exact ⟨⟨l2, rfl, del_get n2 h22⟩, bw _ nT, Nat.le_refl _⟩
      · exact ⟨rfl, trivial, Nat.zero_le _⟩
      · exact ⟨rfl, bu _ nN, Nat.zero_le _⟩
    have hS3 := hS2.trans (Sub.new (o := .lst [.tup [.str (Str.ofString "unlike"), .int ((ls.map lkD).length : Int)], .tup [.str (Str.ofString "within"), .ref l1], .tup [.str (Str.ofString "within"), .ref l2], .tup [.str (Str.ofString "alike"), .int 0], .tup [.str (Str.ofString "unlike"), .int (-1)]]) hl)
    refine ⟨⟨rfl, _, updM_same⟩, ?_⟩
    show ∀ p, _ → _
    intro l3 hl3
    have hE4 := hE3.sub (del_new (o := .lst [.int (-1)]) hl3)
    have hS4 := hS3.trans (Sub.new (o := .lst [.int (-1)]) hl3)
    have n3 : l3 ≠ l := (upd_none hl3).1
    have hE5 := hE4.more (e := .within [-1]) (d := .tup [.str (Str.ofString "within"), .ref l3]) ⟨l3, rfl, del_get n3 updM_same⟩ (bw _ nN) (Nat.le_refl _)
    refine ⟨_, Sub.new hl3 _ _ updM_same, small1000 (by show 5 ≤ 1000; decide), ?_⟩
    refine ⟨_, sub_upd hS4 hl0' _ _ hp, ⟨by omega, by omega⟩, fun i τ M' => ∃ (es : List (End × D)) (v3 v4 v5 : Option D), 0 < es.length ∧ es.length ≤ 6 + 2 * i ∧ Sub M M' ∧ M' l = some (.lst (es.map (·.2))) ∧ EndsOk ls (delM M' l) es ∧ τ = [some (.ref lp), some (.ref lx), some (.ref l), v3, v4, v5], ⟨_, none, none, none, ?_, ?_, sub_upd hS4 hl0', ?_, by rw [del_upd]; exact hE5, rfl⟩, ?_, ?_⟩
    · show 0 < 6; decide
    · show 6 ≤ _; omega
    · rw [updM_same]; rfl
    · rintro i τ M' hi ⟨es, v3, v4, v5, hs0, hs1, hS, hL, hE, rfl⟩
      rw [hlm, Int.toNat_natCast] at hi
      have ei := List.getElem?_eq_getElem hi
      have ek : lkIdx ls ((i : Nat) : Int) = some ls[i] := lkIdx_some (by omega) (by rw [Int.toNat_natCast]; exact ei)
      have hop := hok _ (List.mem_of_getElem? ei)
      refine ⟨_, _, hS _ _ hp, lk_at ek, ?_⟩
      generalize ls[i] = p at *
      obtain ⟨t, u⟩ := p
      dsimp only [DL.hTup, DL.hCons, DL.hNil, DL.hName, lkD, List.set]
      refine seq_any (fun τ' M2 => ∃ es : List (End × D), 0 < es.length ∧ es.length ≤ 6 + 2 * i + 1 ∧ Sub M M2 ∧ M2 l = some (.lst (es.map (·.2))) ∧ EndsOk ls (delM M2 l) es ∧ τ' = [some (.ref lp), some (.ref lx), some (.ref l), some (.int (i : Nat)), some t.d, some u.d]) ?_ (fun R hR => ?_)
      · rintro τ' M2 ⟨es, hs0, hs1, hS, hL, hE, rfl⟩
        have app : selfB (t, u) = false → ∀ (M3 : DH) (es : List (End × D)), 0 < es.length → es.length ≤ 6 + 2 * i + 1 → Sub M M3 → M3 l = some (.lst (es.map (·.2))) → EndsOk ls (delM M3 l) es → ∀ l6, M3 l6 = none → ∃ (es' : List (End × D)) (v3 v4 v5 : Option D), 0 < es'.length ∧ es'.length ≤ 6 + 2 * (i + 1) ∧ Sub M (updM (updM M3 l6 (.lst [.int (i : Nat)])) l (.lst (es.map (·.2) ++ [.tup [.str (Str.ofString "within"), .ref l6]]))) ∧
            updM (updM M3 l6 (.lst [.int (i : Nat)])) l (.lst (es.map (·.2) ++ [.tup [.str (Str.ofString "within"), .ref l6]])) l = some (.lst (es'.map (·.2))) ∧ EndsOk ls (delM (updM (updM M3 l6 (.lst [.int (i : Nat)])) l (.lst (es.map (·.2) ++ [.tup [.str (Str.ofString "within"), .ref l6]]))) l) es' ∧ [some (D.ref lp), some (D.ref lx), some (D.ref l), some (D.int (i : Nat)), some t.d, some u.d] = [some (.ref lp), some (.ref lx), some (.ref l), v3, v4, v5] := fun hf M3 es hs0 hs1 hS hL hE l6 hl6 => by
          have n6 : l6 ≠ l := by intro z; subst z; rw [hL] at hl6; cases hl6
          refine ⟨es ++ [(.within [((i : Nat) : Int)], .tup [.str (Str.ofString "within"), .ref l6])], _, _, _, by rw [List.length_append]; omega, by rw [List.length_append]; show es.length + 1 ≤ _; omega, sub_upd (hS.trans (Sub.new hl6)) hl0', by rw [updM_same, List.map_append]; rfl, ?_, rfl⟩
          rw [del_upd]
          exact (hE.sub (del_new hl6)).more ⟨l6, rfl, del_get n6 updM_same⟩ (bad_one ek hf) (Nat.le_refl _)
        have len : ∀ es : List (End × D), es.length ≤ 6 + 2 * i + 1 → (es.map (·.2)).length < sizeLine := fun es h => by rw [List.length_map]; exact small1000 (by omega)
        cases t with
        | block m qs =>
          refine ⟨⟨rfl, _, hL⟩, ?_⟩
          show ∀ p, _ → _
          intro l6 hl6
          exact ⟨_, Sub.new hl6 _ _ hL, len es hs1, app rfl M2 es hs0 hs1 hS hL hE l6 hl6⟩
        | blank k => cases u with
          | blank j =>
            refine ⟨⟨rfl, _, hL⟩, ?_⟩
            show ∀ p, _ → _
            intro l6 hl6
            exact ⟨_, Sub.new hl6 _ _ hL, len es hs1, app rfl M2 es hs0 hs1 hS hL hE l6 hl6⟩
          | block m qs =>
            refine ⟨.block m qs, rfl, hop.2.1, hop.2.2, fun l7 hl7 => ?_⟩
            refine .inr ⟨_, updM_same, rfl, flat_ints _, ?_⟩
            show if (!(((inss [] (nums (.block m qs))).map D.int).any fun y => D.eq y (.int k))) = true then _ else _
            rw [any_intsR]
            have hS3 := hS.trans (Sub.new (o := .lst ((inss [] (nums (.block m qs))).map D.int)) hl7)
            have hL3 := Sub.new (o := .lst ((inss [] (nums (.block m qs))).map D.int)) hl7 _ _ hL
            have hE3 := hE.sub (del_new (o := .lst ((inss [] (nums (.block m qs))).map D.int)) hl7)
            by_cases hk : k ∈ nums (.block m qs)
            · rw [decide_eq_true (inss_mem.mpr (.inr hk))]
              exact ⟨es, _, _, _, hs0, by omega, hS3, hL3, hE3, rfl⟩
            · rw [decide_eq_false (fun z => (inss_mem.mp z).elim (fun z => absurd z List.not_mem_nil) hk)]
              refine ⟨⟨rfl, _, hL3⟩, ?_⟩
              show ∀ p, _ → _
              intro l6 hl6
              refine ⟨_, Sub.new hl6 _ _ hL3, len es hs1, app ?_ _ es hs0 hs1 hS3 hL3 hE3 l6 hl6⟩
              show (true && decide (k ∈ nums (.block m qs))) = false
              rw [decide_eq_false hk]; rfl
      · have app : unlikeB (t, u) = false → R [some (.ref lp), some (.ref lx), some (.ref l), some (.int (i : Nat)), some t.d, some u.d] (updM M' l (.lst (es.map (·.2) ++ [.tup [.str (Str.ofString "unlike"), .int (i : Nat)]]))) := fun hf => hR _ _ ⟨es ++ [(.unlike ((i : Nat) : Int), .tup [.str (Str.ofString "unlike"), .int (i : Nat)])], by rw [List.length_append]; omega, by rw [List.length_append]; show es.length + 1 ≤ _; omega, sub_upd hS hl0', by rw [updM_same, List.map_append]; rfl, by
          rw [del_upd]
          exact hE.more rfl (fun p' hp' => by rw [ek] at hp'; cases hp'; exact hf) (Nat.zero_le _), rfl⟩
        have len : (es.map (·.2)).length < sizeLine := by rw [List.length_map]; exact small1000 (by omega)
        cases t with
        | blank k => exact ⟨⟨rfl, _, hL⟩, _, hL, len, app rfl⟩
        | block m qs => cases u with
          | blank k => exact ⟨⟨rfl, _, hL⟩, _, hL, len, app rfl⟩
          | block m2 qs2 =>
            refine ⟨_, _, hS _ _ hp, lk_at ek, (.block m qs, .block m2 qs2), rfl, ?_⟩
            show if sameH (.block m qs) (.block m2 qs2) = true then _ else _
            cases hs : sameH (.block m qs) (.block m2 qs2) with
            | true =>
              exact ⟨⟨rfl, _, hL⟩, _, hL, len, app (by show (!sameH (.block m qs) (.block m2 qs2)) = false; rw [hs]; rfl)⟩
            | false => exact hR _ _ ⟨es, hs0, by omega, hS, hL, hE, rfl⟩
    · rintro τ M' ⟨es, v3, v4, v5, hs0, hs1, hS, hL, hE, rfl⟩
      obtain ⟨st, hst, ast⟩ := ends_mod hs0 x2
      refine ⟨_, _, hS _ _ hx, e2, _, hL, by show (0 : Int) < ((es.map (·.2)).length : Int); rw [List.length_map]; omega, _, _, hL, ast, ?_⟩
      have hx' := hE st hst
      exact ⟨M', Sub.refl _, q st.1 st.2 M' hS (hx'.1.sub (del_sub M' l)) hx'.2.2 hx'.2.1⟩
/-! ### a bad paper -/
theorem walk_prefix : ∀ (sts : List Stp) (l0 ls : List (Tree × Tree)), walkAll l0 sts = some ls → ls.length = l0.length + sts.length ∧ ∀ T, T ≤ sts.length → walkAll l0 (sts.take T) = some (ls.take (l0.length + T))
  | [], l0, ls, h => by
    cases h
    exact ⟨rfl, fun T hT => by
      have : T = 0 := by simpa using hT
      subst this
      rw [Nat.add_zero, List.take_length]
      rfl⟩
  | s :: r, l0, ls, h => by
    have h' : (stepOf l0 s).bind (fun p => walkAll (l0 ++ [p]) r) = some ls := h
    cases e : stepOf l0 s with
    | none => rw [e] at h'; cases h'
    | some p =>
      rw [e] at h'
      obtain ⟨h1, h2⟩ := walk_prefix r (l0 ++ [p]) ls h'
      rw [List.length_append] at h1 h2
      refine ⟨by rw [h1]; show l0.length + 1 + r.length = l0.length + (r.length + 1); omega, fun T hT => ?_⟩
      cases T with
      | zero =>
        have h3 := h2 0 (Nat.zero_le _)
        have h4 : l0 ++ [p] = ls.take (l0.length + 1) := Option.some.inj h3
        have h5 := congrArg (List.take l0.length) h4
        rw [List.take_left' rfl, List.take_take, Nat.min_eq_left (by omega)] at h5
        show some l0 = _
        rw [Nat.add_zero]
        exact congrArg some h5
      | succ T =>
        rw [List.take_succ_cons]
        show (stepOf l0 s).bind (fun p => walkAll (l0 ++ [p]) (r.take T)) = _
        rw [e]
        show walkAll (l0 ++ [p]) (r.take T) = _
        rw [h2 T (by rw [List.length_cons] at hT; omega)]
        congr 2
        show l0.length + 1 + T = _
        omega
def spBad (n : Nat) : SpD := fun ds M Q => ∃ (lst lp lx : Addr) (d : D) (one other : Tree) (sts : List Stp) (ls : List (Tree × Tree)) (e : End) (xs : List Int), ds = [.ref lst, .ref lp, d, .ref lx] ∧ M lst = some (.lst (sts.map Stp.d)) ∧ M lp = some (.lst (ls.map lkD)) ∧ EndAt M e d ∧ e.len ≤ 1 ∧ M lx = some (.lst (xs.map .int)) ∧ xs.length = 5 ∧ (∀ x ∈ xs, 0 ≤ x) ∧
  walkAll [(one, other)] sts = some ls ∧ sts.length ≤ 45 ∧ OkLs n ls ∧ n ≤ 60 ∧ W9Ls ls ∧
  ∀ (st' : Addr) (sts' : List Stp) (e' : End) (d' : D) M', Sub M M' → M' st' = some (.lst (sts'.map Stp.d)) → EndAt M' e' d' → sts'.length ≤ 50 → e'.len ≤ 1 → (walkAll [(one, other)] sts' = none ∨ ∃ ls', walkAll [(one, other)] sts' = some ls' ∧ BadE ls' e') → Q (.tup [.ref st', d']) M'
theorem ok_bad (T : Txt K mg) (n : Nat) : FnD P w K mg base (n + 4) "_law_bad" ["steps", "pairs", "end", "xs"] (spBad n) := by
  have m_len := T.m_len
  have F__law_bad_step := ok_badS (P := P) (w := w) (base := base) T
  have F__law_bad_end := ok_badE (P := P) (w := w) (base := base) T n
  refine def_ok T.f__law_bad sc__law_bad (fun ds M Q h => ?_) fun f cdv A outer s H E hr => ⟨_, (ss_cons (s_if (dt_cmp (od_eq hr) (d_op od_mod (d_ix (d_var 3) d_int) d_int) d_int (nomark _)) (ss_cons (s_set (i := 4) sc__law_bad.nd (d_op od_mod (d_ix (d_var 3) d_int) (d_op od_add (d_callB cd_len rfl m_len bt_len (a_cons (d_var 0) a_nil)) d_int)))
 (ss_one (s_ret (d_tup (a_cons (d_op od_add (d_op od_add (d_sl sd_sl (d_var 0) o_none (o_some (d_var 4))) (d_lst (a_cons (d_call F__law_bad_step (hr.mono (by omega)) (a_cons (d_sl sd_sl (d_var 1) o_none (o_some (d_op od_add (d_var 4) d_int))) (a_cons (d_var 3) a_nil))) a_nil))) (d_sl sd_sl (d_var 0) (o_some (d_var 4)) o_none)) (a_cons (d_var 2) a_nil)))))) ss_nil)
 (ss_one (s_ret (d_tup (a_cons (d_var 0) (a_cons (d_call F__law_bad_end (hr.mono (by omega)) (a_cons (d_var 1) (a_cons (d_var 3) a_nil))) a_nil)))))), fun ds M Q h => ?_⟩
  · obtain ⟨lst, lp, lx, d, one, other, sts, ls, e, xs, rfl, _⟩ := h; rfl
  · obtain ⟨lst, lp, lx, d, one, other, sts, ls, e, xs, rfl, hst, hp, he, hel, hx, hxl, hx0, hw, hsl, hok, hn60, hw9, q⟩ := h
    obtain ⟨x3, e3, p3⟩ := nn_ix (k := 3) hxl (by decide) hx0
    obtain ⟨x4, e4, p4⟩ := nn_ix (k := 4) hxl (by decide) hx0
    obtain ⟨wl, wp⟩ := walk_prefix sts _ ls hw
    have wl' : ls.length = 1 + sts.length := wl
    refine ⟨_, _, hx, e3, by show (0 : Int) < 2; decide, ?_⟩
    show if decide (x3 % 2 = 0) = true then _ else _
    by_cases c : x3 % 2 = 0
    · refine ifT c ?_
      have hlm : ((sts.map Stp.d).length : Int) = (sts.length : Int) := by rw [List.length_map]
      have hpos : (0 : Int) < ((sts.map Stp.d).length : Int) + 1 := by omega
      have m0 := Int.emod_nonneg x4 (b := ((sts.map Stp.d).length : Int) + 1) (by omega)
      have m1 := Int.emod_lt_of_pos x4 hpos
      obtain ⟨t, ht⟩ : ∃ t : Nat, x4 % (((sts.map Stp.d).length : Int) + 1) = (t : Int) := ⟨(x4 % (((sts.map Stp.d).length : Int) + 1)).toNat, by omega⟩
      have htl : t ≤ sts.length := by omega
      refine ⟨_, _, hx, e4, _, hst, hpos, ?_⟩
      refine ⟨_, hst, fun p1 hp1 => ?_⟩
      rw [show DL.cutD (sts.map Stp.d) none (some (x4 % (((sts.map Stp.d).length : Int) + 1))) = (sts.take t).map Stp.d from by rw [ht, cut_take, List.map_take]]
      have hS1 := Sub.new (o := .lst ((sts.take t).map Stp.d)) hp1
      refine ⟨_, hS1 _ _ hp, fun p2 hp2 => ?_⟩
      rw [show DL.cutD (ls.map lkD) none (some (x4 % (((sts.map Stp.d).length : Int) + 1) + 1)) = (ls.take (t + 1)).map lkD from by rw [ht, show ((t : Nat) : Int) + 1 = ((t + 1 : Nat) : Int) from rfl, cut_take, List.map_take]]
      have hS2 := hS1.trans (Sub.new (o := .lst ((ls.take (t + 1)).map lkD)) hp2)
      refine ⟨p2, lx, ls.take (t + 1), xs, rfl, updM_same, hS2 _ _ hx, hxl, hx0, by rw [List.length_take]; omega, by rw [List.length_take]; omega, fun p hp' => ?_, fun p hp' => hw9 p (List.mem_of_mem_take hp'), fun st hbad => ?_⟩
      · obtain ⟨⟨a1, a2⟩, a3, a4⟩ := hok p (List.mem_of_mem_take hp')
        exact ⟨⟨by omega, a2⟩, by omega, a4⟩
      · show ∀ p, _ → _
        intro p3 hp3
        have hS3 := hS2.trans (Sub.new (o := .lst [st.d]) hp3)
        refine ⟨_, _, Sub.new hp3 _ _ (Sub.new hp2 _ _ updM_same), updM_same, by rw [List.length_map, List.length_take]; exact line1000 (by show _ + 1 ≤ 1000; omega), fun p4 hp4 => ?_⟩
        have hS4 := hS3.trans (Sub.new (o := .lst ((sts.take t).map Stp.d ++ [st.d])) hp4)
        refine ⟨_, hS4 _ _ hst, fun p5 hp5 => ?_⟩
        rw [show DL.cutD (sts.map Stp.d) (some (x4 % (((sts.map Stp.d).length : Int) + 1))) none = (sts.drop t).map Stp.d from by rw [ht, cut_drop, List.map_drop]]
        have hS5 := hS4.trans (Sub.new (o := .lst ((sts.drop t).map Stp.d)) hp5)
        refine ⟨_, _, Sub.new hp5 _ _ updM_same, updM_same, by rw [List.length_append, List.length_map, List.length_map, List.length_take, List.length_drop]; exact line1000 (by show _ + 1 + _ ≤ 1000; omega), fun p6 hp6 => ?_⟩
        have hS6 := hS5.trans (Sub.new (o := .lst ((sts.take t).map Stp.d ++ [st.d] ++ (sts.drop t).map Stp.d)) hp6)
        refine ⟨_, Sub.refl _, q p6 (sts.take t ++ [st] ++ sts.drop t) e d _ hS6 ?_ (he.sub hS6) ?_ hel (.inl ?_)⟩
        · rw [updM_same, List.map_append, List.map_append]; rfl
        · rw [List.length_append, List.length_append, List.length_take, List.length_drop]; show _ + 1 + _ ≤ 50; omega
        · rw [List.append_assoc, walk_split, wp t htl]
          show walkAll (ls.take (1 + t)) (st :: sts.drop t) = none
          rw [Nat.add_comm 1 t]
          show (stepOf (ls.take (t + 1)) st).bind _ = none
          rw [hbad]; rfl
    · refine ifF c ?_
      refine ⟨lp, lx, ls, xs, rfl, hp, hx, hxl, hx0, by omega, by omega, hok, fun e' d' M' hs he' hl' hb => ?_⟩
      exact ⟨_, Sub.refl _, q lst sts e' d' M' hs (hs _ _ hst) he' (by omega) hl' (.inr ⟨ls, hw, hb⟩)⟩
/-! ### refused -/
def spRefG (n : Nat) : SpD := fun ds M Q => ∃ (one other : Tree) (st : Addr) (sts : List Stp) (e : End) (d : D), ds = [one.d, other.d, .tup [.ref st, d]] ∧ M st = some (.lst (sts.map Stp.d)) ∧ EndAt M e d ∧ sts.length ≤ 100 ∧ e.len ≤ 1000 ∧ n ≤ 70 ∧ OkLs n [(one, other)] ∧
  (walkAll [(one, other)] sts = none ∨ ∃ ls, walkAll [(one, other)] sts = some ls ∧ BadE ls e) ∧ Q (.bl true) M
theorem bad_good {one other : Tree} {sts : List Stp} {e : End} {ls : List (Tree × Tree)} (hb : walkAll [(one, other)] sts = none ∨ ∃ ls, walkAll [(one, other)] sts = some ls ∧ BadE ls e) (hw : walkAll [(one, other)] sts = some ls) (hg : GoodE ls e) : False := by
  rcases hb with h | ⟨ls', h1, h2⟩
  · rw [hw] at h; cases h
  · rw [hw] at h1; cases h1
    exact goodE_bad hg h2
theorem ok_refG (T : Txt K mg) (n : Nat) : FnD P w K mg base (n + 8) "_law_refused" ["one", "other", "paper"] (spRefG n) := by
  have m_int := T.m_int
  have m_isinstance := T.m_isinstance
  have E_walked := ok_walkG (P := P) (w := w) (base := base) T n
  refine def_ok T.f__law_refused sc__law_refused (fun ds M Q h => ?_) fun f cdv A outer s H E hr => ⟨_, (ss_cons (s_set (i := 3) sc__law_refused.nd d_str)
 (ss_cons (s_tryE E_walked rfl rfl rfl (hr.mono (by omega)) (a_cons (d_var 0) (a_cons (d_var 1) (a_cons (d_var 2) a_nil))) (h_catchAs (i := 4) rfl rfl rfl sc__law_refused.nd (xc_BadPaper T).nm (fun a => (ss_one (s_set (i := 3) sc__law_refused.nd (d_ix (d_lst (a_cons d_str (a_cons d_str a_nil))) (d_callTy cd_int rfl m_int bt_int (a_cons (d_or (d_callB (cd_isiE (K := K) rfl) rfl m_isinstance bt_isinstance (a_cons (d_var 4) (a_cons (d_cls rfl (xc_BadText T).nm) a_nil))) (d_one (d_callB (cd_isiE (K := K) rfl) rfl m_isinstance bt_isinstance (a_cons (d_var 4) (a_cons (d_cls rfl (xc_TooLong T).nm) a_nil))))) a_nil)))))) h_none))
 (ss_one (s_ret (d_cmp (od_eq hr) (d_var 3) d_str (nomark _)))))), fun ds M Q h => ?_⟩
  · obtain ⟨one, other, st, sts, e, d, rfl, _⟩ := h; rfl
  · obtain ⟨one, other, st, sts, e, d, rfl, hst, he, hsl, hel, hn, hok, hbad, q⟩ := h
    refine ⟨one, other, st, sts, e, d, rfl, hst, he, hsl, hel, hn, hok, fun ls hw hg => (bad_good hbad hw hg).elim, fun _ M1 hs => ?_⟩
    refine ⟨_, Sub.refl _, _, _, rfl, isa_BadPaper_BadPaper T, ?_⟩
    rw [if_pos rfl]
    intro pe hpe
    have hS := hs.trans (Sub.new (o := .exc (.ref (cl mg "BadPaper"))) hpe)
    have he' : updM M1 pe (.exc (.ref (cl mg "BadPaper"))) pe = some (.exc (.ref (cl mg "BadPaper"))) := updM_same
    generalize updM M1 pe (.exc (.ref (cl mg "BadPaper"))) = M2 at *
    have xn := xcl_BadPaper T
    show ∀ l, M2 l = none → _
    intro l1 hl1
    have he1 := Sub.new (o := .lst [.str (Str.ofString "paper"), .str (Str.ofString "more")]) hl1 _ _ he'
    refine ⟨_, _, he1, xn, kit_BadPaper_BadText T, _, _, he1, xn, kit_BadPaper_TooLong T, _, _, updM_same, rfl, ?_⟩
    exact ⟨M, hS.trans (Sub.new hl1), q⟩
theorem ok_refB (T : Txt K mg) (n : Nat) : FnD P w K mg base (n + 8) "_law_refused_by_base" ["one", "other", "paper"] (spRefG n) := by
  have m_ValueError := T.m_ValueError
  have m_isinstance := T.m_isinstance
  have E_walked := ok_walkG (P := P) (w := w) (base := base) T n
  refine def_ok T.f__law_refused_by_base sc__law_refused_by_base (fun ds M Q h => ?_) fun f cdv A outer s H E hr => ⟨_, (ss_cons (s_set (i := 3) sc__law_refused_by_base.nd d_bl)
 (ss_cons (s_tryE E_walked rfl rfl rfl (hr.mono (by omega)) (a_cons (d_var 0) (a_cons (d_var 1) (a_cons (d_var 2) a_nil))) (h_catchAs (i := 4) rfl rfl rfl sc__law_refused_by_base.nd (xc_FormError T).nm (fun a => (ss_one (s_set (i := 3) sc__law_refused_by_base.nd (d_callB (cd_isiE (K := K) rfl) rfl m_isinstance bt_isinstance (a_cons (d_var 4) (a_cons (d_ty rfl m_ValueError bt_ValueError) a_nil)))))) h_none))
 (ss_one (s_ret (d_var 3))))), fun ds M Q h => ?_⟩
  · obtain ⟨one, other, st, sts, e, d, rfl, _⟩ := h; rfl
  · obtain ⟨one, other, st, sts, e, d, rfl, hst, he, hsl, hel, hn, hok, hbad, q⟩ := h
    refine ⟨one, other, st, sts, e, d, rfl, hst, he, hsl, hel, hn, hok, fun ls hw hg => (bad_good hbad hw hg).elim, fun _ M1 hs => ?_⟩
    refine ⟨_, Sub.refl _, _, _, rfl, isa_BadPaper_FormError T, ?_⟩
    rw [if_pos rfl]
    intro pe hpe
    have hS := hs.trans (Sub.new (o := .exc (.ref (cl mg "BadPaper"))) hpe)
    have he' : updM M1 pe (.exc (.ref (cl mg "BadPaper"))) pe = some (.exc (.ref (cl mg "BadPaper"))) := updM_same
    generalize updM M1 pe (.exc (.ref (cl mg "BadPaper"))) = M2 at *
    have xn := xcl_BadPaper T
    refine ⟨_, _, he', xn, vee_BadPaper T, ?_⟩
    exact ⟨M, hS, q⟩
/-! ### the law -/
mutual
theorem self_ok : ∀ t : Tree, D.eqOk t.d t.d = true ∧ D.dep t.d ≤ 2 * t.depth
  | .block n ps => by
    obtain ⟨h1, h2⟩ := selfs_ok ps
    refine ⟨?_, ?_⟩
    · show (true && (true && (D.eqOks (Tree.ds ps) (Tree.ds ps) && true))) = true
      rw [h1]; rfl
    · simp only [Tree.d, D.dep, D.deps, Tree.depth]; omega
  | .blank k => ⟨rfl, by simp only [Tree.d, D.dep, D.deps, Tree.depth]; omega⟩
theorem selfs_ok : ∀ ts : List Tree, D.eqOks (Tree.ds ts) (Tree.ds ts) = true ∧ D.deps (Tree.ds ts) ≤ 2 * Tree.depths ts
  | [] => ⟨rfl, by simp [Tree.ds, D.deps]⟩
  | t :: ts => by
    obtain ⟨h1, h2⟩ := self_ok t
    obtain ⟨h3, h4⟩ := selfs_ok ts
    refine ⟨?_, ?_⟩
    · simp only [Tree.ds, D.eqOks, h1, h3, Bool.and_self]
    · simp only [Tree.ds, D.deps, Tree.depths]; omega
end
theorem self_eq (t : Tree) : D.eq t.d t.d = true := eq_refl_aux _ t.d t.d (Nat.le_refl _) (self_ok t).1 rfl
theorem likes_self : ∀ ls : List (Tree × Tree), (∀ p ∈ ls, p.1.depth ≤ 10 ∧ p.2.depth ≤ 10) → D.eqOks (ls.map lkD) (ls.map lkD) = true ∧ D.deps (ls.map lkD) ≤ 21 ∧ D.eqs (ls.map lkD) (ls.map lkD) = true
  | [], _ => ⟨rfl, by simp [D.deps], rfl⟩
  | p :: ls, h => by
    obtain ⟨h1, h2, h3⟩ := likes_self ls fun q hq => h q (List.mem_cons_of_mem _ hq)
    obtain ⟨d1, d2⟩ := h p List.mem_cons_self
    obtain ⟨a1, a2⟩ := self_ok p.1
    obtain ⟨b1, b2⟩ := self_ok p.2
    have e1 : D.eqOk (lkD p) (lkD p) = true := by
      show (D.eqOk p.1.d p.1.d && (D.eqOk p.2.d p.2.d && true)) = true
      rw [a1, b1]; rfl
    have e2 : D.eq (lkD p) (lkD p) = true := by
      show (D.eq p.1.d p.1.d && (D.eq p.2.d p.2.d && true)) = true
      rw [self_eq, self_eq]; rfl
    have e3 : D.dep (lkD p) ≤ 21 := by
      show max (D.dep p.1.d) (max (D.dep p.2.d) 0) + 1 ≤ 21
      omega
    rw [List.map_cons, D.eqOks, D.eqs, D.deps, e1, e2, h1, h3]
    exact ⟨rfl, by omega, rfl⟩
theorem same_stp {M : DH} {n : Nat} (st : Stp) : SameD M (n + 2) st.d st.d := by
  cases st with
  | part e k => exact .inr (.inr (.inl ⟨_, _, rfl, rfl, rfl, fun j d e' h1 h2 => by
      rw [h1] at h2; cases h2
      match j, h1 with
      | 0, h1 => cases h1; exact .inl ⟨rfl, rfl⟩
      | 1, h1 => cases h1; exact .inl ⟨rfl, rfl⟩
      | 2, h1 => cases h1; exact .inl ⟨rfl, rfl⟩⟩))
  | turned e => exact .inr (.inr (.inl ⟨_, _, rfl, rfl, rfl, fun j d e' h1 h2 => by
      rw [h1] at h2; cases h2
      match j, h1 with
      | 0, h1 => cases h1; exact .inl ⟨rfl, rfl⟩
      | 1, h1 => cases h1; exact .inl ⟨rfl, rfl⟩⟩))
  | linked e k => exact .inr (.inr (.inl ⟨_, _, rfl, rfl, rfl, fun j d e' h1 h2 => by
      rw [h1] at h2; cases h2
      match j, h1 with
      | 0, h1 => cases h1; exact .inl ⟨rfl, rfl⟩
      | 1, h1 => cases h1; exact .inl ⟨rfl, rfl⟩
      | 2, h1 => cases h1; exact .inl ⟨rfl, rfl⟩⟩))
  | joined e => exact .inr (.inr (.inl ⟨_, _, rfl, rfl, rfl, fun j d e' h1 h2 => by
      rw [h1] at h2; cases h2
      match j, h1 with
      | 0, h1 => cases h1; exact .inl ⟨rfl, rfl⟩
      | 1, h1 => cases h1; exact .inl ⟨rfl, rfl⟩
      | 2, h1 => cases h1; exact .inl ⟨rfl, rfl⟩⟩))
theorem same_end {M N : DH} {n : Nat} {e : End} {d : D} (h : EndAt N e d) : SameD M (n + 2) d d := by
  cases e with
  | unlike k =>
    have h' : d = .tup [.str (Str.ofString "unlike"), .int k] := h
    subst h'
    exact .inr (.inr (.inl ⟨_, _, rfl, rfl, rfl, fun j d e' h1 h2 => by
      rw [h1] at h2; cases h2
      match j, h1 with
      | 0, h1 => cases h1; exact .inl ⟨rfl, rfl⟩
      | 1, h1 => cases h1; exact .inl ⟨rfl, rfl⟩⟩))
  | alike =>
    have h' : d = .tup [.str (Str.ofString "alike"), .int 0] := h
    subst h'
    exact .inr (.inr (.inl ⟨_, _, rfl, rfl, rfl, fun j d e' h1 h2 => by
      rw [h1] at h2; cases h2
      match j, h1 with
      | 0, h1 => cases h1; exact .inl ⟨rfl, rfl⟩
      | 1, h1 => cases h1; exact .inl ⟨rfl, rfl⟩⟩))
  | within ns =>
    obtain ⟨r, h', _⟩ := h
    subst h'
    exact .inr (.inr (.inl ⟨_, _, rfl, rfl, rfl, fun j d e' h1 h2 => by
      rw [h1] at h2; cases h2
      match j, h1 with
      | 0, h1 => cases h1; exact .inl ⟨rfl, rfl⟩
      | 1, h1 => cases h1; exact .inr (.inl ⟨r, rfl, rfl⟩)⟩))
theorem cut_at {xs : List Int} (h : xs.length = 9) : (DL.cutD xs (some 3) (some 8)).length = 5 := by
  unfold DL.cutD
  rw [show (3 : Int) = ((3 : Nat) : Int) from rfl, show (8 : Int) = ((8 : Nat) : Int) from rfl, HT.sIx_nat, HT.sIx_nat, h, List.length_take, List.length_drop, h]
  rfl
theorem cut_mem {α : Type} {xs : List α} {lo hi : Option Int} {x : α} (h : x ∈ DL.cutD xs lo hi) : x ∈ xs := by
  unfold DL.cutD at h
  exact List.mem_of_mem_drop (List.mem_of_mem_take h)
theorem ok_law (T : Txt K mg) {qual : Str} {f : Addr} {fd : FuncData} (F : Fun K "law" qual s_law f fd) : FnOk P w K mg base CX0 kLaw f fd ["script"] (lowSp K spLaw) := by
  have m_isinstance := T.m_isinstance
  have m_list := T.m_list
  have F__law_pair := ok_pair (P := P) (w := w) (base := base) T
  have F__law_cell_at := ok_cell (P := P) (w := w) (base := base) T
  have F__law_stream := ok_stream (P := P) (w := w) (base := base) T
  have F__law_step := ok_step (P := P) (w := w) (base := base) T
  have F__law_end := ok_endL (P := P) (w := w) (base := base) T 10
  have F_walked := (ok_walkG (P := P) (w := w) (base := base) T 10).nox
  have F__law_refused := ok_refG (P := P) (w := w) (base := base) T 10
  have F__law_refused_by_base := ok_refB (P := P) (w := w) (base := base) T 10
  have F__law_bad := ok_bad (P := P) (w := w) (base := base) T 10
  refine def_fn F sc_law (fun ds M Q h => ?_) fun cdv A outer s H E hr => ⟨_, (ss_cons (s_asg (d_call F__law_pair (hr.mono (by omega)) (a_cons (d_var 0) a_nil)) (g_tup rfl (gs_cons (g_name (i := 1) sc_law.nd) (gs_cons (g_name (i := 2) sc_law.nd) gs_nil)) len_2))
 (ss_cons (s_set (i := 3) sc_law.nd (d_lst (a_cons (d_tup (a_cons (d_var 1) (a_cons (d_var 2) a_nil))) a_nil)))
 (ss_cons (s_set (i := 4) sc_law.nd (d_lst a_nil))
 (ss_cons (s_for PassesOwn.never rfl (d_sl sd_sl (d_var 0) (o_some d_int) (o_some d_int)) (g_name (i := 5) sc_law.nd) (ss_cons (s_asg (d_call F__law_step (hr.mono (by omega)) (a_cons (d_var 3) (a_cons (d_call F__law_stream (hr.mono (by omega)) (a_cons (d_var 5) (a_cons d_int a_nil))) a_nil))) (g_tup rfl (gs_cons (g_name (i := 6) sc_law.nd) (gs_cons (g_name (i := 7) sc_law.nd) gs_nil)) len_2))
 (ss_cons (s_expr (d_bm PySem.F.plainAttrs_list PySem.F.slot_list_append PySem.F.type_list_append md_append (d_var 4) (a_cons (d_var 6) a_nil)))
 (ss_one (s_expr (d_bm PySem.F.plainAttrs_list PySem.F.slot_list_append PySem.F.type_list_append md_append (d_var 3) (a_cons (d_var 7) a_nil)))))))
 (ss_cons (s_set (i := 8) sc_law.nd (d_call F__law_stream (hr.mono (by omega)) (a_cons (d_op od_add (d_call F__law_cell_at (hr.mono (by omega)) (a_cons (d_var 0) (a_cons d_int a_nil))) d_int) (a_cons d_int a_nil))))
 (ss_cons (s_asg (d_call F__law_end (hr.mono (by omega)) (a_cons (d_var 3) (a_cons (d_sl sd_sl (d_var 8) o_none (o_some d_int)) a_nil))) (g_tup rfl (gs_cons (g_name (i := 9) sc_law.nd) (gs_cons (g_name (i := 10) sc_law.nd) gs_nil)) len_2))
 (ss_cons (s_set (i := 11) sc_law.nd (d_tup (a_cons (d_callTy cd_list rfl m_list bt_list (a_cons (d_var 4) a_nil)) (a_cons (d_var 9) a_nil))))
 (ss_cons (s_if (dt_val (d_var 10)) (ss_cons (s_set (i := 12) sc_law.nd (d_call F_walked (hr.mono (by omega)) (a_cons (d_var 1) (a_cons (d_var 2) (a_cons (d_var 11) a_nil)))))
 (ss_one (s_if (PW.pt (dw_or (dt_not (dt_val (d_callB cd_isi rfl m_isinstance bt_isinstance (a_cons (d_var 12) (a_cons (d_ty rfl m_list bt_list) a_nil))))) (dw_or1 (dt_cmp (od_neS hr) (d_var 12) (d_var 3) (nomark _))))) (ss_one (s_ret d_bl)) ss_nil))) (ss_one (s_if (dt_not (dt_val (d_call F__law_refused (hr.mono (by omega)) (a_cons (d_var 1) (a_cons (d_var 2) (a_cons (d_var 11) a_nil)))))) (ss_one (s_ret d_bl)) ss_nil)))
 (ss_cons (s_set (i := 13) sc_law.nd (d_call F__law_bad (hr.mono (by omega)) (a_cons (d_var 4) (a_cons (d_var 3) (a_cons (d_var 9) (a_cons (d_sl sd_sl (d_var 8) (o_some d_int) (o_some d_int)) a_nil))))))
 (ss_cons (s_if (PW.pt (dw_or (dt_cmp (od_neS hr) (d_var 11) (d_tup (a_cons (d_var 4) (a_cons (d_var 9) a_nil))) (nomark _)) (dw_or1 (dt_not (dt_val (d_call F__law_refused (hr.mono (by omega)) (a_cons (d_var 1) (a_cons (d_var 2) (a_cons (d_var 13) a_nil))))))))) (ss_one (s_ret d_bl)) ss_nil)
 (ss_one (s_ret (d_call F__law_refused_by_base (hr.mono (by omega)) (a_cons (d_var 1) (a_cons (d_var 2) (a_cons (d_var 13) a_nil)))))))))))))))), fun ds M Q h => ?_⟩
  · obtain ⟨ns, rfl, _⟩ := h; rfl
  · obtain ⟨ns, rfl, hl, q⟩ := h
    refine ⟨ns, rfl, fun one other h1 h2 => ?_⟩
    show ∀ p, _ → _
    intro lp hlp
    show ∀ p, _ → _
    intro lt hlt
    show ∀ p, _ → _
    intro lc hlc
    rw [show DL.cutD (ns.map D.int) (some 2) (some 42) = (DL.cutD ns (some 2) (some 42)).map D.int from cut_map D.int ns _ _]
    have hcl : (DL.cutD ns (some 2) (some 42)).length ≤ 40 := cut_le ns 2 42
    generalize DL.cutD ns (some 2) (some 42) = cs at *
    have hok0 : OkLs 10 [(one, other)] := fun p hp => by cases List.mem_singleton.mp hp; exact ⟨⟨h1.1, h1.2.1⟩, h2.1, h2.2.1⟩
    have hw0 : W9Ls [(one, other)] := fun p hp => by cases List.mem_singleton.mp hp; exact ⟨h1.2.2, h2.2.2⟩
    have npt : lp ≠ lt := (upd_none hlt).1.symm
    have hlt0 : M lt = none := (upd_none hlt).2
    have hSa := (Sub.new (o := .lst [.tup [one.d, other.d]]) hlp).trans (Sub.new (o := .lst []) hlt)
    have hlc0 : M lc = none := none_sub hSa hlc
    have nlp : lc ≠ lp := by intro z; subst z; rw [Sub.new hlt _ _ updM_same] at hlc; cases hlc
    have nlt : lc ≠ lt := (upd_none hlc).1
    have hS0 := hSa.trans (Sub.new (o := .lst (cs.map D.int)) hlc)
    refine ⟨_, updM_same, fun i τ M' => ∃ (sts : List Stp) (ls : List (Tree × Tree)) (v5 v6 v7 : Option D), walkAll [(one, other)] sts = some ls ∧ sts.length = i ∧ i ≤ 40 ∧ OkLs 10 ls ∧ W9Ls ls ∧ M' lc = some (.lst (cs.map D.int)) ∧ M' lp = some (.lst (ls.map lkD)) ∧ M' lt = some (.lst (sts.map Stp.d)) ∧ Sub M M' ∧
      τ = [some (.rol (ns.map .int)), some one.d, some other.d, some (.ref lp), some (.ref lt), v5, v6, v7, none, none, none, none, none, none], ⟨[], [(one, other)], none, none, none, rfl, rfl, by decide, hok0, hw0, updM_same, Sub.new hlc _ _ (Sub.new hlt _ _ updM_same), Sub.new hlc _ _ updM_same, hS0, rfl⟩, fun i τ M' _ hw => ?_, ?_, ?_⟩
    · obtain ⟨_, _, _, _, _, _, _, _, _, _, z, _⟩ := hw; exact z
    · rintro i d τ M' ed ⟨sts, ls, v5, v6, v7, hw, hi, hi40, hok, hw9, hc', hp', ht', hS, rfl⟩
      rw [List.getElem?_map] at ed
      cases ec : cs[i]? with
      | none => rw [ec] at ed; cases ed
      | some c =>
        rw [ec] at ed
        cases ed
        have hic := (List.getElem?_eq_some_iff.mp ec).1
        have wl : ls.length = 1 + sts.length := (walk_prefix sts _ ls hw).1
        refine ⟨c, 3, rfl, by decide, fun lx xs hlx hxl hx0 => ?_⟩
        refine ⟨lp, lx, ls, xs, rfl, Sub.new hlx _ _ hp', updM_same, hxl, hx0, by omega, by omega, fun p hp => by obtain ⟨⟨a1, a2⟩, a3, a4⟩ := hok p hp; exact ⟨⟨by omega, a2⟩, by omega, a4⟩, fun st p est => ?_⟩
        have hS1 := hS.trans (Sub.new (o := .lst (xs.map .int)) hlx)
        have hc1 := Sub.new (o := .lst (xs.map .int)) hlx _ _ hc'
        have hp1 := Sub.new (o := .lst (xs.map .int)) hlx _ _ hp'
        have ht1 := Sub.new (o := .lst (xs.map .int)) hlx _ _ ht'
        generalize updM M' lx (.lst (xs.map .int)) = M1 at *
        refine ⟨⟨rfl, _, ht1⟩, _, ht1, by rw [List.length_map]; exact small1000 (by omega), ?_⟩
        have hp2 : updM M1 lt (.lst (sts.map Stp.d ++ [st.d])) lp = some (.lst (ls.map lkD)) := by rw [updM_ne npt]; exact hp1
        refine ⟨⟨rfl, _, hp2⟩, _, hp2, by rw [List.length_map]; exact small1000 (by omega), ?_⟩
        refine ⟨sts ++ [st], ls ++ [p], _, _, _, ?_, by rw [List.length_append, hi]; rfl, by omega, step_ok hok est, step_w9 hw9 est, by rw [updM_ne nlp, updM_ne nlt]; exact hc1, by rw [updM_same, List.map_append]; rfl, by rw [updM_ne npt.symm, updM_same, List.map_append]; rfl, sub_upd (sub_upd hS1 hlt0) hlp, rfl⟩
        rw [walk_split, hw]
        show (stepOf ls st).bind _ = _
        rw [est]; rfl
    · rintro τ M1 ⟨sts, ls, v5, v6, v7, hw, hi, hi40, hok, hw9, hc', hp1, ht1, hS1, rfl⟩
      have wl : ls.length = 1 + sts.length := (walk_prefix sts _ ls hw).1
      clear hc'
      refine ⟨ns, 1, rfl, by decide, fun c1 => ?_⟩
      refine ⟨c1 + 3, 9, rfl, by decide, fun lx xs hlx hxl hx0 => ?_⟩
      have hS2 := hS1.trans (Sub.new (o := .lst (xs.map .int)) hlx)
      have hp2 := Sub.new (o := .lst (xs.map .int)) hlx _ _ hp1
      have ht2 := Sub.new (o := .lst (xs.map .int)) hlx _ _ ht1
      have hx2 : updM M1 lx (.lst (xs.map .int)) lx = some (.lst (xs.map .int)) := updM_same
      generalize updM M1 lx (.lst (xs.map .int)) = M2 at *
      refine ⟨_, hx2, fun p3 hp3 => ?_⟩
      rw [show DL.cutD (xs.map D.int) none (some 3) = (xs.take 3).map D.int from by rw [List.map_take]; exact cut_take _ 3]
      refine ⟨lp, p3, ls, xs.take 3, rfl, Sub.new hp3 _ _ hp2, updM_same, by rw [List.length_take, hxl]; rfl, fun x hx => hx0 x (List.mem_of_mem_take hx), by omega, by omega, hok, fun e d b M3 hs3 he hel hg hb => ?_⟩
      have hS3 := (hS2.trans (Sub.new hp3)).trans hs3
      have hp4 := hs3 _ _ (Sub.new hp3 _ _ hp2)
      have ht4 := hs3 _ _ (Sub.new hp3 _ _ ht2)
      have hx4 := hs3 _ _ (Sub.new hp3 _ _ hx2)
      refine ⟨_, ht4, fun l7 hl7 => ?_⟩
      have hS5 := hS3.trans (Sub.new (o := .lst (sts.map Stp.d)) hl7)
      have hp5 := Sub.new (o := .lst (sts.map Stp.d)) hl7 _ _ hp4
      have ht5 := Sub.new (o := .lst (sts.map Stp.d)) hl7 _ _ ht4
      have hx5 := Sub.new (o := .lst (sts.map Stp.d)) hl7 _ _ hx4
      have he5 := he.sub (Sub.new (o := .lst (sts.map Stp.d)) hl7)
      have h75 : updM M3 l7 (.lst (sts.map Stp.d)) l7 = some (.lst (sts.map Stp.d)) := updM_same
      generalize updM M3 l7 (.lst (sts.map Stp.d)) = M5 at *
      obtain ⟨k1, k2, k3⟩ := likes_self ls fun p hp => ⟨(hok p hp).1.1, (hok p hp).2.1⟩
      simp only [DL.hName, DL.eCons, DL.eVar, DL.eNil, DL.onVal, List.set_cons_succ, List.set_cons_zero, List.getElem?_cons_succ, List.getElem?_cons_zero]
      rw [if_pos (show [D.ref l7, d].length ≤ 1000 from by show 2 ≤ 1000; decide)]
      refine seq_any (fun τ' M6 => Sub M5 M6 ∧ ∃ v5 v6 v7 v10 v12, τ' = [some (.rol (ns.map .int)), some one.d, some other.d, some (.ref lp), some (.ref lt), v5, v6, v7, some (.ref lx), some d, v10, some (.tup [.ref l7, d]), v12, none]) ?_ (fun R hR => ?_)
      · rintro τ' M6 ⟨hs6, v5, v6, v7, v10, v12, rfl⟩
        refine ⟨_, hs6 _ _ hx5, fun p8 hp8 => ?_⟩
        rw [show DL.cutD (xs.map D.int) (some 3) (some 8) = (DL.cutD xs (some 3) (some 8)).map D.int from cut_map D.int xs _ _]
        have hs7 := hs6.trans (Sub.new (o := .lst ((DL.cutD xs (some 3) (some 8)).map D.int)) hp8)
        refine ⟨lt, lp, p8, d, one, other, sts, ls, e, DL.cutD xs (some 3) (some 8), rfl, hs7 _ _ ht5, hs7 _ _ hp5, he5.sub hs7, hel, updM_same, cut_at hxl, fun x hx => hx0 x (cut_mem hx), hw, by omega, hok, by decide, hw9, fun st' sts' e' d' M9 hs9 hst9 he9 hl9 hel9 hbad => ?_⟩
        have hs10 := hs7.trans hs9
        refine ⟨rfl, fun j a b ea eb => ?_, ?_⟩
        · match j, ea, eb with
          | 0, ea, eb =>
            cases ea
            cases eb
            exact .inr (.inr (.inr ⟨l7, lt, _, _, rfl, rfl, hs10 _ _ h75, hs10 _ _ ht5, rfl, fun j x y ex ey => by
              rw [ex] at ey
              cases ey
              rw [List.getElem?_map] at ex
              cases es : sts[j]? with
              | none => rw [es] at ex; cases ex
              | some s' => rw [es] at ex; cases ex; exact same_stp s'⟩))
          | 1, ea, eb =>
            cases ea
            cases eb
            exact same_end he5
        · refine ⟨one, other, st', sts', e', d', rfl, hst9, he9, by omega, by omega, by decide, hok0, hbad, ?_⟩
          refine ⟨one, other, st', sts', e', d', rfl, hst9, he9, by omega, by omega, by decide, hok0, hbad, ?_⟩
          exact ⟨M, hS5.trans hs10, q⟩
      · cases b with
        | true =>
          refine ⟨one, other, l7, sts, e, d, rfl, h75, he5, by omega, by omega, by decide, hok0, fun ls' hw' _ lw hlw => ?_, fun hbad M6 hs6 => bad_good hbad hw (hg rfl)⟩
          rw [hw] at hw'
          cases hw'
          refine ⟨⟨_, updM_same⟩, _, _, updM_same, Sub.new hlw _ _ hp5, k1, by omega, ?_⟩
          rw [k3]
          exact hR _ _ ⟨Sub.new hlw, _, _, _, _, _, rfl⟩
        | false =>
          refine ⟨one, other, l7, sts, e, d, rfl, h75, he5, by omega, by omega, by decide, hok0, .inr ⟨ls, hw, hb rfl⟩, ?_⟩
          exact hR _ _ ⟨Sub.refl _, _, _, _, _, _, rfl⟩

-- TAIL
end
theorem all_mk {l : PySem.W.OpenLaw} {w : World} {K : PySem.W.Frag} {h : Heap} {mg : Str → Option Value} {fa : Addr} (X : K.In h) (G : h.Ns mainGlobals mg) (hfa : mg "law" = some (.ref fa))
    {od0 an0 : Option Addr} {sl0 : Array (Option Value)} {oc0 kV0 dc0 pm0 cd0 ct0 : Value} {f0 : Addr} {od1 an1 : Option Addr} {sl1 : Array (Option Value)} {oc1 kV1 dc1 pm1 cd1 ct1 : Value} {f1 : Addr} {od2 an2 : Option Addr} {sl2 : Array (Option Value)} {oc2 kV2 dc2 pm2 cd2 ct2 : Value} {f2 : Addr} {od3 an3 : Option Addr} {sl3 : Array (Option Value)} {oc3 kV3 dc3 pm3 cd3 ct3 : Value} {f3 : Addr} {od4 an4 : Option Addr} {sl4 : Array (Option Value)} {oc4 kV4 dc4 pm4 cd4 ct4 : Value} {f4 : Addr} {od5 an5 : Option Addr} {sl5 : Array (Option Value)} {oc5 kV5 dc5 pm5 cd5 ct5 : Value} {f5 : Addr} {od6 an6 : Option Addr} {sl6 : Array (Option Value)} {oc6 kV6 dc6 pm6 cd6 ct6 : Value} {f6 : Addr} {od7 an7 : Option Addr} {sl7 : Array (Option Value)} {oc7 kV7 dc7 pm7 cd7 ct7 : Value} {f7 : Addr} {od8 an8 : Option Addr} {sl8 : Array (Option Value)} {oc8 kV8 dc8 pm8 cd8 ct8 : Value} {f8 : Addr} {od9 an9 : Option Addr} {sl9 : Array (Option Value)} {oc9 kV9 dc9 pm9 cd9 ct9 : Value} {f9 : Addr} {od10 an10 : Option Addr} {sl10 : Array (Option Value)} {oc10 kV10 dc10 pm10 cd10 ct10 : Value} {f10 : Addr} {od11 an11 : Option Addr} {sl11 : Array (Option Value)} {oc11 kV11 dc11 pm11 cd11 ct11 : Value} {f11 : Addr} {od12 an12 : Option Addr} {sl12 : Array (Option Value)} {oc12 kV12 dc12 pm12 cd12 ct12 : Value} {f12 : Addr} {od13 an13 : Option Addr} {sl13 : Array (Option Value)} {oc13 kV13 dc13 pm13 cd13 ct13 : Value} {f13 : Addr} {od14 an14 : Option Addr} {sl14 : Array (Option Value)} {oc14 kV14 dc14 pm14 cd14 ct14 : Value} {f14 : Addr} {od15 an15 : Option Addr} {sl15 : Array (Option Value)} {oc15 kV15 dc15 pm15 cd15 ct15 : Value} {f15 : Addr} {od16 an16 : Option Addr} {sl16 : Array (Option Value)} {oc16 kV16 dc16 pm16 cd16 ct16 : Value} {f16 : Addr} {od17 an17 : Option Addr} {sl17 : Array (Option Value)} {oc17 kV17 dc17 pm17 cd17 ct17 : Value} {f17 : Addr} {od18 an18 : Option Addr} {sl18 : Array (Option Value)} {oc18 kV18 dc18 pm18 cd18 ct18 : Value} {f18 : Addr} {od19 an19 : Option Addr} {sl19 : Array (Option Value)} {oc19 kV19 dc19 pm19 cd19 ct19 : Value} {f19 : Addr} {od20 an20 : Option Addr} {sl20 : Array (Option Value)} {oc20 kV20 dc20 pm20 cd20 ct20 : Value} {f20 : Addr} {od21 an21 : Option Addr} {sl21 : Array (Option Value)} {oc21 kV21 dc21 pm21 cd21 ct21 : Value} {f21 : Addr} {od22 an22 : Option Addr} {sl22 : Array (Option Value)} {oc22 kV22 dc22 pm22 cd22 ct22 : Value} {f22 : Addr} {od23 an23 : Option Addr} {sl23 : Array (Option Value)} {oc23 kV23 dc23 pm23 cd23 ct23 : Value} {f23 : Addr} {od24 an24 : Option Addr} {sl24 : Array (Option Value)} {oc24 kV24 dc24 pm24 cd24 ct24 : Value} {f24 : Addr} {od25 an25 : Option Addr} {sl25 : Array (Option Value)} {oc25 kV25 dc25 pm25 cd25 ct25 : Value} {f25 : Addr} {od26 an26 : Option Addr} {sl26 : Array (Option Value)} {oc26 kV26 dc26 pm26 cd26 ct26 : Value} {f26 : Addr} {od27 an27 : Option Addr} {sl27 : Array (Option Value)} {oc27 kV27 dc27 pm27 cd27 ct27 : Value} {f27 : Addr} {od28 an28 : Option Addr} {sl28 : Array (Option Value)} {oc28 kV28 dc28 pm28 cd28 ct28 : Value} {f28 : Addr} {xa0 xa1 xa2 xa3 : Addr}
    (a0 : PySem.W.nsIn K mainGlobals "parts_of" = some (some (.ref f0))) (l0 : K.lookup f0 = some ⟨oc0, od0, .func (PySem.W.fnOf "parts_of" "parts_of" (defArgs s_parts_of) (defBody s_parts_of) (defScope s_parts_of) .none kV0 dc0 pm0 an0 cd0 ct0), sl0⟩) (c0 : PySem.W.codeIn K cd0 "parts_of" = true) (k0 : PySem.W.keepIn K (.ref f0) = true)
    (a1 : PySem.W.nsIn K mainGlobals "gather_blanks" = some (some (.ref f1))) (l1 : K.lookup f1 = some ⟨oc1, od1, .func (PySem.W.fnOf "gather_blanks" "gather_blanks" (defArgs s_gather_blanks) (defBody s_gather_blanks) (defScope s_gather_blanks) .none kV1 dc1 pm1 an1 cd1 ct1), sl1⟩) (c1 : PySem.W.codeIn K cd1 "gather_blanks" = true) (k1 : PySem.W.keepIn K (.ref f1) = true)
    (a2 : PySem.W.nsIn K mainGlobals "blanks_of" = some (some (.ref f2))) (l2 : K.lookup f2 = some ⟨oc2, od2, .func (PySem.W.fnOf "blanks_of" "blanks_of" (defArgs s_blanks_of) (defBody s_blanks_of) (defScope s_blanks_of) .none kV2 dc2 pm2 an2 cd2 ct2), sl2⟩) (c2 : PySem.W.codeIn K cd2 "blanks_of" = true) (k2 : PySem.W.keepIn K (.ref f2) = true)
    (a3 : PySem.W.nsIn K mainGlobals "same_head" = some (some (.ref f3))) (l3 : K.lookup f3 = some ⟨oc3, od3, .func (PySem.W.fnOf "same_head" "same_head" (defArgs s_same_head) (defBody s_same_head) (defScope s_same_head) .none kV3 dc3 pm3 an3 cd3 ct3), sl3⟩) (c3 : PySem.W.codeIn K cd3 "same_head" = true) (k3 : PySem.W.keepIn K (.ref f3) = true)
    (a4 : PySem.W.nsIn K mainGlobals "unlike_blocks" = some (some (.ref f4))) (l4 : K.lookup f4 = some ⟨oc4, od4, .func (PySem.W.fnOf "unlike_blocks" "unlike_blocks" (defArgs s_unlike_blocks) (defBody s_unlike_blocks) (defScope s_unlike_blocks) .none kV4 dc4 pm4 an4 cd4 ct4), sl4⟩) (c4 : PySem.W.codeIn K cd4 "unlike_blocks" = true) (k4 : PySem.W.keepIn K (.ref f4) = true)
    (a5 : PySem.W.nsIn K mainGlobals "likeness_at" = some (some (.ref f5))) (l5 : K.lookup f5 = some ⟨oc5, od5, .func (PySem.W.fnOf "likeness_at" "likeness_at" (defArgs s_likeness_at) (defBody s_likeness_at) (defScope s_likeness_at) .none kV5 dc5 pm5 an5 cd5 ct5), sl5⟩) (c5 : PySem.W.codeIn K cd5 "likeness_at" = true) (k5 : PySem.W.keepIn K (.ref f5) = true)
    (a6 : PySem.W.nsIn K mainGlobals "parts_likeness" = some (some (.ref f6))) (l6 : K.lookup f6 = some ⟨oc6, od6, .func (PySem.W.fnOf "parts_likeness" "parts_likeness" (defArgs s_parts_likeness) (defBody s_parts_likeness) (defScope s_parts_likeness) .none kV6 dc6 pm6 an6 cd6 ct6), sl6⟩) (c6 : PySem.W.codeIn K cd6 "parts_likeness" = true) (k6 : PySem.W.keepIn K (.ref f6) = true)
    (a7 : PySem.W.nsIn K mainGlobals "linked_likeness" = some (some (.ref f7))) (l7 : K.lookup f7 = some ⟨oc7, od7, .func (PySem.W.fnOf "linked_likeness" "linked_likeness" (defArgs s_linked_likeness) (defBody s_linked_likeness) (defScope s_linked_likeness) .none kV7 dc7 pm7 an7 cd7 ct7), sl7⟩) (c7 : PySem.W.codeIn K cd7 "linked_likeness" = true) (k7 : PySem.W.keepIn K (.ref f7) = true)
    (a8 : PySem.W.nsIn K mainGlobals "likeness_by" = some (some (.ref f8))) (l8 : K.lookup f8 = some ⟨oc8, od8, .func (PySem.W.fnOf "likeness_by" "likeness_by" (defArgs s_likeness_by) (defBody s_likeness_by) (defScope s_likeness_by) .none kV8 dc8 pm8 an8 cd8 ct8), sl8⟩) (c8 : PySem.W.codeIn K cd8 "likeness_by" = true) (k8 : PySem.W.keepIn K (.ref f8) = true)
    (a9 : PySem.W.nsIn K mainGlobals "refuse_loose_row" = some (some (.ref f9))) (l9 : K.lookup f9 = some ⟨oc9, od9, .func (PySem.W.fnOf "refuse_loose_row" "refuse_loose_row" (defArgs s_refuse_loose_row) (defBody s_refuse_loose_row) (defScope s_refuse_loose_row) .none kV9 dc9 pm9 an9 cd9 ct9), sl9⟩) (c9 : PySem.W.codeIn K cd9 "refuse_loose_row" = true) (k9 : PySem.W.keepIn K (.ref f9) = true)
    (a10 : PySem.W.nsIn K mainGlobals "refuse_loose_end" = some (some (.ref f10))) (l10 : K.lookup f10 = some ⟨oc10, od10, .func (PySem.W.fnOf "refuse_loose_end" "refuse_loose_end" (defArgs s_refuse_loose_end) (defBody s_refuse_loose_end) (defScope s_refuse_loose_end) .none kV10 dc10 pm10 an10 cd10 ct10), sl10⟩) (c10 : PySem.W.codeIn K cd10 "refuse_loose_end" = true) (k10 : PySem.W.keepIn K (.ref f10) = true)
    (a11 : PySem.W.nsIn K mainGlobals "walked" = some (some (.ref f11))) (l11 : K.lookup f11 = some ⟨oc11, od11, .func (PySem.W.fnOf "walked" "walked" (defArgs s_walked) (defBody s_walked) (defScope s_walked) .none kV11 dc11 pm11 an11 cd11 ct11), sl11⟩) (c11 : PySem.W.codeIn K cd11 "walked" = true) (k11 : PySem.W.keepIn K (.ref f11) = true)
    (a12 : PySem.W.nsIn K mainGlobals "_law_cell_at" = some (some (.ref f12))) (l12 : K.lookup f12 = some ⟨oc12, od12, .func (PySem.W.fnOf "_law_cell_at" "_law_cell_at" (defArgs s__law_cell_at) (defBody s__law_cell_at) (defScope s__law_cell_at) .none kV12 dc12 pm12 an12 cd12 ct12), sl12⟩) (c12 : PySem.W.codeIn K cd12 "_law_cell_at" = true) (k12 : PySem.W.keepIn K (.ref f12) = true)
    (a13 : PySem.W.nsIn K mainGlobals "_law_stream" = some (some (.ref f13))) (l13 : K.lookup f13 = some ⟨oc13, od13, .func (PySem.W.fnOf "_law_stream" "_law_stream" (defArgs s__law_stream) (defBody s__law_stream) (defScope s__law_stream) .none kV13 dc13 pm13 an13 cd13 ct13), sl13⟩) (c13 : PySem.W.codeIn K cd13 "_law_stream" = true) (k13 : PySem.W.keepIn K (.ref f13) = true)
    (a14 : PySem.W.nsIn K mainGlobals "_law_names" = some (some (.ref f14))) (l14 : K.lookup f14 = some ⟨oc14, od14, .func (PySem.W.fnOf "_law_names" "_law_names" (defArgs s__law_names) (defBody s__law_names) (defScope s__law_names) .none kV14 dc14 pm14 an14 cd14 ct14), sl14⟩) (c14 : PySem.W.codeIn K cd14 "_law_names" = true) (k14 : PySem.W.keepIn K (.ref f14) = true)
    (a15 : PySem.W.nsIn K mainGlobals "_law_number" = some (some (.ref f15))) (l15 : K.lookup f15 = some ⟨oc15, od15, .func (PySem.W.fnOf "_law_number" "_law_number" (defArgs s__law_number) (defBody s__law_number) (defScope s__law_number) .none kV15 dc15 pm15 an15 cd15 ct15), sl15⟩) (c15 : PySem.W.codeIn K cd15 "_law_number" = true) (k15 : PySem.W.keepIn K (.ref f15) = true)
    (a16 : PySem.W.nsIn K mainGlobals "_law_grow" = some (some (.ref f16))) (l16 : K.lookup f16 = some ⟨oc16, od16, .func (PySem.W.fnOf "_law_grow" "_law_grow" (defArgs s__law_grow) (defBody s__law_grow) (defScope s__law_grow) .none kV16 dc16 pm16 an16 cd16 ct16), sl16⟩) (c16 : PySem.W.codeIn K cd16 "_law_grow" = true) (k16 : PySem.W.keepIn K (.ref f16) = true)
    (a17 : PySem.W.nsIn K mainGlobals "_law_changed" = some (some (.ref f17))) (l17 : K.lookup f17 = some ⟨oc17, od17, .func (PySem.W.fnOf "_law_changed" "_law_changed" (defArgs s__law_changed) (defBody s__law_changed) (defScope s__law_changed) .none kV17 dc17 pm17 an17 cd17 ct17), sl17⟩) (c17 : PySem.W.codeIn K cd17 "_law_changed" = true) (k17 : PySem.W.keepIn K (.ref f17) = true)
    (a18 : PySem.W.nsIn K mainGlobals "_law_blanks" = some (some (.ref f18))) (l18 : K.lookup f18 = some ⟨oc18, od18, .func (PySem.W.fnOf "_law_blanks" "_law_blanks" (defArgs s__law_blanks) (defBody s__law_blanks) (defScope s__law_blanks) .none kV18 dc18 pm18 an18 cd18 ct18), sl18⟩) (c18 : PySem.W.codeIn K cd18 "_law_blanks" = true) (k18 : PySem.W.keepIn K (.ref f18) = true)
    (a19 : PySem.W.nsIn K mainGlobals "_law_pair" = some (some (.ref f19))) (l19 : K.lookup f19 = some ⟨oc19, od19, .func (PySem.W.fnOf "_law_pair" "_law_pair" (defArgs s__law_pair) (defBody s__law_pair) (defScope s__law_pair) .none kV19 dc19 pm19 an19 cd19 ct19), sl19⟩) (c19 : PySem.W.codeIn K cd19 "_law_pair" = true) (k19 : PySem.W.keepIn K (.ref f19) = true)
    (a20 : PySem.W.nsIn K mainGlobals "_law_same" = some (some (.ref f20))) (l20 : K.lookup f20 = some ⟨oc20, od20, .func (PySem.W.fnOf "_law_same" "_law_same" (defArgs s__law_same) (defBody s__law_same) (defScope s__law_same) .none kV20 dc20 pm20 an20 cd20 ct20), sl20⟩) (c20 : PySem.W.codeIn K cd20 "_law_same" = true) (k20 : PySem.W.keepIn K (.ref f20) = true)
    (a21 : PySem.W.nsIn K mainGlobals "_law_step" = some (some (.ref f21))) (l21 : K.lookup f21 = some ⟨oc21, od21, .func (PySem.W.fnOf "_law_step" "_law_step" (defArgs s__law_step) (defBody s__law_step) (defScope s__law_step) .none kV21 dc21 pm21 an21 cd21 ct21), sl21⟩) (c21 : PySem.W.codeIn K cd21 "_law_step" = true) (k21 : PySem.W.keepIn K (.ref f21) = true)
    (a22 : PySem.W.nsIn K mainGlobals "_law_end" = some (some (.ref f22))) (l22 : K.lookup f22 = some ⟨oc22, od22, .func (PySem.W.fnOf "_law_end" "_law_end" (defArgs s__law_end) (defBody s__law_end) (defScope s__law_end) .none kV22 dc22 pm22 an22 cd22 ct22), sl22⟩) (c22 : PySem.W.codeIn K cd22 "_law_end" = true) (k22 : PySem.W.keepIn K (.ref f22) = true)
    (a23 : PySem.W.nsIn K mainGlobals "_law_bad_step" = some (some (.ref f23))) (l23 : K.lookup f23 = some ⟨oc23, od23, .func (PySem.W.fnOf "_law_bad_step" "_law_bad_step" (defArgs s__law_bad_step) (defBody s__law_bad_step) (defScope s__law_bad_step) .none kV23 dc23 pm23 an23 cd23 ct23), sl23⟩) (c23 : PySem.W.codeIn K cd23 "_law_bad_step" = true) (k23 : PySem.W.keepIn K (.ref f23) = true)
    (a24 : PySem.W.nsIn K mainGlobals "_law_bad_end" = some (some (.ref f24))) (l24 : K.lookup f24 = some ⟨oc24, od24, .func (PySem.W.fnOf "_law_bad_end" "_law_bad_end" (defArgs s__law_bad_end) (defBody s__law_bad_end) (defScope s__law_bad_end) .none kV24 dc24 pm24 an24 cd24 ct24), sl24⟩) (c24 : PySem.W.codeIn K cd24 "_law_bad_end" = true) (k24 : PySem.W.keepIn K (.ref f24) = true)
    (a25 : PySem.W.nsIn K mainGlobals "_law_bad" = some (some (.ref f25))) (l25 : K.lookup f25 = some ⟨oc25, od25, .func (PySem.W.fnOf "_law_bad" "_law_bad" (defArgs s__law_bad) (defBody s__law_bad) (defScope s__law_bad) .none kV25 dc25 pm25 an25 cd25 ct25), sl25⟩) (c25 : PySem.W.codeIn K cd25 "_law_bad" = true) (k25 : PySem.W.keepIn K (.ref f25) = true)
    (a26 : PySem.W.nsIn K mainGlobals "_law_refused" = some (some (.ref f26))) (l26 : K.lookup f26 = some ⟨oc26, od26, .func (PySem.W.fnOf "_law_refused" "_law_refused" (defArgs s__law_refused) (defBody s__law_refused) (defScope s__law_refused) .none kV26 dc26 pm26 an26 cd26 ct26), sl26⟩) (c26 : PySem.W.codeIn K cd26 "_law_refused" = true) (k26 : PySem.W.keepIn K (.ref f26) = true)
    (a27 : PySem.W.nsIn K mainGlobals "_law_refused_by_base" = some (some (.ref f27))) (l27 : K.lookup f27 = some ⟨oc27, od27, .func (PySem.W.fnOf "_law_refused_by_base" "_law_refused_by_base" (defArgs s__law_refused_by_base) (defBody s__law_refused_by_base) (defScope s__law_refused_by_base) .none kV27 dc27 pm27 an27 cd27 ct27), sl27⟩) (c27 : PySem.W.codeIn K cd27 "_law_refused_by_base" = true) (k27 : PySem.W.keepIn K (.ref f27) = true)
    (a28 : PySem.W.nsIn K mainGlobals "law" = some (some (.ref f28))) (l28 : K.lookup f28 = some ⟨oc28, od28, .func (PySem.W.fnOf "law" "law" (defArgs s_law) (defBody s_law) (defScope s_law) .none kV28 dc28 pm28 an28 cd28 ct28), sl28⟩) (c28 : PySem.W.codeIn K cd28 "law" = true) (k28 : PySem.W.keepIn K (.ref f28) = true)
    (z0 : PySem.W.nsIn K mainGlobals "ValueError" = some none)
    (z1 : PySem.W.nsIn K mainGlobals "int" = some none)
    (z2 : PySem.W.nsIn K mainGlobals "isinstance" = some none)
    (z3 : PySem.W.nsIn K mainGlobals "len" = some none)
    (z4 : PySem.W.nsIn K mainGlobals "list" = some none)
    (z5 : PySem.W.nsIn K mainGlobals "range" = some none)
    (z6 : PySem.W.nsIn K mainGlobals "tuple" = some none)
    (z7 : PySem.W.nsIn K mainGlobals "zip" = some none)
    (q0 : PySem.W.nsIn K mainGlobals "FormError" = some (some (.ref xa0))) (e0 : PySem.W.excIn K xa0 bmVE "ValueError.__new__" = true)
    (q1 : PySem.W.nsIn K mainGlobals "BadText" = some (some (.ref xa1))) (e1 : PySem.W.excIn K xa1 bmVE "ValueError.__new__" = true)
    (q2 : PySem.W.nsIn K mainGlobals "TooLong" = some (some (.ref xa2))) (e2 : PySem.W.excIn K xa2 bmVE "ValueError.__new__" = true)
    (q3 : PySem.W.nsIn K mainGlobals "BadPaper" = some (some (.ref xa3))) (e3 : PySem.W.excIn K xa3 bmVE "ValueError.__new__" = true)
    (kt : kitTab K [xa0, xa1, xa2, xa3] = ([[true, false, false, false], [true, true, false, false], [true, false, true, false], [true, false, false, true]] : List (List Bool)).map fun r => r.map some) (ia : isaTab K [xa0, xa1, xa2, xa3] = ([[true, false, false, false], [true, true, false, false], [true, false, true, false], [true, false, false, true]] : List (List Bool)).map fun r => r.map some)
    (ve : ([xa0, xa1, xa2, xa3] : List Addr).map (fun c => PySem.W.kitOne K (.ref c) (.type "ValueError")) = ([xa0, xa1, xa2, xa3] : List Addr).map fun _ => some true)
    (fc : ([xa0, xa1, xa2, xa3] : List Addr).map (fun c => PySem.W.findIn K (.ref c) "__class__") = ([xa0, xa1, xa2, xa3] : List Addr).map fun _ => some (some (.builtin "object.__class__")))
    (fg : ([xa0, xa1, xa2, xa3] : List Addr).map (fun c => PySem.W.findIn K (.ref c) "__getattribute__") = ([xa0, xa1, xa2, xa3] : List Addr).map fun _ => some (some (.builtin "BaseException.__getattribute__")))
    (fga : ([xa0, xa1, xa2, xa3] : List Addr).map (fun c => PySem.W.findIn K (.ref c) "__getattr__") = ([xa0, xa1, xa2, xa3] : List Addr).map fun _ => some none)
    : ∃ fd : FuncData, (∀ (s : Shared) (v : Value), BindsTo s fd ⟨[v], []⟩ [("script", v)]) ∧ ∀ base : Heap, K.In base → base.Ns mainGlobals mg → FnOk l.prog w K mg base CX0 kLaw fa fd ["script"] (lowSp K spLaw) := by
  have e := hfa.symm.trans (PySem.W.mg_of X G a28)
  cases e
  have F0 := fun_mk (st := s_parts_of) l0 c0 k0
  have b0 := F0.binds (ps := ["tree"]) fun _ _ _ _ _ _ => allN1 fun _ => rfl
  have F1 := fun_mk (st := s_gather_blanks) l1 c1 k1
  have b1 := F1.binds (ps := ["tree", "found"]) fun _ _ _ _ _ _ => allN2 fun _ _ => rfl
  have F2 := fun_mk (st := s_blanks_of) l2 c2 k2
  have b2 := F2.binds (ps := ["tree"]) fun _ _ _ _ _ _ => allN1 fun _ => rfl
  have F3 := fun_mk (st := s_same_head) l3 c3 k3
  have b3 := F3.binds (ps := ["one", "other"]) fun _ _ _ _ _ _ => allN2 fun _ _ => rfl
  have F4 := fun_mk (st := s_unlike_blocks) l4 c4 k4
  have b4 := F4.binds (ps := ["one", "other"]) fun _ _ _ _ _ _ => allN2 fun _ _ => rfl
  have F5 := fun_mk (st := s_likeness_at) l5 c5 k5
  have b5 := F5.binds (ps := ["likenesses", "number"]) fun _ _ _ _ _ _ => allN2 fun _ _ => rfl
  have F6 := fun_mk (st := s_parts_likeness) l6 c6 k6
  have b6 := F6.binds (ps := ["likeness", "number"]) fun _ _ _ _ _ _ => allN2 fun _ _ => rfl
  have F7 := fun_mk (st := s_linked_likeness) l7 c7 k7
  have b7 := F7.binds (ps := ["first", "second"]) fun _ _ _ _ _ _ => allN2 fun _ _ => rfl
  have F8 := fun_mk (st := s_likeness_by) l8 c8 k8
  have b8 := F8.binds (ps := ["step", "likenesses"]) fun _ _ _ _ _ _ => allN2 fun _ _ => rfl
  have F9 := fun_mk (st := s_refuse_loose_row) l9 c9 k9
  have b9 := F9.binds (ps := ["row"]) fun _ _ _ _ _ _ => allN1 fun _ => rfl
  have F10 := fun_mk (st := s_refuse_loose_end) l10 c10 k10
  have b10 := F10.binds (ps := ["end", "likenesses"]) fun _ _ _ _ _ _ => allN2 fun _ _ => rfl
  have F11 := fun_mk (st := s_walked) l11 c11 k11
  have b11 := F11.binds (ps := ["one", "other", "paper"]) fun _ _ _ _ _ _ => allN3 fun _ _ _ => rfl
  have F12 := fun_mk (st := s__law_cell_at) l12 c12 k12
  have b12 := F12.binds (ps := ["script", "k"]) fun _ _ _ _ _ _ => allN2 fun _ _ => rfl
  have F13 := fun_mk (st := s__law_stream) l13 c13 k13
  have b13 := F13.binds (ps := ["cell", "many"]) fun _ _ _ _ _ _ => allN2 fun _ _ => rfl
  have F14 := fun_mk (st := s__law_names) l14 c14 k14
  have b14 := F14.binds (ps := ["cell"]) fun _ _ _ _ _ _ => allN1 fun _ => rfl
  have F15 := fun_mk (st := s__law_number) l15 c15 k15
  have b15 := F15.binds (ps := ["cell", "k"]) fun _ _ _ _ _ _ => allN2 fun _ _ => rfl
  have F16 := fun_mk (st := s__law_grow) l16 c16 k16
  have b16 := F16.binds (ps := ["cells", "at", "deep", "names", "first"]) fun _ _ _ _ _ _ => allN5 fun _ _ _ _ _ => rfl
  have F17 := fun_mk (st := s__law_changed) l17 c17 k17
  have b17 := F17.binds (ps := ["tree", "xs", "at", "small"]) fun _ _ _ _ _ _ => allN4 fun _ _ _ _ => rfl
  have F18 := fun_mk (st := s__law_blanks) l18 c18 k18
  have b18 := F18.binds (ps := ["tree"]) fun _ _ _ _ _ _ => allN1 fun _ => rfl
  have F19 := fun_mk (st := s__law_pair) l19 c19 k19
  have b19 := F19.binds (ps := ["script"]) fun _ _ _ _ _ _ => allN1 fun _ => rfl
  have F20 := fun_mk (st := s__law_same) l20 c20 k20
  have b20 := F20.binds (ps := ["pair"]) fun _ _ _ _ _ _ => allN1 fun _ => rfl
  have F21 := fun_mk (st := s__law_step) l21 c21 k21
  have b21 := F21.binds (ps := ["pairs", "xs"]) fun _ _ _ _ _ _ => allN2 fun _ _ => rfl
  have F22 := fun_mk (st := s__law_end) l22 c22 k22
  have b22 := F22.binds (ps := ["pairs", "xs"]) fun _ _ _ _ _ _ => allN2 fun _ _ => rfl
  have F23 := fun_mk (st := s__law_bad_step) l23 c23 k23
  have b23 := F23.binds (ps := ["pairs", "xs"]) fun _ _ _ _ _ _ => allN2 fun _ _ => rfl
  have F24 := fun_mk (st := s__law_bad_end) l24 c24 k24
  have b24 := F24.binds (ps := ["pairs", "xs"]) fun _ _ _ _ _ _ => allN2 fun _ _ => rfl
  have F25 := fun_mk (st := s__law_bad) l25 c25 k25
  have b25 := F25.binds (ps := ["steps", "pairs", "end", "xs"]) fun _ _ _ _ _ _ => allN4 fun _ _ _ _ => rfl
  have F26 := fun_mk (st := s__law_refused) l26 c26 k26
  have b26 := F26.binds (ps := ["one", "other", "paper"]) fun _ _ _ _ _ _ => allN3 fun _ _ _ => rfl
  have F27 := fun_mk (st := s__law_refused_by_base) l27 c27 k27
  have b27 := F27.binds (ps := ["one", "other", "paper"]) fun _ _ _ _ _ _ => allN3 fun _ _ _ => rfl
  have p0 := PySem.W.mg_of X G q0
  have cc0 := cl_of p0
  have p1 := PySem.W.mg_of X G q1
  have cc1 := cl_of p1
  have p2 := PySem.W.mg_of X G q2
  have cc2 := cl_of p2
  have p3 := PySem.W.mg_of X G q3
  have cc3 := cl_of p3
  have xtab : XTab K [cl mg "FormError", cl mg "BadText", cl mg "TooLong", cl mg "BadPaper"] [[true, false, false, false], [true, true, false, false], [true, false, true, false], [true, false, false, true]] := by
    rw [cc0, cc1, cc2, cc3]
    refine ⟨fun c hc => ?_, kt, ia, ve, fc, fg, fga⟩
    simp only [List.mem_cons, List.not_mem_nil, or_false] at hc
    rcases hc with rfl | rfl | rfl | rfl <;> assumption
  have TX : Txt K mg := { f_parts_of := ⟨_, _, F0, b0, PySem.W.mg_of X G a0⟩, f_gather_blanks := ⟨_, _, F1, b1, PySem.W.mg_of X G a1⟩, f_blanks_of := ⟨_, _, F2, b2, PySem.W.mg_of X G a2⟩, f_same_head := ⟨_, _, F3, b3, PySem.W.mg_of X G a3⟩, f_unlike_blocks := ⟨_, _, F4, b4, PySem.W.mg_of X G a4⟩, f_likeness_at := ⟨_, _, F5, b5, PySem.W.mg_of X G a5⟩, f_parts_likeness := ⟨_, _, F6, b6, PySem.W.mg_of X G a6⟩, f_linked_likeness := ⟨_, _, F7, b7, PySem.W.mg_of X G a7⟩, f_likeness_by := ⟨_, _, F8, b8, PySem.W.mg_of X G a8⟩, f_refuse_loose_row := ⟨_, _, F9, b9, PySem.W.mg_of X G a9⟩, f_refuse_loose_end := ⟨_, _, F10, b10, PySem.W.mg_of X G a10⟩, f_walked := ⟨_, _, F11, b11, PySem.W.mg_of X G a11⟩, f__law_cell_at := ⟨_, _, F12, b12, PySem.W.mg_of X G a12⟩, f__law_stream := ⟨_, _, F13, b13, PySem.W.mg_of X G a13⟩, f__law_names := ⟨_, _, F14, b14, PySem.W.mg_of X G a14⟩, f__law_number := ⟨_, _, F15, b15, PySem.W.mg_of X G a15⟩, f__law_grow := ⟨_, _, F16, b16, PySem.W.mg_of X G a16⟩, f__law_changed := ⟨_, _, F17, b17, PySem.W.mg_of X G a17⟩, f__law_blanks := ⟨_, _, F18, b18, PySem.W.mg_of X G a18⟩, f__law_pair := ⟨_, _, F19, b19, PySem.W.mg_of X G a19⟩, f__law_same := ⟨_, _, F20, b20, PySem.W.mg_of X G a20⟩, f__law_step := ⟨_, _, F21, b21, PySem.W.mg_of X G a21⟩, f__law_end := ⟨_, _, F22, b22, PySem.W.mg_of X G a22⟩, f__law_bad_step := ⟨_, _, F23, b23, PySem.W.mg_of X G a23⟩, f__law_bad_end := ⟨_, _, F24, b24, PySem.W.mg_of X G a24⟩, f__law_bad := ⟨_, _, F25, b25, PySem.W.mg_of X G a25⟩, f__law_refused := ⟨_, _, F26, b26, PySem.W.mg_of X G a26⟩, f__law_refused_by_base := ⟨_, _, F27, b27, PySem.W.mg_of X G a27⟩, m_ValueError := PySem.W.mg_none_of X G z0, m_int := PySem.W.mg_none_of X G z1, m_isinstance := PySem.W.mg_none_of X G z2, m_len := PySem.W.mg_none_of X G z3, m_list := PySem.W.mg_none_of X G z4, m_range := PySem.W.mg_none_of X G z5, m_tuple := PySem.W.mg_none_of X G z6, m_zip := PySem.W.mg_none_of X G z7, n_FormError := by rw [cc0]; exact p0, n_BadText := by rw [cc1]; exact p1, n_TooLong := by rw [cc2]; exact p2, n_BadPaper := by rw [cc3]; exact p3, xc := xtab }
  refine ⟨PySem.W.fnOf "law" "law" (defArgs s_law) (defBody s_law) (defScope s_law) .none kV28 dc28 pm28 an28 cd28 ct28, fun s v => .of_eq rfl, fun base _ _ => ?_⟩
  exact ok_law TX (fun_mk (st := s_law) l28 c28 k28)
theorem walk {l : PySem.W.OpenLaw} {q : Program} {loose : List Str} {XP : (Str → Option Value) → Heap → Prop} {YP : World → Heap → Prop} {d : DefRec} {K : Params → PySem.W.Frag} (hn : l.most = some 63) (hdf : d.params.defaults = [])
    (hY : ∀ (w : World) (h : Heap), YP w h → (K w.params).In h)
    (F : ∀ (w : World) (mg : Str → Option Value) (fa : Addr) (h : Heap), (K w.params).In h → h.Ns mainGlobals mg → mg d.name = some (.ref fa) →
      ∃ fd : FuncData, (∀ (s : Shared) (u : Value), BindsTo s fd ⟨[u], []⟩ [("script", u)]) ∧ ∀ base : Heap, (K w.params).In base → base.Ns mainGlobals mg → FnOk l.prog w (K w.params) mg base CX0 kLaw fa fd ["script"] (lowSp (K w.params) spLaw)) :
    PySem.W.WalkO q loose XP YP l.row.toRowW d [] (fun f vs => PySem.call f vs) :=
  L2.walk_of (n := 63) (k := kLaw) (x := "script") (CX := fun _ => CX0) (sp := fun w => lowSp (K w.params) spLaw) hn (by decide) hdf ⟨rfl, by decide, by decide⟩ hY F (fun _ _ a ns hl hO hS => law_low hO hl hS) fun _ _ _ _ _ z => z
end Law
theorem PySem.W.Fast.tw16011126973009666822 : True := trivial
theorem PySem.W.Fast.te16011126973009666822 : True := trivial
open PySem PySem.W PyProof.Rows
set_option maxRecDepth 100000 in
set_option maxHeartbeats 0 in
theorem PySem.Challenge.cw_commonform_k37_papers_walked_holds : PySem.Challenge.rw_commonform_k37_papers_walked.Holds := by
  w_on; o_law; k_head; (case hw => w_witness2)
  k_fill
  refine Law.walk (l := PySem.Challenge.rw_commonform_k37_papers_walked) rfl rfl (fun w h Y => PySem.W.kIn_of Y) ?F
  case F =>
    intro w mg fa h KX G hmg
    refine' Law.all_mk KX G hmg ?a0 ?l0 ?c0 ?k0 ?a1 ?l1 ?c1 ?k1 ?a2 ?l2 ?c2 ?k2 ?a3 ?l3 ?c3 ?k3 ?a4 ?l4 ?c4 ?k4 ?a5 ?l5 ?c5 ?k5 ?a6 ?l6 ?c6 ?k6 ?a7 ?l7 ?c7 ?k7 ?a8 ?l8 ?c8 ?k8 ?a9 ?l9 ?c9 ?k9 ?a10 ?l10 ?c10 ?k10 ?a11 ?l11 ?c11 ?k11 ?a12 ?l12 ?c12 ?k12 ?a13 ?l13 ?c13 ?k13 ?a14 ?l14 ?c14 ?k14 ?a15 ?l15 ?c15 ?k15 ?a16 ?l16 ?c16 ?k16 ?a17 ?l17 ?c17 ?k17 ?a18 ?l18 ?c18 ?k18 ?a19 ?l19 ?c19 ?k19 ?a20 ?l20 ?c20 ?k20 ?a21 ?l21 ?c21 ?k21 ?a22 ?l22 ?c22 ?k22 ?a23 ?l23 ?c23 ?k23 ?a24 ?l24 ?c24 ?k24 ?a25 ?l25 ?c25 ?k25 ?a26 ?l26 ?c26 ?k26 ?a27 ?l27 ?c27 ?k27 ?a28 ?l28 ?c28 ?k28 ?z0 ?z1 ?z2 ?z3 ?z4 ?z5 ?z6 ?z7 ?q0 ?e0 ?q1 ?e1 ?q2 ?e2 ?q3 ?e3 ?kt ?ia ?ve ?fc ?fg ?fga
    (case a0 => k_is)
    (case l0 => k_is)
    (case c0 => k_is)
    (case k0 => k_is)
    (case a1 => k_is)
    (case l1 => k_is)
    (case c1 => k_is)
    (case k1 => k_is)
    (case a2 => k_is)
    (case l2 => k_is)
    (case c2 => k_is)
    (case k2 => k_is)
    (case a3 => k_is)
    (case l3 => k_is)
    (case c3 => k_is)
    (case k3 => k_is)
    (case a4 => k_is)
    (case l4 => k_is)
    (case c4 => k_is)
    (case k4 => k_is)
    (case a5 => k_is)
    (case l5 => k_is)
    (case c5 => k_is)
    (case k5 => k_is)
    (case a6 => k_is)
    (case l6 => k_is)
    (case c6 => k_is)
    (case k6 => k_is)
    (case a7 => k_is)
    (case l7 => k_is)
    (case c7 => k_is)
    (case k7 => k_is)
    (case a8 => k_is)
    (case l8 => k_is)
    (case c8 => k_is)
    (case k8 => k_is)
    (case a9 => k_is)
    (case l9 => k_is)
    (case c9 => k_is)
    (case k9 => k_is)
    (case a10 => k_is)
    (case l10 => k_is)
    (case c10 => k_is)
    (case k10 => k_is)
    (case a11 => k_is)
    (case l11 => k_is)
    (case c11 => k_is)
    (case k11 => k_is)
    (case a12 => k_is)
    (case l12 => k_is)
    (case c12 => k_is)
    (case k12 => k_is)
    (case a13 => k_is)
    (case l13 => k_is)
    (case c13 => k_is)
    (case k13 => k_is)
    (case a14 => k_is)
    (case l14 => k_is)
    (case c14 => k_is)
    (case k14 => k_is)
    (case a15 => k_is)
    (case l15 => k_is)
    (case c15 => k_is)
    (case k15 => k_is)
    (case a16 => k_is)
    (case l16 => k_is)
    (case c16 => k_is)
    (case k16 => k_is)
    (case a17 => k_is)
    (case l17 => k_is)
    (case c17 => k_is)
    (case k17 => k_is)
    (case a18 => k_is)
    (case l18 => k_is)
    (case c18 => k_is)
    (case k18 => k_is)
    (case a19 => k_is)
    (case l19 => k_is)
    (case c19 => k_is)
    (case k19 => k_is)
    (case a20 => k_is)
    (case l20 => k_is)
    (case c20 => k_is)
    (case k20 => k_is)
    (case a21 => k_is)
    (case l21 => k_is)
    (case c21 => k_is)
    (case k21 => k_is)
    (case a22 => k_is)
    (case l22 => k_is)
    (case c22 => k_is)
    (case k22 => k_is)
    (case a23 => k_is)
    (case l23 => k_is)
    (case c23 => k_is)
    (case k23 => k_is)
    (case a24 => k_is)
    (case l24 => k_is)
    (case c24 => k_is)
    (case k24 => k_is)
    (case a25 => k_is)
    (case l25 => k_is)
    (case c25 => k_is)
    (case k25 => k_is)
    (case a26 => k_is)
    (case l26 => k_is)
    (case c26 => k_is)
    (case k26 => k_is)
    (case a27 => k_is)
    (case l27 => k_is)
    (case c27 => k_is)
    (case k27 => k_is)
    (case a28 => k_is)
    (case l28 => k_is)
    (case c28 => k_is)
    (case k28 => k_is)
    (case z0 => k_is)
    (case z1 => k_is)
    (case z2 => k_is)
    (case z3 => k_is)
    (case z4 => k_is)
    (case z5 => k_is)
    (case z6 => k_is)
    (case z7 => k_is)
    (case q0 => k_is)
    (case e0 => k_exc)
    (case q1 => k_is)
    (case e1 => k_exc)
    (case q2 => k_is)
    (case e2 => k_exc)
    (case q3 => k_is)
    (case e3 => k_exc)
    (case kt => rfl)
    (case ia => rfl)
    (case ve => rfl)
    (case fc => rfl)
    (case fg => rfl)
    (case fga => rfl)

