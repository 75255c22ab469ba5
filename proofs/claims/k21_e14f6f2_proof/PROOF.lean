import PyProof.Rows.All
import Wide.All
import OpenK.AllK
import Wide.FinOn
import Lean
import PyProof.EqAt
import PyProof.EqKinds
import PyProof.TupleCall
import PySem.Challenge.RW_commonform_k21_whole_renamed_and_back
-- CHANGE: your row's module here, as the last of these rows
set_option Elab.async false
set_option linter.all false
set_option maxRecDepth 100000
/-! THE HAND LAYER, for ints, bools, texts, own classes, LISTS and tuples (index, slices, in, append, pop ..), calls, loops. Paste it whole ahead of your own text; what your proof does not reach may be deleted. -/
namespace L2
open PySem PySem.Spec PyProof.Rows

/-- a key: an int or a str -/
abbrev Key := Sum Int Str
def keyIs : Key → Value → Bool
  | .inl k, v => Value.isInt k v
  | .inr x, v => Value.isStrOf x v
def keyH (w : World) : Key → Int
  | .inl k => hashInt k
  | .inr x => hashStr w x
theorem keyIs_shape : ∀ {k : Key} {v : Value}, keyIs k v = true → (∃ i t, k = Sum.inl i ∧ v = Value.int i t) ∨ (∃ x t, k = Sum.inr x ∧ v = Value.str x t)
  | .inl i, v, h => by
    obtain ⟨t, e⟩ := Value.isInt_shape (k := i) (v := v) h
    exact .inl ⟨i, t, rfl, e⟩
  | .inr x, v, h => by
    obtain ⟨t, e⟩ := Value.isStrOf_shape (x := x) (v := v) h
    exact .inr ⟨x, t, rfl, e⟩
theorem keyIs_int (i : Int) (t : Tok) : keyIs (.inl i) (.int i t) = true := by simp [keyIs, Value.isInt]
theorem keyIs_str (x : Str) (t : Tok) : keyIs (.inr x) (.str x t) = true := by simp [keyIs, Value.isStrOf]
theorem key_ll (a b : Int) : decide ((Sum.inl a : Key) = Sum.inl b) = (a == b) := by
  by_cases e : a = b
  · subst e; simp
  · have h : ¬ (Sum.inl a : Key) = Sum.inl b := fun q => e (Sum.inl.inj q)
    rw [decide_eq_false h]
    exact (beq_eq_false_iff_ne.mpr e).symm
theorem key_rr (a b : Str) : decide ((Sum.inr a : Key) = Sum.inr b) = decide (a = b) := by
  by_cases e : a = b
  · subst e; simp
  · have h : ¬ (Sum.inr a : Key) = Sum.inr b := fun q => e (Sum.inr.inj q)
    rw [decide_eq_false h, decide_eq_false e]
theorem key_lr (a : Int) (b : Str) : decide ((Sum.inl a : Key) = Sum.inr b) = false := decide_eq_false (fun q => nomatch q)
theorem key_rl (a : Str) (b : Int) : decide ((Sum.inr a : Key) = Sum.inl b) = false := decide_eq_false (fun q => nomatch q)

def mixKind (prog : Program) (w : World) : PySem.KeyKind prog w Key where
  is := keyIs
  hash := keyH w
  inj := fun v a b ha hb => by
    rcases keyIs_shape ha with ⟨i, t, rfl, rfl⟩ | ⟨x, t, rfl, rfl⟩
    · rcases keyIs_shape hb with ⟨j, u, rfl, e⟩ | ⟨y, u, rfl, e⟩
      · injection e with e1 _; rw [e1]
      · exact nomatch e
    · rcases keyIs_shape hb with ⟨j, u, rfl, e⟩ | ⟨y, u, rfl, e⟩
      · exact nomatch e
      · injection e with e1 _; rw [e1]
  byValue := fun k v h => by
    rcases keyIs_shape h with ⟨i, t, rfl, rfl⟩ | ⟨x, t, rfl, rfl⟩ <;> rfl
  pyHash := fun hv h => by
    rcases keyIs_shape hv with ⟨i, t, rfl, rfl⟩ | ⟨x, t, rfl, rfl⟩
    · exact wpAny_pyHash_int h
    · exact wpAny_pyHash_str h
  eqBool := fun hu hv h => by
    rcases keyIs_shape hu with ⟨i, t, rfl, rfl⟩ | ⟨x, t, rfl, rfl⟩
    · rcases keyIs_shape hv with ⟨j, u, rfl, rfl⟩ | ⟨y, u, rfl, rfl⟩
      · rw [key_ll] at h; exact wpAny_eqBool_int h
      · rw [key_lr] at h; exact SeqAt.EqAt.int_str i t y u _ _ _ _ h
    · rcases keyIs_shape hv with ⟨j, u, rfl, rfl⟩ | ⟨y, u, rfl, rfl⟩
      · rw [key_rl] at h; exact SeqAt.EqAt.str_int x t j u _ _ _ _ h
      · rw [key_rr] at h; exact wpAny_eqBool_str h
  «strs» := fun k x t v h => by
    rcases keyIs_shape h with ⟨i, u, rfl, e⟩ | ⟨y, u, rfl, e⟩
    · exact nomatch e
    · injection e with e1 _
      subst e1
      cases v <;> rfl

theorem mixKind_is (prog : Program) (w : World) (k : Key) (v : Value) : (mixKind prog w).is k v = keyIs k v := rfl
theorem mixKind_int (prog : Program) (w : World) (i : Int) (t : Tok) : (mixKind prog w).is (.inl i) (.int i t) = true := keyIs_int i t
theorem mixKind_str (prog : Program) (w : World) (x : Str) (t : Tok) : (mixKind prog w).is (.inr x) (.str x t) = true := keyIs_str x t
end L2

namespace L2
open PySem PySem.Spec PyProof.Rows

/-- a value, without the heap -/
inductive V where
  | non | bl (b : Bool) | int (i : Int) | str (x : Str) | byt (b : Array UInt8) | flt (b : UInt64) | ref (a : Addr) | ty (n : String)
  deriving DecidableEq

def RelV : V → Value → Prop
  | .non, u => u = Value.none
  | .bl b, u => u = Value.bool b
  | .int i, u => ∃ t, u = Value.int i t
  | .str x, u => ∃ t, u = Value.str x t
  | .byt b, u => ∃ t, u = Value.bytes b t
  | .flt b, u => ∃ t, u = Value.float b t
  | .ref a, u => u = Value.ref a
  | .ty n, u => u = Value.type n

abbrev Vals : List V → List Value → Prop := Paired RelV
theorem Vals.length {xs : List V} {us : List Value} (r : Vals xs us) : xs.length = us.length := Paired.length r
theorem Vals.get : ∀ {xs : List V} {us : List Value} {i : Nat} {x : V}, Vals xs us → xs[i]? = some x → ∃ u, us[i]? = some u ∧ RelV x u
  | _, _, _, _, .nil, e => by simp at e
  | _, _, 0, _, .cons r _, e => by simp at e; subst e; exact ⟨_, rfl, r⟩
  | _, _, i + 1, x, .cons _ t, e => by
    obtain ⟨u, h1, h2⟩ := Vals.get (i := i) (x := x) t (by simpa using e)
    exact ⟨u, by simpa using h1, h2⟩
theorem Vals.set {x : V} {u : Value} (r : RelV x u) : ∀ {xs : List V} {us : List Value} (i : Nat), Vals xs us → Vals (xs.set i x) (us.set i u)
  | _, _, _, .nil => .nil
  | _, _, 0, .cons _ t => .cons r t
  | _, _, i + 1, .cons q t => .cons q (Vals.set r i t)
theorem Vals.append : ∀ {xs ys : List V} {us ws : List Value}, Vals xs us → Vals ys ws → Vals (xs ++ ys) (us ++ ws)
  | _, _, _, _, .nil, s => s
  | _, _, _, _, .cons r t, s => .cons r (Vals.append t s)
theorem Vals.take : ∀ {xs : List V} {us : List Value} (n : Nat), Vals xs us → Vals (xs.take n) (us.take n)
  | _, _, 0, _ => .nil
  | _, _, _ + 1, .nil => .nil
  | _, _, n + 1, .cons r t => .cons r (Vals.take n t)
theorem Vals.drop : ∀ {xs : List V} {us : List Value} (n : Nat), Vals xs us → Vals (xs.drop n) (us.drop n)
  | _, _, 0, r => r
  | _, _, _ + 1, .nil => .nil
  | _, _, n + 1, .cons _ t => Vals.drop n t
theorem Vals.none_of : ∀ {xs : List V} {us : List Value} {i : Nat}, Vals xs us → xs[i]? = none → us[i]? = none := fun {xs us i} r e => by
  have h1 := r.length
  have h2 : xs.length ≤ i := List.getElem?_eq_none_iff.mp e
  exact List.getElem?_eq_none_iff.mpr (by omega)

def RelO : Option V → Option Value → Prop
  | some v, some u => RelV v u
  | none, none => True
  | _, _ => False
def KV {κ : Type} : List (κ × V) → List (κ × Value) → Prop := Paired fun (p : κ × V) (q : κ × Value) => p.1 = q.1 ∧ RelV p.2 q.2

/-- a key of a dict (00_mix): an int or a text -/
def kV : Key → V
  | .inl i => .int i
  | .inr x => .str x

/-- what stands at a tracked address -/
inductive HO where
  /-- a list -/
  | lst (xs : List V)
  /-- a tuple (never changes) -/
  | tup (xs : List V)
  /-- a dict whose keys are ints and texts; one whose keys are tuples of ints and texts (the empty one is both) -/
  | dK (kvs : List (Key × V)) | dT (kvs : List (List Key × V))
  /-- a set of ints: its members, its size -/
  | set (S : Int → Bool) (n : Nat)
  /-- an instance of the class at C, its dict at dx, its attributes -/
  | ins (C dx : Addr) (fs : List (Str × V))
  /-- the dict of the instance at x -/
  | own (x : Addr)
  /-- the dict of an exception -/
  | xd (fs : List (Str × V))
  /-- a bound method, f of x -/
  | met (f x : Addr)
  /-- a range object lo, lo + 1, .. below hi -/
  | rng (lo hi : Int)
  /-- a thing that is known to the object (the script; a dict while a loop walks it): read, never written while it is so -/
  | frz (o : Obj) (u : HO)
  /-- a code object's table -/
  | tbl (ps : Array Value)
  /-- any other thing, by what is true of its one object (a def of one's own: SetO a S n := HO.ext fun h => ..) -/
  | ext (φ : Heap → Prop)

abbrev Hp := Addr → Option HO
def upd (H : Hp) (a : Addr) (o : HO) : Hp := fun b => if b = a then some o else H b
theorem upd_same {H : Hp} {a : Addr} {o : HO} : upd H a o a = some o := by unfold upd; rw [if_pos rfl]
theorem upd_ne {H : Hp} {a b : Addr} {o : HO} (h : b ≠ a) : upd H a o b = H b := by unfold upd; rw [if_neg h]
theorem upd_upd {H : Hp} {a : Addr} {o u : HO} : upd (upd H a o) a u = upd H a u := by
  funext b; unfold upd; split <;> rfl
/-- two objects of different content stand apart -/
theorem ne_of {H : Hp} {a b : Addr} {o u : HO} (h : H a = some o) (h' : H b = some u) (d : o ≠ u) : a ≠ b := by
  intro e; subst e; rw [h] at h'; exact d (Option.some.inj h')
theorem ne_of_none {H : Hp} {a b : Addr} {o : HO} (h : H a = some o) (h' : H b = none) : a ≠ b := by
  intro e; subst e; rw [h] at h'; cases h'

section
variable (P : Program) (w : World)
def ObjOk (H : Hp) (h : Heap) (a : Addr) : HO → Prop
  | .lst xs => xs.length ≤ sizeLine ∧ ∃ (its : List Value) (n : Nat), Vals xs its ∧ h.get? a = some { cls := .type "list", data := .seq its.toArray n }
  | .tup xs => xs.length ≤ sizeLine ∧ ∃ its : List Value, Vals xs its ∧ IsTup h a its.toArray
  | .dK kvs => kvs.length ≤ sizeLine ∧ (a == sysModules) = false ∧ ∃ vs, KV kvs vs ∧ h.DictOf (mixKind P w) a vs
  | .dT kvs => kvs.length ≤ sizeLine ∧ (a == sysModules) = false ∧ ∃ xs : List (List Key × Addr × Value),
      Paired (fun (p : List Key × V) (q : List Key × Addr × Value) => p.1 = q.1 ∧ H q.2.1 = some (.tup (p.1.map kV)) ∧ RelV p.2 q.2.2) kvs xs ∧
      ∃ o es ep, h.get? a = some o ∧ o.ExactDict ∧ o.data = .dict es ep ∧ es.toList = xs.map (entryOfKey (tupleKind (mixKind P w))) ∧ (xs.map (·.1)).Nodup
  | .set S n => h.SetOf (intKind P w) a S n
  | .ins C dx fs => H dx = some (.own a) ∧ fs.length ≤ 1000 ∧ dx ≠ a ∧ h.get? a = some (PySem.W.instObj C dx) ∧
      ∃ mA, h.Ns1 dx mA ∧ (∀ f, RelO (fs.lookup f) (mA f)) ∧ PySem.Within mA (fs.map (·.1))
  | .own _ => ∃ o, h.get? a = some o
  | .xd fs => ∃ mA, h.Ns1 a mA ∧ ∀ f, RelO (fs.lookup f) (mA f)
  | .rng lo hi => ∃ t u v, h.get? a = some { cls := .type "range", data := .fields #[.int lo t, .int hi u, .int 1 v] }
  | .frz o u => h.get? a = some o ∧ ObjOk H h a u
  | .tbl ps => h.get? a = some { cls := .none, data := .fields ps }
  | .met f x => h.get? a = some (PySem.W.methodObj (.ref f) (.ref x))
  | .ext φ => φ h ∧ (∃ o, h.get? a = some o) ∧ ∀ h1 h2 : Heap, φ h1 → (∀ o, h1.get? a = some o → h2.get? a = some o) → φ h2
/-- the abstract heap is held -/
def HOk (H : Hp) (h : Heap) : Prop := ∀ a o, H a = some o → ObjOk P w H h a o
end

section
variable {P : Program} {w : World} {H H' : Hp} {h h' : Heap} {a : Addr} {o : HO}
theorem ObjOk.lt (x : ObjOk P w H h a o) : a < h.objs.size := by
  cases o with
  | lst xs => obtain ⟨_, _, _, _, e⟩ := x; exact Heap.lt_size e
  | tup xs => obtain ⟨_, _, _, p⟩ := x; exact p.lt
  | dK kvs => obtain ⟨_, _, _, _, o, _, _, e, _⟩ := x; exact Heap.lt_size e
  | dT kvs => obtain ⟨_, _, _, _, o, _, _, e, _⟩ := x; exact Heap.lt_size e
  | set S n => obtain ⟨o, _, _, _, e, _⟩ := x; exact Heap.lt_size e
  | ins C dx fs => obtain ⟨_, _, _, e, _⟩ := x; exact Heap.lt_size e
  | own y => obtain ⟨_, e⟩ := x; exact Heap.lt_size e
  | xd fs => obtain ⟨_, ⟨_, _, _, e, _⟩, _⟩ := x; exact Heap.lt_size e
  | rng lo hi => obtain ⟨_, _, _, e⟩ := x; exact Heap.lt_size e
  | frz ob u => obtain ⟨e, _⟩ := x; exact Heap.lt_size e
  | tbl ps => exact Heap.lt_size (show h.get? a = some _ from x)
  | met f y => exact Heap.lt_size (show h.get? a = some _ from x)
  | ext φ => obtain ⟨_, ⟨_, e⟩, _⟩ := x; exact Heap.lt_size e
theorem Paired.mapP {α β : Type} {F G : α → β → Prop} : ∀ {l₁ : List α} {l₂ : List β}, Paired F l₁ l₂ → (∀ a b, F a b → G a b) → Paired G l₁ l₂
  | _, _, .nil, _ => .nil
  | _, _, .cons r t, f => .cons (f _ _ r) (Paired.mapP t f)
theorem Paired.imp' {α β : Type} {F G : α → β → Prop} (f : ∀ a b, F a b → G a b) {l₁ : List α} {l₂ : List β} (r : Paired F l₁ l₂) : Paired G l₁ l₂ := Paired.mapP r f
/-- what an object's description leans on: its own object, its own dict, the tuples -/
theorem ObjOk.stay (x : ObjOk P w H h a o) (k : ∀ b u, (b = a ∨ H b = some (.own a)) → h.get? b = some u → h'.get? b = some u)
    (ho : ∀ b, H b = some (.own a) → H' b = some (.own a)) (ht : ∀ b xs, H b = some (.tup xs) → H' b = some (.tup xs)) : ObjOk P w H' h' a o := by
  induction o with
  | lst xs => obtain ⟨z, its, n, r, e⟩ := x; exact ⟨z, its, n, r, k _ _ (.inl rfl) e⟩
  | tup xs => obtain ⟨z, its, r, ob, e, c⟩ := x; exact ⟨z, its, r, ob, k _ _ (.inl rfl) e, c⟩
  | dK kvs => obtain ⟨z, y, vs, r, ob, es, ep, e, c⟩ := x; exact ⟨z, y, vs, r, ob, es, ep, k _ _ (.inl rfl) e, c⟩
  | dT kvs =>
    obtain ⟨z, y, xs, r, ob, es, ep, e, c⟩ := x
    exact ⟨z, y, xs, Paired.mapP r fun p q z => ⟨z.1, ht _ _ z.2.1, z.2.2⟩, ob, es, ep, k _ _ (.inl rfl) e, c⟩
  | set S n => obtain ⟨ob, es, ep, t, e, c⟩ := x; exact ⟨ob, es, ep, t, k _ _ (.inl rfl) e, c⟩
  | ins C dx fs =>
    obtain ⟨d, z, ne, e, mA, ⟨od, es, ep, e2, c⟩, r⟩ := x
    exact ⟨ho _ d, z, ne, k _ _ (.inl rfl) e, mA, ⟨od, es, ep, k _ _ (.inr d) e2, c⟩, r⟩
  | own y => obtain ⟨ob, e⟩ := x; exact ⟨ob, k _ _ (.inl rfl) e⟩
  | xd fs => obtain ⟨mA, ⟨od, es, ep, e, c⟩, r⟩ := x; exact ⟨mA, ⟨od, es, ep, k _ _ (.inl rfl) e, c⟩, r⟩
  | rng lo hi => obtain ⟨t, u, v, e⟩ := x; exact ⟨t, u, v, k _ _ (.inl rfl) e⟩
  | frz ob u ih => obtain ⟨e, q⟩ := x; exact ⟨k _ _ (.inl rfl) e, ih q⟩
  | tbl ps =>
    have e : h.get? a = some { cls := .none, data := .fields ps } := x
    show h'.get? a = some { cls := .none, data := .fields ps }
    exact k a _ (.inl rfl) e
  | met f y =>
    have e : h.get? a = some (PySem.W.methodObj (.ref f) (.ref y)) := x
    show h'.get? a = some (PySem.W.methodObj (.ref f) (.ref y))
    exact k a _ (.inl rfl) e
  | ext φ => obtain ⟨p, ⟨o, e⟩, st⟩ := x; exact ⟨st _ _ p fun o q => k _ _ (.inl rfl) q, ⟨o, k _ _ (.inl rfl) e⟩, st⟩
theorem HOk.lt (x : HOk P w H h) (e : H a = some o) : a < h.objs.size := (x a o e).lt
theorem HOk.fresh (x : HOk P w H h) (e : h.objs.size ≤ a) : H a = none := by
  cases q : H a with
  | none => rfl
  | some u => exact absurd (Nat.lt_of_lt_of_le (x.lt q) e) (Nat.lt_irrefl _)
/-- every object of the heap is kept -/
theorem HOk.kept (x : HOk P w H h) (k : ∀ b u, h.get? b = some u → h'.get? b = some u) : HOk P w H h' := fun a o e =>
  (x a o e).stay (fun b u _ q => k b u q) (fun _ q => q) fun _ _ q => q
/-- a new object is laid and tracked -/
theorem HOk.laid (x : HOk P w H h) (k : ∀ b u, h.get? b = some u → h'.get? b = some u) (hp : h.objs.size ≤ a) (new : ObjOk P w (upd H a o) h' a o) : HOk P w (upd H a o) h' := fun b u e => by
  have hn := x.fresh hp
  by_cases hb : b = a
  · subst hb; rw [upd_same] at e; cases e; exact new
  · rw [upd_ne hb] at e
    exact (x b u e).stay (fun c v _ q => k c v q) (fun c q => by rw [upd_ne (ne_of_none q hn)]; exact q) fun c xs q => by rw [upd_ne (ne_of_none q hn)]; exact q
end

/-- what may be read as u: it is u, or a known u -/
def Rd (H : Hp) (a : Addr) (u : HO) : Prop := H a = some u ∨ ∃ o, H a = some (.frz o u)
theorem Rd.of {H : Hp} {a : Addr} {u : HO} (h : H a = some u) : Rd H a u := .inl h
theorem Rd.ok {P : Program} {w : World} {H : Hp} {h : Heap} {a : Addr} {u : HO} (r : Rd H a u) (x : HOk P w H h) : ObjOk P w H h a u := by
  rcases r with r | ⟨o, r⟩
  · exact x a u r
  · obtain ⟨_, q⟩ := x a _ r
    exact q
/-- what may be written -/
def Mut : Option HO → Prop
  | some (.lst _) => True
  | some (.dK _) => True
  | some (.dT _) => True
  | some (.set _ _) => True
  | some (.ins _ _ _) => True
  | some (.ext _) => True
  | _ => False
section
variable {P : Program} {w : World} {H : Hp} {h h' : Heap} {x e : Addr} {o' : HO}
/-- the object at e is changed: x itself, or the dict of the instance x -/
theorem HOk.write (ok : HOk P w H h) (mu : Mut (H x)) (he : e = x ∨ H e = some (.own x)) (k : ∀ b u, b ≠ e → h.get? b = some u → h'.get? b = some u) (heo : ∃ u, h'.get? e = some u)
    (new : ObjOk P w (upd H x o') h' x o') : HOk P w (upd H x o') h' := fun b u q => by
  have nown : ∀ c y, H c = some (.own y) → c ≠ x := fun c y r z => by subst z; rw [r] at mu; exact mu
  have ntup : ∀ c xs, H c = some (.tup xs) → c ≠ x := fun c xs r z => by subst z; rw [r] at mu; exact mu
  by_cases hb : b = x
  · subst hb; rw [upd_same] at q; cases q; exact new
  · rw [upd_ne hb] at q
    by_cases hbe : b = e
    · have q' : H b = some (.own x) := by
        rcases he with z | z
        · exact absurd (hbe.trans z) hb
        · rw [hbe]; exact z
      rw [q] at q'; cases q'
      obtain ⟨v, hv⟩ := heo
      exact ⟨v, by rw [hbe]; exact hv⟩
    · refine (ok b u q).stay (fun c v hc r => k c v ?_ r) (fun c r => by rw [upd_ne (nown c b r)]; exact r) fun c xs r => by rw [upd_ne (ntup c xs r)]; exact r
      rcases hc with rfl | hc
      · exact hbe
      · rintro rfl
        rcases he with z | z
        · exact nown c b hc z
        · rw [hc] at z; cases z; exact hb rfl
end

/-! ### kept unless tracked; of the frames at fs (the callers') the slots may change (an exception that passes writes there); of the records at ex (iterators) nothing is said -/
structure Un (fs ex : List Addr) (H H' : Hp) (h h' : Heap) : Prop where
  keep : ∀ b o, h.get? b = some o → H b = none → b ∉ fs → b ∉ ex → h'.get? b = some o
  slot : ∀ b o, h.get? b = some o → H b = none → b ∈ fs → b ∉ ex → ∃ sl, h'.get? b = some { o with slots := sl }
  free : ∀ b o, h.get? b = some o → H b = none → b ∉ ex → H' b = none
  there : ∀ b o, h.get? b = some o → b ∉ ex → ∃ o', h'.get? b = some o'
  tups : ∀ b xs, H b = some (.tup xs) → H' b = some (.tup xs)
  frzs : ∀ b o u, H b = some (.frz o u) → H' b = some (.frz o u)
  tbls : ∀ b ps, H b = some (.tbl ps) → ∃ more, H' b = some (.tbl (ps ++ more))
section
variable {fs fs' ex ex' : List Addr} {H H1 H2 : Hp} {h h1 h2 h' : Heap} {a x e : Addr} {o : HO}
theorem Un.any (u : Un fs ex H H1 h h1) {b : Addr} {ob : Obj} (q : h.get? b = some ob) (n : H b = none) (hx : b ∉ ex) : ∃ sl, h1.get? b = some { ob with slots := sl } := by
  by_cases hb : b ∈ fs
  · exact u.slot b ob q n hb hx
  · exact ⟨ob.slots, u.keep b ob q n hb hx⟩
theorem Un.trans (a : Un fs ex H H1 h h1) (b : Un fs ex H1 H2 h1 h2) : Un fs ex H H2 h h2 where
  keep := fun c ob q n hc hx => b.keep c ob (a.keep c ob q n hc hx) (a.free c ob q n hx) hc hx
  slot := fun c ob q n hc hx => by
    obtain ⟨sl, e1⟩ := a.slot c ob q n hc hx
    obtain ⟨sl', e2⟩ := b.slot c _ e1 (a.free c ob q n hx) hc hx
    exact ⟨sl', e2⟩
  free := fun c ob q n hx => by
    obtain ⟨o', e1⟩ := a.there c ob q hx
    exact b.free c o' e1 (a.free c ob q n hx) hx
  there := fun c ob q hx => by
    obtain ⟨o', e1⟩ := a.there c ob q hx
    exact b.there c o' e1 hx
  tups := fun c xs q => b.tups c xs (a.tups c xs q)
  frzs := fun c ob xs q => b.frzs c ob xs (a.frzs c ob xs q)
  tbls := fun c ps q => by
    obtain ⟨m1, e1⟩ := a.tbls c ps q
    obtain ⟨m2, e2⟩ := b.tbls c _ e1
    exact ⟨m1 ++ m2, by rw [e2, Array.append_assoc]⟩
theorem Un.kept (k : ∀ b u, h.get? b = some u → h'.get? b = some u) : Un fs ex H H h h' :=
  ⟨fun b ob q _ _ _ => k b ob q, fun b ob q _ _ _ => ⟨ob.slots, k b ob q⟩, fun _ _ _ n _ => n, fun b ob q _ => ⟨ob, k b ob q⟩, fun _ _ q => q, fun _ _ _ q => q, fun _ ps q => ⟨#[], by rw [q]; simp⟩⟩
theorem Un.refl : Un fs ex H H h h := Un.kept fun _ _ q => q
theorem Un.laid (k : ∀ b u, h.get? b = some u → h'.get? b = some u) (hp : h.objs.size ≤ a) (hn : H a = none) : Un fs ex H (upd H a o) h h' where
  keep := fun b u q _ _ _ => k b u q
  slot := fun b u q _ _ _ => ⟨u.slots, k b u q⟩
  free := fun b u q n _ => by rw [upd_ne (Nat.ne_of_lt (Nat.lt_of_lt_of_le (Heap.lt_size q) hp))]; exact n
  there := fun b u q _ => ⟨u, k b u q⟩
  tups := fun b xs q => by rw [upd_ne (ne_of_none q hn)]; exact q
  frzs := fun b u xs q => by rw [upd_ne (ne_of_none q hn)]; exact q
  tbls := fun b ps q => ⟨#[], by rw [upd_ne (ne_of_none q hn), q]; simp⟩
theorem Un.write (mu : Mut (H x)) (he : e = x ∨ H e = some (.own x)) (k : ∀ b u, b ≠ e → h.get? b = some u → h'.get? b = some u) (heo : ∃ u, h'.get? e = some u) : Un fs ex H (upd H x o) h h' := by
  have hx : ∀ b, H b = none → b ≠ x := fun b n z => by subst z; rw [n] at mu; exact mu
  have hb : ∀ b, H b = none → b ≠ e := fun b n z => by
    subst z
    rcases he with r | r
    · exact hx b n r
    · rw [n] at r; cases r
  have hm : ∀ b u, H b = some u → ¬ Mut (some u) → b ≠ x := fun b u q nm z => by subst z; rw [q] at mu; exact nm mu
  refine ⟨fun b u q n _ _ => k b u (hb b n) q, fun b u q n _ _ => ⟨u.slots, k b u (hb b n) q⟩, fun b u q n _ => by rw [upd_ne (hx b n)]; exact n, fun b u q _ => ?_,
    fun b xs q => by rw [upd_ne (hm b _ q fun z => z)]; exact q, fun b u xs q => by rw [upd_ne (hm b _ q fun z => z)]; exact q, fun b ps q => ⟨#[], by rw [upd_ne (hm b _ q fun z => z), q]; simp⟩⟩
  by_cases hbe : b = e
  · subst hbe; exact heo
  · exact ⟨u, k b u hbe q⟩
theorem Un.mono (u : Un fs ex H H1 h h1) (hs : ∀ b ∈ fs, b ∈ fs') (hx : ∀ b ∈ ex, b ∈ ex') : Un fs' ex' H H1 h h1 :=
  ⟨fun b ob q n hb he => u.keep b ob q n (fun z => hb (hs b z)) fun z => he (hx b z), fun _ _ q n _ he => u.any q n fun z => he (hx _ z), fun b ob q n he => u.free b ob q n fun z => he (hx b z), fun b ob q he => u.there b ob q fun z => he (hx b z), u.tups, u.frzs, u.tbls⟩
end

/-! ### the heap without what is tracked -/
def trk (h : Heap) (H : Hp) : List Addr := (List.range h.objs.size).filter fun a => (H a).isSome
def hidT (h : Heap) (H : Hp) : Heap := PySem.W.hideAll h (trk h H)
theorem hidT_size (h : Heap) (H : Hp) : (hidT h H).objs.size = h.objs.size := PySem.W.hideAll_size _ _
theorem hidT_get {h : Heap} {H : Hp} {b : Addr} {o : Obj} (e : h.get? b = some o) (n : H b = none) : (hidT h H).get? b = some o :=
  PySem.W.hideAll_get _ e fun hm => by
    have q : (H b).isSome = true := (List.mem_filter.mp hm).2
    rw [n] at q; simp at q
theorem of_hidT {h : Heap} {H : Hp} {b : Addr} {o : Obj} (e : (hidT h H).get? b = some o) : h.get? b = some o ∧ H b = none := by
  have e' : h.get? b = some o := PySem.W.of_hideAll (trk h H) e
  refine ⟨e', ?_⟩
  cases q : H b with
  | none => rfl
  | some x =>
    have hm : b ∈ trk h H := List.mem_filter.mpr ⟨List.mem_range.mpr (Heap.lt_size e'), by simp [q]⟩
    have z : (hidT h H).get? b = none := PySem.W.hideAll_none (trk h H) hm
    rw [z] at e; cases e

/-! ### OpenK's ledger, filled with every new object but one -/
def allNews (g h : Heap) (L : Addr) : List (Addr × Obj) := (List.range h.objs.size).filterMap fun a => if a = L ∨ (g.get? a).isSome = true then none else (h.get? a).map fun o => (a, o)
theorem mem_allNews {g h : Heap} {L a : Addr} {o : Obj} (h1 : a ≠ L) (h2 : g.get? a = none) (h3 : h.get? a = some o) : (a, o) ∈ allNews g h L :=
  List.mem_filterMap.mpr ⟨a, List.mem_range.mpr (Heap.lt_size h3), by simp [h1, h2, h3]⟩
theorem of_mem_allNews {g h : Heap} {L : Addr} {p : Addr × Obj} (hp : p ∈ allNews g h L) : p.1 ≠ L ∧ g.get? p.1 = none ∧ h.get? p.1 = some p.2 := by
  obtain ⟨b, _, e⟩ := List.mem_filterMap.mp hp
  split at e
  · cases e
  · rename_i hn
    cases q : h.get? b with
    | none => rw [q] at e; simp at e
    | some u =>
      rw [q] at e
      simp only [Option.map_some, Option.some.injEq] at e
      subst e
      refine ⟨fun z => hn (.inl z), ?_, q⟩
      show g.get? b = none
      cases r : g.get? b with
      | none => rfl
      | some v => exact (hn (.inr (by simp [r]))).elim
def rest (g h : Heap) (L d : Addr) : List (Addr × Obj) := (allNews g h L).filter fun p => decide (p.1 ≠ d)
theorem rest_ne {g h : Heap} {L d : Addr} : ∀ p ∈ rest g h L d, p.1 ≠ d := fun p hp => of_decide_eq_true (List.mem_filter.mp hp).2
theorem mem_rest {g h : Heap} {L d a : Addr} {o : Obj} (h1 : a ≠ L) (h2 : g.get? a = none) (h3 : h.get? a = some o) (h4 : a ≠ d) : (a, o) ∈ rest g h L d :=
  List.mem_filter.mpr ⟨mem_allNews h1 h2 h3, decide_eq_true h4⟩
theorem news_all {g h : Heap} {L : Addr} : News g L h (allNews g h L) := fun p hp => let ⟨a, b, c⟩ := of_mem_allNews hp; ⟨c, a, b⟩
theorem news_at {g h : Heap} {L d : Addr} {o : Obj} (h1 : d ≠ L) (h2 : g.get? d = none) (h3 : h.get? d = some o) : News g L h ((d, o) :: rest g h L d) := fun p hp => by
  rcases List.mem_cons.mp hp with rfl | hp
  · exact ⟨h3, h1, h2⟩
  · exact news_all p (List.mem_filter.mp hp).1
/-- behind a rule that changed d alone: all else but the frame is kept -/
theorem kept_of_news {g h h' : Heap} {L d : Addr} {m : Str → Option Value} (k : ∀ b o, g.get? b = some o → h.get? b = some o) (F : Fr g L h' m) (N : News g L h' (rest g h L d)) :
    ∀ b o, b ≠ L → b ≠ d → h.get? b = some o → h'.get? b = some o := fun b o h1 h2 e => by
  cases q : g.get? b with
  | some u =>
    have := k b u q
    rw [e] at this; cases this
    exact F.keep b _ q
  | none => exact (N (b, o) (mem_rest h1 q e h2)).1
end L2

namespace L2
open PySem PySem.Spec PyProof.Rows

/-- the module's facts, over the base: the heap at the law's entry without what is tracked there -/
structure Mod (K : PySem.W.Frag) (mg : Str → Option Value) (base : Heap) : Prop where
  kin : K.In base
  glob : base.Ns mainGlobals mg
  blt : ∃ mb, base.Ns builtinsNs mb ∧ ∀ x : Str, x ≠ "__name__" → mb x = bootBuiltins x
  nolimit : base.NoLimit

/-- the context: a def's body (or a comprehension's block) running. base: fixed through the whole law; s₀, H₀: the entry; outer: the frames whose slots others may change (a def's callers); stack: all frames that run;
   ex: iterators that were made ahead of the entry and are walked here (a comprehension's); fn: the names whose cells were made at the entry (a def: all; a comprehension's block: its own); calm: not within an except suite; pn: pins that every state bears; xe: what is wanted of an exception that leaves the code -/
structure Cx where
  prog : Program
  w : World
  K : PySem.W.Frag
  mg : Str → Option Value
  base : Heap
  A : Around
  N : List Str
  s₀ : Shared
  H₀ : Hp
  env : Env
  outer : List Env
  stack : List Env
  ex : List Addr
  fn : Str → Bool
  calm : Bool
  pn : List (Addr × Obj)
  xe : Value → Shared → Prop
/-- the callers' frames -/
def frs (l : List Env) : List Addr := l.filterMap (·.frame)
abbrev Cx.fs (X : Cx) : List Addr := frs X.outer

def Vis (sc : Scope) (x : Str) : Prop := sc.names.lookup x = some .local ∨ sc.names.lookup x = some .cell ∨ sc.names.lookup x = some .free
def Loc (sc : Scope) (x : Str) : Prop := sc.names.lookup x = some .local ∨ sc.names.lookup x = some .cell
def Look (env : Env) (h : Heap) (m : Str → Option Value) (x : Str) (u : Value) : Prop :=
  (env.kindOf x = some .local ∧ m x = some u) ∨ ((env.kindOf x = some .cell ∨ env.kindOf x = some .free) ∧ ∃ c, env.cells.lookup x = some c ∧ h.IsCell c (some u))

structure Cx.Ok (X : Cx) : Prop where
  mod : Mod X.K X.mg X.base
  kind : X.env.scope.kind = .function
  glob : X.env.globals = mainGlobals
  blt : X.env.builtins = builtinsNs
  above : X.s₀.heap.objs.size ≤ X.env.locals
  inj : ∀ x y c, X.env.cells.lookup x = some c → X.env.cells.lookup y = some c → x = y
  has : ∀ x, (X.env.kindOf x = some .cell ∨ X.env.kindOf x = some .free) → ∃ c, X.env.cells.lookup x = some c
  cab : ∀ x c, X.fn x = true → X.env.cells.lookup x = some c → X.s₀.heap.objs.size ≤ c
  hd : X.calm = true → X.A.handled = none
  frames : X.A.frames = some X.stack
  stk : X.stack = X.outer ∨ (X.stack = X.env :: X.outer ∧ X.env.frame = some X.env.locals)
  exf : ∀ b ∈ X.ex, b ≠ X.env.locals ∧ ∀ x c, X.env.cells.lookup x = some c → c ≠ b
  bs : ∀ b o, X.base.get? b = some o → X.s₀.heap.get? b = some o ∧ X.H₀ b = none
  bsz : X.base.objs.size ≤ X.s₀.heap.objs.size
  noex : ∀ b o, X.base.get? b = some o → b ∉ X.ex
  exfs : ∀ b ∈ X.ex, b ∉ X.fs
  funs : X.s₀.heap.FunFrames X.base X.outer
  frf : ∀ b ∈ X.fs, X.H₀ b = none

structure Inv (X : Cx) (pins : List (Addr × Obj)) (σ : List (Option V)) (H : Hp) (s : Shared) : Prop where
  ok : X.Ok
  os : s.os = X.s₀.os
  bare : AllBare s.gens
  base : Un X.fs X.ex X.H₀ H X.s₀.heap s.heap
  loc : ∃ m, s.heap.Ns X.env.locals m ∧ ∀ (i : Nat) (x : Str) (v : V), X.N[i]? = some x → σ[i]? = some (some v) → Vis X.env.scope x → ∃ u, RelV v u ∧ Look X.env s.heap m x u
  cell : ∀ x c, X.env.cells.lookup x = some c → ∃ v, s.heap.IsCell c v
  free : H X.env.locals = none
  freeC : ∀ x c, X.env.cells.lookup x = some c → H c = none
  pin : ∀ p ∈ X.pn ++ pins, s.heap.get? p.1 = some p.2 ∧ H p.1 = none ∧ p.1 ≠ X.env.locals ∧ p.1 ∉ X.fs ∧ ∀ v, p.2.data ≠ .cell v
  hok : HOk X.prog X.w H s.heap
  len : σ.length = X.N.length

section
variable {X : Cx} {pins : List (Addr × Obj)} {σ : List (Option V)} {H H' : Hp} {s : Shared} {h' : Heap}

theorem Cx.Ok.nofr (ok : X.Ok) {b : Addr} {o : Obj} (e : X.base.get? b = some o) : b ∉ X.fs := fun hb => by
  have := (ok.funs.mem hb).1
  rw [e] at this; cases this
theorem Inv.bs (I : Inv X pins σ H s) : ∀ b o, X.base.get? b = some o → s.heap.get? b = some o ∧ H b = none := fun b o e =>
  ⟨I.base.keep b o (I.ok.bs b o e).1 (I.ok.bs b o e).2 (I.ok.nofr e) (I.ok.noex b o e), I.base.free b o (I.ok.bs b o e).1 (I.ok.bs b o e).2 (I.ok.noex b o e)⟩
theorem Inv.bk (I : Inv X pins σ H s) : ∀ b o, X.base.get? b = some o → s.heap.get? b = some o := fun b o e => (I.bs b o e).1
theorem Inv.mod (I : Inv X pins σ H s) : Mod X.K X.mg X.base := I.ok.mod
theorem Inv.kIn (I : Inv X pins σ H s) : X.K.In s.heap := I.ok.mod.kin.keeps I.bk
theorem Inv.nolimit (I : Inv X pins σ H s) : s.heap.NoLimit := I.ok.mod.nolimit.keeps I.bk
/-- the frame over the base: for OpenK's rules (K.In X.base is I.mod.kin) -/
theorem Inv.fr (I : Inv X pins σ H s) : ∃ m, Fr X.base X.env.locals s.heap m :=
  let ⟨m, hn, _⟩ := I.loc
  ⟨m, hn, I.bk, Nat.le_trans I.ok.bsz I.ok.above⟩
theorem Inv.lt (I : Inv X pins σ H s) : X.env.locals < s.heap.objs.size := let ⟨_, hn, _⟩ := I.loc; hn.lt
theorem Inv.sz (I : Inv X pins σ H s) : X.s₀.heap.objs.size ≤ s.heap.objs.size := Nat.le_trans I.ok.above (Nat.le_of_lt I.lt)
theorem Inv.nofs (I : Inv X pins σ H s) {a : Addr} (h : s.heap.objs.size ≤ a) : a ∉ X.fs := fun hb => by
  obtain ⟨_, o, ho, _⟩ := I.ok.funs.mem hb
  exact absurd (Nat.lt_of_lt_of_le (Heap.lt_size ho) (Nat.le_trans I.sz h)) (Nat.lt_irrefl _)
theorem Inv.cne (I : Inv X pins σ H s) : ∀ x c, X.env.cells.lookup x = some c → c ≠ X.env.locals := fun x c e z => by
  obtain ⟨v, o, ho, hd⟩ := I.cell x c e
  obtain ⟨m, ⟨o', es, ep, ho', hd', _⟩, _⟩ := I.loc
  rw [z, ho'] at ho; cases ho; rw [hd'] at hd; cases hd
theorem Inv.funs (I : Inv X pins σ H s) : s.heap.FunFrames X.base X.outer := by
  have all : ∀ (l : List Env), (∀ b ∈ frs l, b ∈ X.fs) → X.s₀.heap.FunFrames X.base l → s.heap.FunFrames X.base l := by
    intro l
    induction l with
    | nil => intro _ _; trivial
    | cons env r ih =>
      intro hs hl
      obtain ⟨hk, ⟨L, o, hf, hn, ho, hd⟩, hr⟩ := hl
      have hL : L ∈ X.fs := hs L (by unfold frs; rw [List.filterMap_cons, hf]; exact List.mem_cons_self)
      obtain ⟨sl, e⟩ := I.base.slot L o ho (I.ok.frf L hL) hL fun z => I.ok.exfs L z hL
      exact ⟨hk, ⟨L, _, hf, hn, e, hd⟩, ih (fun b hb => hs b (by unfold frs; rw [List.filterMap_cons, hf]; exact List.mem_cons_of_mem _ hb)) hr⟩
  exact all X.outer (fun _ hb => hb) I.ok.funs

/-- the frames that run, for a call -/
theorem Inv.stack (I : Inv X pins σ H s) : s.heap.FunFrames X.base X.stack := by
  rcases I.ok.stk with e | ⟨e, hf⟩
  · rw [e]; exact I.funs
  · rw [e]
    obtain ⟨m, hn, _⟩ := I.loc
    refine .cons (by rw [I.ok.kind]; decide) hf hn ?_ I.funs
    exact Heap.get?_none_of_le (Nat.le_trans I.ok.bsz I.ok.above)
theorem Inv.stkSub (I : Inv X pins σ H s) : ∀ b ∈ frs X.stack, b ∈ X.env.locals :: X.fs := fun b hb => by
  rcases I.ok.stk with e | ⟨e, hf⟩
  · rw [e] at hb; exact List.mem_cons_of_mem _ hb
  · rw [e] at hb
    unfold frs at hb
    rw [List.filterMap_cons, hf] at hb
    exact hb
theorem Inv.stkFree (I : Inv X pins σ H s) : ∀ b ∈ frs X.stack, H b = none := fun b hb => by
  rcases List.mem_cons.mp (I.stkSub b hb) with e | hb
  · rw [e]; exact I.free
  · obtain ⟨_, o, ho, _⟩ := I.ok.funs.mem hb
    exact I.base.free b o ho (I.ok.frf b hb) fun z => I.ok.exfs b z hb

/-- THE STEP: the untracked objects but the frame and the records at ch are kept (the callers' frames up to slots), the frame's map is kept, the new abstract heap is held -/
theorem Inv.step {g' : Array GenState} {t' : Nat} {d' : Drawn} {ch : List Addr} (I : Inv X pins σ H s)
    (hch : ∀ b ∈ ch, (b ∈ X.ex ∨ X.s₀.heap.objs.size ≤ b) ∧ b ≠ X.env.locals ∧ (∀ x c, X.env.cells.lookup x = some c → c ≠ b) ∧ ∀ p ∈ X.pn ++ pins, p.1 ≠ b)
    (keep : ∀ b o, b ≠ X.env.locals → b ∉ X.fs → b ∉ ch → s.heap.get? b = some o → H b = none → h'.get? b = some o)
    (slot : ∀ b o, b ≠ X.env.locals → b ∈ X.fs → b ∉ ch → s.heap.get? b = some o → H b = none → ∃ sl, h'.get? b = some { o with slots := sl }) (free : ∀ b o, b ∉ ch → s.heap.get? b = some o → H b = none → H' b = none)
    (there : ∀ b o, b ∉ ch → s.heap.get? b = some o → ∃ o', h'.get? b = some o')
    (tups : ∀ b xs, H b = some (.tup xs) → H' b = some (.tup xs)) (frzs : ∀ b o u, H b = some (.frz o u) → H' b = some (.frz o u)) (tbls : ∀ b ps, H b = some (.tbl ps) → ∃ more, H' b = some (.tbl (ps ++ more)))
    (ns : ∀ m, s.heap.Ns X.env.locals m → h'.Ns X.env.locals m) (hok : HOk X.prog X.w H' h') (hg : AllBare g') :
    Inv X pins σ H' { s with heap := h', gens := g', drawn := d', toks := t' } := by
  have neL : ∀ b o, X.s₀.heap.get? b = some o → b ≠ X.env.locals := fun b o e => Nat.ne_of_lt (Nat.lt_of_lt_of_le (Heap.lt_size e) I.ok.above)
  have neC : ∀ b o, X.s₀.heap.get? b = some o → b ∉ X.ex → b ∉ ch := fun b o e hx hb => by
    rcases (hch b hb).1 with z | z
    · exact hx z
    · exact absurd (Nat.lt_of_lt_of_le (Heap.lt_size e) z) (Nat.lt_irrefl _)
  have cellK : ∀ x c, X.env.cells.lookup x = some c → ∀ v, s.heap.IsCell c v → h'.IsCell c v := fun x c e v ⟨o, ho, hd⟩ => by
    have nch : c ∉ ch := fun z => (hch c z).2.2.1 x c e rfl
    by_cases hc : c ∈ X.fs
    · obtain ⟨sl, q⟩ := slot c o (I.cne x c e) hc nch ho (I.freeC x c e)
      exact ⟨_, q, hd⟩
    · exact ⟨o, keep c o (I.cne x c e) hc nch ho (I.freeC x c e), hd⟩
  refine ⟨I.ok, I.os, hg, ⟨fun b o e n hb hx => ?_, fun b o e n hb hx => ?_, fun b o e n hx => ?_, fun b o e hx => ?_, fun b xs e => tups b xs (I.base.tups b xs e), fun b o xs e => frzs b o xs (I.base.frzs b o xs e), fun b ps e => ?_⟩, ?_, fun x c e => ?_, ?_, fun x c e => ?_, fun p hp => ?_, hok, I.len⟩
  · exact keep b o (neL b o e) hb (neC b o e hx) (I.base.keep b o e n hb hx) (I.base.free b o e n hx)
  · obtain ⟨sl, e1⟩ := I.base.slot b o e n hb hx
    obtain ⟨sl', e2⟩ := slot b _ (neL b o e) hb (neC b o e hx) e1 (I.base.free b o e n hx)
    exact ⟨sl', e2⟩
  · obtain ⟨o', e1⟩ := I.base.there b o e hx
    exact free b o' (neC b o e hx) e1 (I.base.free b o e n hx)
  · obtain ⟨o', e1⟩ := I.base.there b o e hx
    exact there b o' (neC b o e hx) e1
  · obtain ⟨m1, e1⟩ := I.base.tbls b ps e
    obtain ⟨m2, e2⟩ := tbls b _ e1
    exact ⟨m1 ++ m2, by rw [e2, Array.append_assoc]⟩
  · obtain ⟨m, hn, hl⟩ := I.loc
    refine ⟨m, ns m hn, fun i x v e1 e2 e3 => ?_⟩
    obtain ⟨u, r, l⟩ := hl i x v e1 e2 e3
    refine ⟨u, r, ?_⟩
    rcases l with l | ⟨k, c, e, z⟩
    · exact .inl l
    · exact .inr ⟨k, c, e, cellK x c e _ z⟩
  · obtain ⟨v, z⟩ := I.cell x c e
    exact ⟨v, cellK x c e v z⟩
  · obtain ⟨m, ⟨o, _, _, ho, _⟩, _⟩ := I.loc
    exact free _ o (fun z => (hch _ z).2.1 rfl) ho I.free
  · obtain ⟨v, o, ho, hd⟩ := I.cell x c e
    exact free c o (fun z => (hch c z).2.2.1 x c e rfl) ho (I.freeC x c e)
  · obtain ⟨e, n, ne, nf, d⟩ := I.pin p hp
    have nch : p.1 ∉ ch := fun z => (hch p.1 z).2.2.2 p hp rfl
    exact ⟨keep p.1 p.2 ne nf nch e n, free p.1 p.2 nch e n, ne, nf, d⟩
/-- .. where the frame's own object is kept too -/
theorem Inv.un {t' : Nat} (I : Inv X pins σ H s) (u : Un X.fs [] H H' s.heap h') (hok : HOk X.prog X.w H' h') : Inv X pins σ H' { s with heap := h', toks := t' } := by
  obtain ⟨m, ⟨o, es, ep, ho, r⟩, _⟩ := id I.loc
  obtain ⟨sl, hL⟩ := u.any ho I.free (by simp)
  exact I.step (g' := s.gens) (d' := s.drawn) (ch := []) (fun _ z => nomatch z) (fun b o _ hb _ e n => u.keep b o e n hb (by simp)) (fun b o _ hb _ e n => u.slot b o e n hb (by simp)) (fun b o _ e n => u.free b o e n (by simp)) (fun b o _ e => u.there b o e (by simp)) u.tups u.frzs u.tbls (fun m' hm => by
    obtain ⟨o', es', ep', ho', r'⟩ := hm
    rw [ho] at ho'; cases ho'
    exact ⟨_, es', ep', hL, r'⟩) hok I.bare
/-- behind a call (or a comprehension's block): the slots of this frame may have changed too, the records at ch may have turned -/
theorem Inv.call {g' : Array GenState} {t' : Nat} {d' : Drawn} {ch : List Addr} (I : Inv X pins σ H s) (u : Un (frs X.stack) ch H H' s.heap h') (hok : HOk X.prog X.w H' h') (hg : AllBare g')
    (hch : ∀ b ∈ ch, (b ∈ X.ex ∨ X.s₀.heap.objs.size ≤ b) ∧ b ≠ X.env.locals ∧ (∀ x c, X.env.cells.lookup x = some c → c ≠ b) ∧ ∀ p ∈ X.pn ++ pins, p.1 ≠ b) :
    Inv X pins σ H' { s with heap := h', gens := g', drawn := d', toks := t' } := by
  obtain ⟨m, ⟨o, es, ep, ho, r⟩, _⟩ := id I.loc
  obtain ⟨sl, hL⟩ := u.any ho I.free fun z => (hch _ z).2.1 rfl
  exact I.step (ch := ch) hch (fun b o hL hb hc e n => u.keep b o e n (fun z => (List.mem_cons.mp (I.stkSub b z)).elim hL hb) hc) (fun b o _ _ hc e n => u.any e n hc) (fun b o hc e n => u.free b o e n hc) (fun b o hc e => u.there b o e hc) u.tups u.frzs u.tbls (fun m' hm => by
    obtain ⟨o', es', ep', ho', r'⟩ := hm
    rw [ho] at ho'; cases ho'
    exact ⟨_, es', ep', hL, r'⟩) hok hg
/-- an untracked record of ours (an iterator) has turned -/
theorem Inv.turned {t' : Nat} {it : Addr} (I : Inv X pins σ H s) (k : ∀ b o, b ≠ it → s.heap.get? b = some o → h'.get? b = some o) (hn : H it = none) (hL : it ≠ X.env.locals)
    (h1 : it ∈ X.ex ∨ X.s₀.heap.objs.size ≤ it) (h2 : ∀ x c, X.env.cells.lookup x = some c → c ≠ it) (h3 : ∀ p ∈ X.pn ++ pins, p.1 ≠ it) : Inv X pins σ H { s with heap := h', toks := t' } := by
  have nit : ∀ b u, H b = some u → b ≠ it := fun b u e z => by rw [z, hn] at e; cases e
  refine I.step (g' := s.gens) (d' := s.drawn) (ch := [it]) (fun b hb => ?_) (fun b o _ _ hc e _ => k b o (fun z => hc (by simp [z])) e) (fun b o _ _ hc e _ => ⟨o.slots, k b o (fun z => hc (by simp [z])) e⟩) (fun _ _ _ _ n => n)
    (fun b o hc e => ⟨o, k b o (fun z => hc (by simp [z])) e⟩) (fun _ _ e => e) (fun _ _ _ e => e) (fun b ps e => ⟨#[], by rw [e]; simp⟩) (fun m hm => ?_) (fun b u e => ?_) I.bare
  · have e : b = it := by simpa using hb
    subst e
    exact ⟨h1, hL, h2, h3⟩
  · obtain ⟨o, es, ep, ho, r⟩ := hm
    exact ⟨o, es, ep, k _ o (Ne.symm hL) ho, r⟩
  · refine (I.hok b u e).stay (fun c v hc q => k c v ?_ q) (fun _ q => q) fun _ _ q => q
    rcases hc with z | z
    · rw [z]; exact nit b u e
    · exact nit c _ z
theorem Inv.tok (I : Inv X pins σ H s) (t : Nat) : Inv X pins σ H { s with toks := t } := I.un (h' := s.heap) (t' := t) Un.refl I.hok
/-- all objects kept -/
theorem Inv.kept {t' : Nat} (I : Inv X pins σ H s) (k : ∀ b u, s.heap.get? b = some u → h'.get? b = some u) : Inv X pins σ H { s with heap := h', toks := t' } := I.un (Un.kept k) (I.hok.kept k)
/-- a new object laid and tracked -/
theorem Inv.laid {a : Addr} {o : HO} {t' : Nat} (I : Inv X pins σ H s) (k : ∀ b u, s.heap.get? b = some u → h'.get? b = some u) (hp : s.heap.objs.size ≤ a) (new : ObjOk X.prog X.w (upd H a o) h' a o) :
    Inv X pins σ (upd H a o) { s with heap := h', toks := t' } := I.un (Un.laid k hp (I.hok.fresh hp)) (I.hok.laid k hp new)
/-- an object written -/
theorem Inv.write {x e : Addr} {o : HO} {t' : Nat} (I : Inv X pins σ H s) (mu : Mut (H x)) (he : e = x ∨ H e = some (.own x)) (k : ∀ b u, b ≠ e → s.heap.get? b = some u → h'.get? b = some u) (heo : ∃ u, h'.get? e = some u)
    (new : ObjOk X.prog X.w (upd H x o) h' x o) : Inv X pins σ (upd H x o) { s with heap := h', toks := t' } := I.un (Un.write mu he k heo) (I.hok.write mu he k heo new)
/-- forgetting slots, pins -/
theorem Inv.weak {σ' : List (Option V)} (I : Inv X pins σ H s) (hl : σ'.length = σ.length) (w : ∀ (i : Nat) v, σ'[i]? = some (some v) → σ[i]? = some (some v)) : Inv X pins σ' H s :=
  ⟨I.ok, I.os, I.bare, I.base, let ⟨m, hn, hl'⟩ := I.loc; ⟨m, hn, fun i x v e1 e2 e3 => hl' i x v e1 (w i v e2) e3⟩, I.cell, I.free, I.freeC, I.pin, I.hok, hl.trans I.len⟩
theorem Inv.pins_of {pins' : List (Addr × Obj)} (I : Inv X pins σ H s) (h : ∀ p ∈ pins', s.heap.get? p.1 = some p.2 ∧ H p.1 = none ∧ p.1 ≠ X.env.locals ∧ p.1 ∉ X.fs ∧ ∀ v, p.2.data ≠ .cell v) : Inv X pins' σ H s :=
  ⟨I.ok, I.os, I.bare, I.base, I.loc, I.cell, I.free, I.freeC, fun p hp => (List.mem_append.mp hp).elim (fun z => I.pin p (List.mem_append_left _ z)) (h p), I.hok, I.len⟩

theorem nodup_ix {N : List Str} (hN : N.Nodup) {i j : Nat} {x : Str} (a : N[i]? = some x) (b : N[j]? = some x) : i = j := by
  obtain ⟨h1, e1⟩ := List.getElem?_eq_some_iff.mp a
  obtain ⟨h2, e2⟩ := List.getElem?_eq_some_iff.mp b
  exact (List.getElem_inj hN).mp (e1.trans e2.symm)

/-- a name is stored; what changed -/
theorem store_ok2 {M : Model} {A : Around} {E : Value → Shared → Prop} {i : Nat} {x : Str} {v : V} {u : Value} {Q : Unit → Shared → Prop} (I : Inv X pins σ H s) (hN : X.N.Nodup) (hi : X.N[i]? = some x) (hx : Loc X.env.scope x) (r : RelV v u)
    (h : ∀ s', Inv X pins (σ.set i (some v)) H s' → (∃ a, Heap.SameBut a s.heap s'.heap ∧ (a = X.env.locals ∨ X.env.cells.lookup x = some a)) → Q () s') (hf : X.fn x = true ∨ X.env.scope.names.lookup x = some .local := by first | exact .inl rfl | exact .inr rfl | assumption) : wpAny M A (storeName X.env x u) Q E s := by
  obtain ⟨m, hn, hl⟩ := id I.loc
  have hcls : (X.env.scope.kind == .class || (X.env.scope.kind == .module && X.env.locals != X.env.globals)) = false := by rw [I.ok.kind]; rfl
  have hiσ : i < σ.length := by rw [I.len]; exact (List.getElem?_eq_some_iff.mp hi).1
  have cne := I.cne
  have tracked : ∀ {a : Addr} {h' : Heap}, (∃ o, s.heap.get? a = some o ∧ H a = none) → Heap.SameBut a s.heap h' → HOk X.prog X.w H h' := fun {a h'} ha hs b ob e => by
    obtain ⟨_, _, hfree⟩ := ha
    refine (I.hok b ob e).stay (fun c w' hc q => (hs.2 c ?_).trans q) (fun _ q => q) fun _ _ q => q
    rintro rfl
    rcases hc with rfl | hc
    · rw [hfree] at e; cases e
    · rw [hfree] at hc; cases hc
  rcases hx with hk | hk
  · refine wpAny_storeName_local hk hn (fun h' hn' hs => ?_) hcls
    obtain ⟨oL, _, _, hoL, _⟩ := id hn
    refine h _ ⟨I.ok, I.os, I.bare, ⟨fun b o e n hb hx => ?_, fun b o e n hb hx => ?_, I.base.free, fun b o e hx => ?_, I.base.tups, I.base.frzs, I.base.tbls⟩, ⟨_, hn', fun j y v' e1 e2 e3 => ?_⟩, fun y c e => ?_, I.free, I.freeC, fun p hp => ?_, tracked ⟨oL, hoL, I.free⟩ hs, by simpa using I.len⟩ ⟨_, hs, .inl rfl⟩
    · exact (hs.2 b (Nat.ne_of_lt (Nat.lt_of_lt_of_le (Heap.lt_size e) I.ok.above))).trans (I.base.keep b o e n hb hx)
    · obtain ⟨sl, e1⟩ := I.base.slot b o e n hb hx
      exact ⟨sl, (hs.2 b (Nat.ne_of_lt (Nat.lt_of_lt_of_le (Heap.lt_size e) I.ok.above))).trans e1⟩
    · obtain ⟨o', e1⟩ := I.base.there b o e hx
      exact ⟨o', (hs.2 b (Nat.ne_of_lt (Nat.lt_of_lt_of_le (Heap.lt_size e) I.ok.above))).trans e1⟩
    · by_cases hj : j = i
      · subst hj
        rw [hi] at e1; cases e1
        rw [List.getElem?_set_self hiσ] at e2
        cases e2
        exact ⟨u, r, .inl ⟨hk, by simp⟩⟩
      · rw [List.getElem?_set_ne (Ne.symm hj)] at e2
        obtain ⟨u', r', q⟩ := hl j y v' e1 e2 e3
        refine ⟨u', r', ?_⟩
        rcases q with ⟨k, e⟩ | ⟨k, c, e, z⟩
        · refine .inl ⟨k, ?_⟩
          have : y ≠ x := fun e => hj (nodup_ix hN e1 (e ▸ hi))
          simp [this, e]
        · exact .inr ⟨k, c, e, z.sameBut hs (cne y c e)⟩
    · obtain ⟨w', z⟩ := I.cell y c e
      exact ⟨w', z.sameBut hs (cne y c e)⟩
    · obtain ⟨e, n, ne, nf, d⟩ := I.pin p hp
      exact ⟨(hs.2 p.1 ne).trans e, n, ne, nf, d⟩
  · have hfn : X.fn x = true := by
      rcases hf with z | z
      · exact z
      · rw [z] at hk; cases hk
    obtain ⟨c, hc⟩ := I.ok.has x (.inl hk)
    obtain ⟨w', z⟩ := I.cell x c hc
    refine wpAny_storeName_cell I.ok.kind hk hc z (fun h' hc' hs => ?_)
    obtain ⟨oc, hoc, hocd⟩ := id z
    refine h { s with heap := h' } ⟨I.ok, I.os, I.bare, ⟨fun b o e n hb hx => ?_, fun b o e n hb hx => ?_, I.base.free, fun b o e hx => ?_, I.base.tups, I.base.frzs, I.base.tbls⟩, ⟨m, hn.sameBut hs (Ne.symm (cne x c hc)), fun j y v' e1 e2 e3 => ?_⟩, fun y c' e => ?_, I.free, I.freeC, fun p hp => ?_, tracked ⟨oc, hoc, I.freeC x c hc⟩ hs, by simpa using I.len⟩ ⟨c, hs, .inr hc⟩
    · exact (hs.2 b (Nat.ne_of_lt (Nat.lt_of_lt_of_le (Heap.lt_size e) (I.ok.cab x c hfn hc)))).trans (I.base.keep b o e n hb hx)
    · obtain ⟨sl, e1⟩ := I.base.slot b o e n hb hx
      exact ⟨sl, (hs.2 b (Nat.ne_of_lt (Nat.lt_of_lt_of_le (Heap.lt_size e) (I.ok.cab x c hfn hc)))).trans e1⟩
    · obtain ⟨o', e1⟩ := I.base.there b o e hx
      exact ⟨o', (hs.2 b (Nat.ne_of_lt (Nat.lt_of_lt_of_le (Heap.lt_size e) (I.ok.cab x c hfn hc)))).trans e1⟩
    · by_cases hj : j = i
      · subst hj
        rw [hi] at e1; cases e1
        rw [List.getElem?_set_self hiσ] at e2
        cases e2
        exact ⟨u, r, .inr ⟨.inl hk, c, hc, hc'⟩⟩
      · rw [List.getElem?_set_ne (Ne.symm hj)] at e2
        obtain ⟨u', r', q⟩ := hl j y v' e1 e2 e3
        refine ⟨u', r', ?_⟩
        rcases q with q | ⟨k, c', e, z'⟩
        · exact .inl q
        · refine .inr ⟨k, c', e, z'.sameBut hs ?_⟩
          rintro rfl
          exact hj (nodup_ix hN e1 (I.ok.inj _ _ _ e hc ▸ hi))
    · by_cases hcc : c' = c
      · subst hcc; exact ⟨_, hc'⟩
      · obtain ⟨w2, z2⟩ := I.cell y c' e
        exact ⟨w2, z2.sameBut hs hcc⟩
    · obtain ⟨e, n, ne, nf, d⟩ := I.pin p hp
      refine ⟨(hs.2 p.1 ?_).trans e, n, ne, nf, d⟩
      intro q
      rw [q, hoc] at e
      have q' : oc = p.2 := Option.some.inj e
      exact d w' (by rw [← q']; exact hocd)
theorem store_ok {M : Model} {A : Around} {E : Value → Shared → Prop} {i : Nat} {x : Str} {v : V} {u : Value} {Q : Unit → Shared → Prop} (I : Inv X pins σ H s) (hN : X.N.Nodup) (hi : X.N[i]? = some x) (hx : Loc X.env.scope x) (r : RelV v u)
    (h : ∀ s', Inv X pins (σ.set i (some v)) H s' → Q () s') (hf : X.fn x = true ∨ X.env.scope.names.lookup x = some .local := by first | exact .inl rfl | exact .inr rfl | assumption) : wpAny M A (storeName X.env x u) Q E s :=
  store_ok2 I hN hi hx r (fun s' I' _ => h s' I') hf
/-- behind a call or a block, the state as it is -/
theorem Inv.call' {s' : Shared} {ch : List Addr} (I : Inv X pins σ H s) (ho : s'.os = s.os) (u : Un (frs X.stack) ch H H' s.heap s'.heap) (hok : HOk X.prog X.w H' s'.heap) (hg : AllBare s'.gens)
    (hch : ∀ b ∈ ch, (b ∈ X.ex ∨ X.s₀.heap.objs.size ≤ b) ∧ b ≠ X.env.locals ∧ (∀ x c, X.env.cells.lookup x = some c → c ≠ b) ∧ ∀ p ∈ X.pn ++ pins, p.1 ≠ b) : Inv X pins σ H' s' := by
  obtain ⟨h', g', d', t', o'⟩ := s'
  have e : o' = s.os := ho
  subst e
  exact I.call (g' := g') (t' := t') (d' := d') u hok hg hch
end

/-! ### the judgements -/
/-- an exception: its class, its own dict's address (where it has one), the abstract heap behind it -/
abbrev XK := Value → Option Addr → Hp → Prop
abbrev St := List (Option V)
abbrev VK := V → Hp → Prop
/-- an expression's reading; a test's; an argument list's -/
abbrev TE := St → Hp → VK → Prop
abbrev TT := St → Hp → (Bool → Hp → Prop) → Prop
abbrev TA := St → Hp → (List V → Hp → Prop) → Prop
/-- what is wanted behind a statement -/
structure Ends where
  nx : St → Hp → Prop
  rt : VK
  bk : St → Hp → Prop := fun _ _ => False
  ct : St → Hp → Prop := fun _ _ => False
abbrev TS := Ends → St → Hp → Prop

def EP (X : Cx) (pins : List (Addr × Obj)) (σ : St) (Q : VK) (u : Value) (s' : Shared) : Prop := ∃ v H', Inv X pins σ H' s' ∧ RelV v u ∧ Q v H'
def TP (X : Cx) (pins : List (Addr × Obj)) (σ : St) (Q : Bool → Hp → Prop) (b : Bool) (s' : Shared) : Prop := ∃ H', Inv X pins σ H' s' ∧ Q b H'
def AP (X : Cx) (pins : List (Addr × Obj)) (σ : St) (Q : List V → Hp → Prop) (us : List Value) (s' : Shared) : Prop := ∃ vs H', Inv X pins σ H' s' ∧ Vals vs us ∧ Q vs H'
def SP (X : Cx) (pins : List (Addr × Obj)) (D : Ends) (f : Flow) (s' : Shared) : Prop :=
  match f with
  | .next => ∃ σ' H', Inv X pins σ' H' s' ∧ D.nx σ' H'
  | .brk => ∃ σ' H', Inv X pins σ' H' s' ∧ D.bk σ' H'
  | .cont => ∃ σ' H', Inv X pins σ' H' s' ∧ D.ct σ' H'
  | .ret u => ∃ v σ' H', Inv X pins σ' H' s' ∧ RelV v u ∧ D.rt v H'

def PE (X : Cx) (e : Expr) (t : TE) : Prop :=
  ∀ (pins : List (Addr × Obj)) (s : Shared) (σ : St) (H : Hp) (Q : VK), Inv X pins σ H s → t σ H Q → wpAny (model X.prog X.w) X.A (eval e X.env) (EP X pins σ Q) X.xe s
def PT (X : Cx) (e : Expr) (t : TT) : Prop :=
  ∀ (pins : List (Addr × Obj)) (s : Shared) (σ : St) (H : Hp) (Q : Bool → Hp → Prop), Inv X pins σ H s → t σ H Q → wpAny (model X.prog X.w) X.A (isTrue e X.env (eval e X.env)) (TP X pins σ Q) X.xe s
/-- a test whatever its 'whole' is (and, or) -/
def PW (X : Cx) (e : Expr) (t : TT) : Prop :=
  ∀ (whole : Sem Value) (pins : List (Addr × Obj)) (s : Shared) (σ : St) (H : Hp) (Q : Bool → Hp → Prop), Inv X pins σ H s → t σ H Q → wpAny (model X.prog X.w) X.A (isTrue e X.env whole) (TP X pins σ Q) X.xe s
theorem PW.pt {X : Cx} {e : Expr} {t : TT} (h : PW X e t) : PT X e t := h _
/-- an argument list (no star), from the left -/
def PA (X : Cx) (es : List Expr) (t : TA) : Prop :=
  ∀ (pos : Pos) (pins : List (Addr × Obj)) (s : Shared) (σ : St) (H : Hp) (Q : List V → Hp → Prop), Inv X pins σ H s → t σ H Q → wpAny (model X.prog X.w) X.A (spliced (backTo pos (starEach es X.env))) (AP X pins σ Q) X.xe s
def PS (X : Cx) (st : Stmt) (t : TS) : Prop :=
  ∀ (pins : List (Addr × Obj)) (s : Shared) (σ : St) (H : Hp) (D : Ends), Inv X pins σ H s → t D σ H → wpAny (model X.prog X.w) X.A (exec st X.env) (SP X pins D) X.xe s
def PSs (X : Cx) (st : List Stmt) (t : TS) : Prop :=
  ∀ (pins : List (Addr × Obj)) (s : Shared) (σ : St) (H : Hp) (D : Ends), Inv X pins σ H s → t D σ H → wpAny (model X.prog X.w) X.A (execs st X.env) (SP X pins D) X.xe s
/-- weaken the end -/
theorem thn {α : Type} {t : Sem α} {Q Q' : α → Shared → Prop} {M : Model} {A : Around} {E : Value → Shared → Prop} {s : Shared} (h : wpAny M A t Q E s) (hQ : ∀ a s, Q a s → Q' a s) : wpAny M A t Q' E s := wpAny_mono h hQ fun _ _ x => x
end L2

namespace L2
open PySem PySem.Spec PyProof.Rows
section
variable {X : Cx}

/-- two expressions in a row -/
theorem bin {a b : Expr} {ta tb : TE} (ha : PE X a ta) (hb : PE X b tb) {pins : List (Addr × Obj)} {s : Shared} {σ : St} {H : Hp} {R : V → V → Hp → Prop} (I : Inv X pins σ H s) (h : ta σ H fun x H1 => tb σ H1 fun y H2 => R x y H2)
    {α : Type} {Q : α → Shared → Prop} {f : Value → Value → Sem α}
    (hf : ∀ v u s2 x y H2, Inv X pins σ H2 s2 → RelV x v → RelV y u → R x y H2 → wpAny (model X.prog X.w) X.A (f v u) Q X.xe s2) :
    wpAny (model X.prog X.w) X.A (eval a X.env) (fun v s₁ => wpAny (model X.prog X.w) X.A (eval b X.env) (fun u s₂ => wpAny (model X.prog X.w) X.A (f v u) Q X.xe s₂) X.xe s₁) X.xe s := by
  refine thn (ha pins s σ H _ I h) fun v s1 ⟨x, H1, I1, r1, q1⟩ => ?_
  refine thn (hb pins s1 σ H1 _ I1 q1) fun u s2 ⟨y, H2, I2, r2, q2⟩ => ?_
  exact hf v u s2 x y H2 I2 r1 r2 q2

/-! ### names and constants -/
def tVar (i : Nat) : TE := fun σ H Q => ∃ v, σ[i]? = some (some v) ∧ Q v H
def tC (v : V) : TE := fun _ H Q => Q v H
theorem pe_var {i : Nat} {x : Str} {pos : Pos} (hN : X.N[i]? = some x) (hv : Vis X.env.scope x) (hd : (x == ("__debug__" : Str)) = false := by decide) (hcd : (x == ("__classdict__" : Str)) = false := by decide) : PE X (.Name x pos) (tVar i) := by
  intro pins s σ H Q I h
  obtain ⟨v, e, h⟩ := h
  obtain ⟨m, hn, hl⟩ := I.loc
  obtain ⟨u, r, l⟩ := hl i x v hN e hv
  have fin : EP X pins σ Q u s := ⟨v, H, I, r, h⟩
  rcases l with ⟨hk, hm⟩ | ⟨hk, c, hc, hcell⟩
  · exact wpAny_Name (wpAny_loadName_local I.ok.kind hk hn hm fin) hd
  · rcases hk with hk | hk
    · exact wpAny_Name (wpAny_loadName_cell I.ok.kind hk hc hcell fin) hd
    · exact wpAny_Name (wpAny_loadName_free I.ok.kind hk hc hcell fin hcd) hd
theorem pe_int {i j pos} : PE X (.Constant (.int i) j pos) (tC (.int i)) := fun _ _ _ H _ I h => wpAny_Constant_int ⟨.int i, H, I.tok _, ⟨_, rfl⟩, h⟩
theorem pe_bl {b j pos} : PE X (.Constant (.bool b) j pos) (tC (.bl b)) := fun _ _ _ H _ I h => Constant_bool ⟨.bl b, H, I, rfl, h⟩
theorem pe_non {j pos} : PE X (.Constant .none j pos) (tC .non) := fun _ _ _ H _ I h => Constant_none ⟨.non, H, I, rfl, h⟩
theorem pe_str {x j pos} : PE X (.Constant (.str x) j pos) (tC (.str x)) := fun _ _ _ H _ I h => Calls.Constant_str ⟨.str x, H, I.tok _, ⟨_, rfl⟩, h⟩

/-- a global name of the def -/
def Gl (X : Cx) (x : Str) : Prop := X.env.kindOf x = some .globalImplicit
theorem ld_glob {E : Value → Shared → Prop} {pins : List (Addr × Obj)} {s : Shared} {σ : St} {H : Hp} {x : Str} {u : Value} {pos : Pos} {Q : Value → Shared → Prop} (I : Inv X pins σ H s) (hg : Gl X x) (hm : X.mg x = some u) (h : Q u s)
    (hd : (x == ("__debug__" : Str)) = false := by decide) : wpAny (model X.prog X.w) X.A (eval (.Name x pos) X.env) Q E s :=
  Calls.Name_function_global I.ok.kind hg (Calls.loadGlobal_global (by rw [I.ok.glob]; exact I.mod.glob.keeps I.bk) hm h) hd
theorem ld_blt {E : Value → Shared → Prop} {pins : List (Addr × Obj)} {s : Shared} {σ : St} {H : Hp} {x : Str} {u : Value} {pos : Pos} {Q : Value → Shared → Prop} (I : Inv X pins σ H s) (hg : Gl X x) (hm : X.mg x = none) (hv : bootBuiltins x = some u) (h : Q u s)
    (hn : x ≠ "__name__" := by decide) (hd : (x == ("__debug__" : Str)) = false := by decide) : wpAny (model X.prog X.w) X.A (eval (.Name x pos) X.env) Q E s := by
  obtain ⟨mb, h1, h2⟩ := I.mod.blt
  exact Calls.Name_function_global I.ok.kind hg (Calls.loadGlobal_builtin (by rw [I.ok.glob]; exact I.mod.glob.keeps I.bk) hm (by rw [I.ok.blt]; exact h1.keeps I.bk) ((h2 x hn).trans hv) h) hd
/-- a module's constant, a class, a function, as a value -/
theorem pe_glob {x : Str} {v : V} {u : Value} {pos : Pos} (hg : Gl X x) (hm : X.mg x = some u) (r : RelV v u) (hd : (x == ("__debug__" : Str)) = false := by decide) : PE X (.Name x pos) (tC v) :=
  fun _ _ _ H _ I h => ld_glob I hg hm ⟨v, H, I, r, h⟩ hd
theorem pe_bltn {x : Str} {v : V} {u : Value} {pos : Pos} (hg : Gl X x) (hm : X.mg x = none) (hv : bootBuiltins x = some u) (r : RelV v u) (hn : x ≠ "__name__" := by decide) (hd : (x == ("__debug__" : Str)) = false := by decide) : PE X (.Name x pos) (tC v) :=
  fun _ _ _ H _ I h => ld_blt I hg hm hv ⟨v, H, I, r, h⟩ hn hd

/-! ### arithmetic -/
/-- two ints -/
def t2I (ta tb : TE) (k : Int → Int → Hp → Prop) : St → Hp → Prop := fun σ H => ta σ H fun x H1 => tb σ H1 fun y H2 => ∃ i j, x = .int i ∧ y = .int j ∧ k i j H2
def tAdd (ta tb : TE) : TE := fun σ H Q => t2I ta tb (fun i j H2 => Q (.int (i + j)) H2) σ H
def tSub (ta tb : TE) : TE := fun σ H Q => t2I ta tb (fun i j H2 => Q (.int (i - j)) H2) σ H
/-- the left factor below 2^64 -/
def tMul (ta tb : TE) : TE := fun σ H Q => t2I ta tb (fun i j H2 => (-(2 ^ 64) < i ∧ i < 2 ^ 64) ∧ Q (.int (i * j)) H2) σ H
variable {a b : Expr} {ta tb : TE} {pos : Pos}
theorem pe_add (ha : PE X a ta) (hb : PE X b tb) : PE X (.BinOp a .Add b pos) (tAdd ta tb) := by
  intro pins s σ H Q I h
  refine wpAny_BinOp (bin ha hb I h fun v u s2 x y H2 I2 rx ry q => ?_)
  obtain ⟨i, j, rfl, rfl, q⟩ := q
  obtain ⟨t, rfl⟩ := rx
  obtain ⟨t', rfl⟩ := ry
  exact add_int ⟨.int _, H2, I2.tok _, ⟨_, rfl⟩, q⟩
theorem pe_sub (ha : PE X a ta) (hb : PE X b tb) : PE X (.BinOp a .Sub b pos) (tSub ta tb) := by
  intro pins s σ H Q I h
  refine wpAny_BinOp (bin ha hb I h fun v u s2 x y H2 I2 rx ry q => ?_)
  obtain ⟨i, j, rfl, rfl, q⟩ := q
  obtain ⟨t, rfl⟩ := rx
  obtain ⟨t', rfl⟩ := ry
  exact sub_int ⟨.int _, H2, I2.tok _, ⟨_, rfl⟩, q⟩
theorem pe_mul (ha : PE X a ta) (hb : PE X b tb) : PE X (.BinOp a .Mult b pos) (tMul ta tb) := by
  intro pins s σ H Q I h
  refine wpAny_BinOp (bin ha hb I h fun v u s2 x y H2 I2 rx ry q => ?_)
  obtain ⟨i, j, rfl, rfl, ⟨q1, q2⟩, q⟩ := q
  obtain ⟨t, rfl⟩ := rx
  obtain ⟨t', rfl⟩ := ry
  exact mul_int ⟨.int _, H2, I2.tok _, ⟨_, rfl⟩, q⟩ (.of_left (intBits_le_64 q1 q2))

/-! ### comparisons -/
def PC (X : Cx) (op : CmpOp) (a b : Expr) (t : TE) : Prop :=
  ∀ (pins : List (Addr × Obj)) (s : Shared) (σ : St) (H : Hp) (Q : VK), Inv X pins σ H s → t σ H Q →
    wpAny (model X.prog X.w) X.A (eval a X.env) (fun v s₁ => wpAny (model X.prog X.w) X.A (eval b X.env) (fun u s₂ => wpAny (model X.prog X.w) X.A (compareOp op v u) (EP X pins σ Q) X.xe s₂) X.xe s₁) X.xe s
theorem nobehind (b : Expr) {op : CmpOp} (h : op ≠ .In) (h2 : op ≠ .NotIn) : behindInMarks op b = false := by
  have e1 : (op == CmpOp.In) = false := by cases op <;> first | rfl | exact absurd rfl h
  have e2 : (op == CmpOp.NotIn) = false := by cases op <;> first | rfl | exact absurd rfl h2
  cases b <;> simp [behindInMarks, e1, e2]
def tCmp (p : Int → Int → Bool) (ta tb : TE) : TE := fun σ H Q => t2I ta tb (fun i j H2 => Q (.bl (p i j)) H2) σ H
abbrev tLt : TE → TE → TE := tCmp fun i j => decide (i < j)
abbrev tLe : TE → TE → TE := tCmp fun i j => decide (i ≤ j)
abbrev tGt : TE → TE → TE := tCmp fun i j => decide (j < i)
abbrev tGe : TE → TE → TE := tCmp fun i j => decide (j ≤ i)
abbrev tEqI : TE → TE → TE := tCmp fun i j => decide (i = j)
abbrev tNeI : TE → TE → TE := tCmp fun i j => !decide (i = j)
/-- a comparison of two ints, by its rule -/
theorem pc_int {op : CmpOp} {p : Int → Int → Bool} (ha : PE X a ta) (hb : PE X b tb)
    (rule : ∀ (i j : Int) (t u : Tok) (Q : Value → Shared → Prop) (s : Shared), Q (.bool (p i j)) s → wpAny (model X.prog X.w) X.A (compareOp op (.int i t) (.int j u)) Q X.xe s) : PC X op a b (tCmp p ta tb) := by
  intro pins s σ H Q I h
  refine bin ha hb I h fun v u s2 x y H2 I2 rx ry q => ?_
  obtain ⟨i, j, rfl, rfl, q⟩ := q
  obtain ⟨t, rfl⟩ := rx
  obtain ⟨t', rfl⟩ := ry
  exact rule i j t t' _ s2 ⟨.bl _, H2, I2, rfl, q⟩
theorem pc_lt (ha : PE X a ta) (hb : PE X b tb) : PC X .Lt a b (tLt ta tb) := pc_int ha hb fun _ _ _ _ _ _ h => lt_int h
theorem pc_le (ha : PE X a ta) (hb : PE X b tb) : PC X .LtE a b (tLe ta tb) := pc_int ha hb fun _ _ _ _ _ _ h => le_int h
theorem pc_gt (ha : PE X a ta) (hb : PE X b tb) : PC X .Gt a b (tGt ta tb) := pc_int ha hb fun _ _ _ _ _ _ h => gt_int h
theorem pc_ge (ha : PE X a ta) (hb : PE X b tb) : PC X .GtE a b (tGe ta tb) := pc_int ha hb fun _ _ _ _ _ _ h => ge_int h
theorem pc_eqI (ha : PE X a ta) (hb : PE X b tb) : PC X .Eq a b (tEqI ta tb) := pc_int ha hb fun _ _ _ _ _ _ h => eq_int (by rw [Bool.beq_eq_decide_eq]; exact h)
theorem pc_neI (ha : PE X a ta) (hb : PE X b tb) : PC X .NotEq a b (tNeI ta tb) := pc_int ha hb fun _ _ _ _ _ _ h => ne_int (by rw [bne, Bool.beq_eq_decide_eq]; exact h)
/-- is None -/
def tIsN (ta : TE) : TE := fun σ H Q => ta σ H fun x H1 => Q (.bl (decide (x = .non))) H1
def tNotN (ta : TE) : TE := fun σ H Q => ta σ H fun x H1 => Q (.bl (!decide (x = .non))) H1
theorem RelV.none_iff {x : V} {v : Value} (r : RelV x v) : (v == Value.none) = decide (x = .non) := by
  cases x with
  | non => cases r; rfl
  | bl _ => cases r; rfl
  | int _ => obtain ⟨t, rfl⟩ := r; rfl
  | str _ => obtain ⟨t, rfl⟩ := r; rfl
  | byt _ => obtain ⟨t, rfl⟩ := r; rfl
  | flt _ => obtain ⟨t, rfl⟩ := r; rfl
  | ref _ => cases r; rfl
  | ty _ => cases r; rfl
theorem pc_isN {j pos'} (ha : PE X a ta) : PC X .Is a (.Constant .none j pos') (tIsN ta) := by
  intro pins s σ H Q I h
  refine thn (ha pins s σ H _ I h) fun v s1 ⟨x, H1, I1, r1, q1⟩ => ?_
  exact Constant_none (is_none_gen ⟨.bl _, H1, I1, by rw [r1.none_iff]; rfl, q1⟩)
theorem pc_notN {j pos'} (ha : PE X a ta) : PC X .IsNot a (.Constant .none j pos') (tNotN ta) := by
  intro pins s σ H Q I h
  refine thn (ha pins s σ H _ I h) fun v s1 ⟨x, H1, I1, r1, q1⟩ => ?_
  exact Constant_none (isnot_none_gen ⟨.bl _, H1, I1, by rw [r1.none_iff]; rfl, q1⟩)
/-- a comparison as a value, as a test -/
def tB (t : TE) : TT := fun σ H Q => t σ H fun x H1 => ∃ c, x = .bl c ∧ Q c H1
theorem pe_cmp {op : CmpOp} {t : TE} (h : PC X op a b t) (h1 : behindInMarks op b = false := by first | exact nobehind _ (by decide) (by decide) | rfl) : PE X (.Compare a [op] [b] pos) t := fun pins s σ H Q I hw => wpAny_Compare1 (h pins s σ H Q I hw) h1
theorem pt_cmp {op : CmpOp} {t : TE} (h : PC X op a b t) (h1 : behindInMarks op b = false := by first | exact nobehind _ (by decide) (by decide) | rfl) : PT X (.Compare a [op] [b] pos) (tB t) := by
  intro pins s σ H Q I hw
  refine wpAny_isTrue_Compare1 (thn (h pins s σ H _ I hw) fun v s1 h1 => thn h1 fun u s2 h2 => thn h2 fun c s3 ⟨x, H1, I1, r1, q1⟩ => ?_) h1
  obtain ⟨d, rfl, q⟩ := q1
  cases r1
  exact wpAny_truthy_bool ⟨H1, I1, q⟩
/-- an expression whose value is a bool, as a test -/
theorem pt_val {e : Expr} {t : TE} (h : PE X e t) (he : ∀ whole, isTrue e X.env whole = (do let v ← whole; standAt e.pos; holding [v] (truthy v)) := by intro _; rfl) : PT X e (tB t) := by
  intro pins s σ H Q I hw
  refine isTrue_plain (thn (h pins s σ H _ I hw) fun v s1 ⟨x, H1, I1, r1, q1⟩ => ?_) (he _)
  obtain ⟨d, rfl, q⟩ := q1
  cases r1
  exact wpAny_truthy_bool ⟨H1, I1, q⟩

/-! ### and, or, not -/
variable {tA tB' : TT} {rest : List Expr}
def tAnd (t u : TT) : TT := fun σ H Q => t σ H fun c H1 => if c = true then u σ H1 Q else Q false H1
def tOr (t u : TT) : TT := fun σ H Q => t σ H fun c H1 => if c = true then Q true H1 else u σ H1 Q
def tNot (t : TT) : TT := fun σ H Q => t σ H fun c H1 => Q (!c) H1
theorem pw_and1 (ha : PT X a tA) : PW X (.BoolOp .And [a] pos) tA := by
  intro wh pins s σ H Q I h
  refine isTrue_and (thn (ha pins s σ H Q I h) fun c s1 e => ?_)
  cases c with
  | true => exact isTrue_and_nil e
  | false => exact e
theorem pw_or1 (ha : PT X a tA) : PW X (.BoolOp .Or [a] pos) tA := by
  intro wh pins s σ H Q I h
  refine isTrue_or (thn (ha pins s σ H Q I h) fun c s1 e => ?_)
  cases c with
  | false => exact isTrue_or_nil e
  | true => exact e
theorem pw_and (ha : PT X a tA) (hb : PW X (.BoolOp .And (b :: rest) pos) tB') : PW X (.BoolOp .And (a :: b :: rest) pos) (tAnd tA tB') := by
  intro wh pins s σ H Q I h
  refine isTrue_and (thn (ha pins s σ H _ I h) fun c s1 ⟨H1, I1, q1⟩ => ?_)
  cases c with
  | true => exact hb wh pins s1 σ H1 Q I1 q1
  | false => exact ⟨H1, I1, q1⟩
theorem pw_or (ha : PT X a tA) (hb : PW X (.BoolOp .Or (b :: rest) pos) tB') : PW X (.BoolOp .Or (a :: b :: rest) pos) (tOr tA tB') := by
  intro wh pins s σ H Q I h
  refine isTrue_or (thn (ha pins s σ H _ I h) fun c s1 ⟨H1, I1, q1⟩ => ?_)
  cases c with
  | true => exact ⟨H1, I1, q1⟩
  | false => exact hb wh pins s1 σ H1 Q I1 q1
theorem pt_not (ha : PT X a tA) : PT X (.UnaryOp .Not a pos) (tNot tA) := by
  intro pins s σ H Q I h
  exact isTrue_not (ha pins s σ H (fun c H1 => Q (!c) H1) I h)
/-- .. as values (bools) -/
def tAndV (ta tb : TE) : TE := fun σ H Q => ta σ H fun x H1 => ∃ c, x = .bl c ∧ if c = true then tb σ H1 Q else Q (.bl false) H1
def tOrV (ta tb : TE) : TE := fun σ H Q => ta σ H fun x H1 => ∃ c, x = .bl c ∧ if c = true then Q (.bl true) H1 else tb σ H1 Q
def tNotV (ta : TE) : TE := fun σ H Q => ta σ H fun x H1 => ∃ c, x = .bl c ∧ Q (.bl (!c)) H1
theorem pe_one {op} {t : TE} (h : PE X a t) : PE X (.BoolOp op [a] pos) t := fun pins s σ H Q I hw => BoolOp_one (h pins s σ H Q I hw)
theorem pe_and (ha : PE X a ta) (hb : PE X (.BoolOp .And (b :: rest) pos) tb) : PE X (.BoolOp .And (a :: b :: rest) pos) (tAndV ta tb) := by
  intro pins s σ H Q I h
  refine BoolOp_and (thn (ha pins s σ H _ I h) fun v s1 ⟨x, H1, I1, r1, q1⟩ => ?_)
  obtain ⟨c, rfl, q1⟩ := q1
  cases r1
  refine wpAny_truthy_bool ?_
  cases c with
  | true => exact hb pins s1 σ H1 Q I1 q1
  | false => exact ⟨.bl false, H1, I1, rfl, q1⟩
theorem pe_or (ha : PE X a ta) (hb : PE X (.BoolOp .Or (b :: rest) pos) tb) : PE X (.BoolOp .Or (a :: b :: rest) pos) (tOrV ta tb) := by
  intro pins s σ H Q I h
  refine BoolOp_or (thn (ha pins s σ H _ I h) fun v s1 ⟨x, H1, I1, r1, q1⟩ => ?_)
  obtain ⟨c, rfl, q1⟩ := q1
  cases r1
  refine wpAny_truthy_bool ?_
  cases c with
  | false => exact hb pins s1 σ H1 Q I1 q1
  | true => exact ⟨.bl true, H1, I1, rfl, q1⟩
theorem pe_not (ha : PE X a ta) : PE X (.UnaryOp .Not a pos) (tNotV ta) := by
  intro pins s σ H Q I h
  refine UnaryOp_ (thn (ha pins s σ H _ I h) fun v s1 ⟨x, H1, I1, r1, q1⟩ => ?_)
  obtain ⟨c, rfl, q1⟩ := q1
  cases r1
  exact not_of (wpAny_truthy_bool ⟨.bl (!c), H1, I1, rfl, q1⟩)
/-- a if t else b -/
def tIf (t : TT) (ta tb : TE) : TE := fun σ H Q => t σ H fun c H1 => if c = true then ta σ H1 Q else tb σ H1 Q
theorem pe_ifExp {c : Expr} (hc : PT X c tA) (ha : PE X a ta) (hb : PE X b tb) : PE X (.IfExp c a b pos) (tIf tA ta tb) := by
  intro pins s σ H Q I h
  refine wpAny_IfExp (thn (hc pins s σ H _ I h) fun d s1 ⟨H1, I1, q1⟩ => ?_)
  cases d with
  | true => exact ha pins s1 σ H1 Q I1 q1
  | false => exact hb pins s1 σ H1 Q I1 q1
end
end L2

namespace L2
open PySem PySem.Spec PyProof.Rows

/-! ### a list, a tuple that is read: tracked, frozen, or an object of the module -/
def SqL (K : PySem.W.Frag) (H : Hp) (a : Addr) (xs : List V) : Prop :=
  Rd H a (.lst xs) ∨
    ∃ (o : Obj) (its : Array Value) (n : Nat), K.lookup a = some o ∧ o.cls = .type "list" ∧ o.dict = none ∧ o.data = .seq its n ∧ its.size ≤ sizeLine ∧ Vals xs its.toList
def SqT (K : PySem.W.Frag) (H : Hp) (a : Addr) (xs : List V) : Prop :=
  Rd H a (.tup xs) ∨
    ∃ (o : Obj) (its : Array Value) (n : Nat), K.lookup a = some o ∧ o.cls = .type "tuple" ∧ o.data = .seq its n ∧ its.size ≤ sizeLine ∧ Vals xs its.toList
def absV : Value → Option V
  | .none => some .non
  | .bool b => some (.bl b)
  | .int i _ => some (.int i)
  | .str x _ => some (.str x)
  | .bytes b _ => some (.byt b)
  | .float b _ => some (.flt b)
  | .ref a => some (.ref a)
  | .type n => some (.ty n)
  | _ => none
theorem RelV.abs {x : V} {u : Value} (r : RelV x u) : absV u = some x := by
  cases x with
  | non => cases r; rfl
  | bl _ => cases r; rfl
  | int _ => obtain ⟨t, rfl⟩ := r; rfl
  | str _ => obtain ⟨t, rfl⟩ := r; rfl
  | byt _ => obtain ⟨t, rfl⟩ := r; rfl
  | flt _ => obtain ⟨t, rfl⟩ := r; rfl
  | ref _ => cases r; rfl
  | ty _ => cases r; rfl
theorem RelV.inj {x y : V} {u : Value} (r : RelV x u) (q : RelV y u) : x = y := Option.some.inj (r.abs.symm.trans q.abs)
theorem Vals.inj : ∀ {xs ys : List V} {us : List Value}, Vals xs us → Vals ys us → xs = ys
  | _, _, _, .nil, .nil => rfl
  | _, _, _, .cons r t, .cons r' t' => by rw [r.inj r', Vals.inj t t']
section
variable {X : Cx} {pins : List (Addr × Obj)} {σ : St} {H : Hp} {s : Shared} {a : Addr} {xs ys : List V}
theorem SqL.of {K : PySem.W.Frag} (h : H a = some (.lst xs)) : SqL K H a xs := .inl (.inl h)
theorem SqT.of {K : PySem.W.Frag} (h : H a = some (.tup xs)) : SqT K H a xs := .inl (.inl h)
theorem Inv.list (I : Inv X pins σ H s) (h : SqL X.K H a xs) : ∃ its : List Value, Vals xs its ∧ PlainL s.heap a its.toArray ∧ xs.length ≤ sizeLine := by
  rcases h with h | ⟨o, its, n, hk, hc, hd, hs, hz, r⟩
  · obtain ⟨z, its, n, r, e⟩ := h.ok I.hok
    exact ⟨its, r, ⟨_, n, e, rfl, rfl, rfl⟩, z⟩
  · refine ⟨its.toList, r, ⟨o, n, I.kIn a o hk, hc, hd, by simpa using hs⟩, ?_⟩
    have e := r.length
    simp only [Array.length_toList] at e
    omega
theorem Inv.tuple (I : Inv X pins σ H s) (h : SqT X.K H a xs) : ∃ its : List Value, Vals xs its ∧ IsTup s.heap a its.toArray ∧ xs.length ≤ sizeLine := by
  rcases h with h | ⟨o, its, n, hk, hc, hs, hz, r⟩
  · obtain ⟨z, its, r, p⟩ := h.ok I.hok
    exact ⟨its, r, p, z⟩
  · refine ⟨its.toList, r, ⟨o, I.kIn a o hk, hc, n, by simpa using hs⟩, ?_⟩
    have e := r.length
    simp only [Array.length_toList] at e
    omega
theorem Inv.list_inj (I : Inv X pins σ H s) (h : SqL X.K H a xs) (h' : SqL X.K H a ys) : xs = ys := by
  obtain ⟨its, r, ⟨o, n, e, _, _, d⟩, _⟩ := I.list h
  obtain ⟨its', r', ⟨o', n', e', _, _, d'⟩, _⟩ := I.list h'
  rw [e] at e'; cases e'
  rw [d] at d'
  injection d' with d1 _
  have : its = its' := by simpa using congrArg Array.toList d1
  subst this
  exact r.inj r'
theorem Inv.tuple_inj (I : Inv X pins σ H s) (h : SqT X.K H a xs) (h' : SqT X.K H a ys) : xs = ys := by
  obtain ⟨its, r, ⟨o, e, _, n, d⟩, _⟩ := I.tuple h
  obtain ⟨its', r', ⟨o', e', _, n', d'⟩, _⟩ := I.tuple h'
  rw [e] at e'; cases e'
  rw [d] at d'
  injection d' with d1 _
  have : its = its' := by simpa using congrArg Array.toList d1
  subst this
  exact r.inj r'
end

/-! ### another wish about exceptions -/
abbrev Cx.wish (X : Cx) (E : Value → Shared → Prop) : Cx := { X with xe := E }
/-- no exception leaves -/
abbrev Cx.nox (X : Cx) : Cx := X.wish fun _ _ => False
theorem Cx.Ok.wish {X : Cx} (ok : X.Ok) (E : Value → Shared → Prop) : (X.wish E).Ok :=
  ⟨ok.mod, ok.kind, ok.glob, ok.blt, ok.above, ok.inj, ok.has, ok.cab, ok.hd, ok.frames, ok.stk, ok.exf, ok.bs, ok.bsz, ok.noex, ok.exfs, ok.funs, ok.frf⟩
theorem Cx.Ok.unwish {X : Cx} {E : Value → Shared → Prop} (ok : (X.wish E).Ok) : X.Ok :=
  ⟨ok.mod, ok.kind, ok.glob, ok.blt, ok.above, ok.inj, ok.has, ok.cab, ok.hd, ok.frames, ok.stk, ok.exf, ok.bs, ok.bsz, ok.noex, ok.exfs, ok.funs, ok.frf⟩
section
variable {X : Cx} {pins : List (Addr × Obj)} {σ : St} {H : Hp} {s : Shared} {E : Value → Shared → Prop}
theorem Inv.wish (I : Inv X pins σ H s) (E : Value → Shared → Prop) : Inv (X.wish E) pins σ H s := ⟨I.ok.wish E, I.os, I.bare, I.base, I.loc, I.cell, I.free, I.freeC, I.pin, I.hok, I.len⟩
theorem Inv.unwish (I : Inv (X.wish E) pins σ H s) : Inv X pins σ H s := ⟨I.ok.unwish, I.os, I.bare, I.base, I.loc, I.cell, I.free, I.freeC, I.pin, I.hok, I.len⟩
theorem SP.unwish {D : Ends} {f : Flow} {s' : Shared} (h : SP (X.wish E) pins D f s') : SP X pins D f s' := by
  cases f with
  | next => obtain ⟨σ', H', I, q⟩ := h; exact ⟨σ', H', I.unwish, q⟩
  | brk => obtain ⟨σ', H', I, q⟩ := h; exact ⟨σ', H', I.unwish, q⟩
  | cont => obtain ⟨σ', H', I, q⟩ := h; exact ⟨σ', H', I.unwish, q⟩
  | ret u => obtain ⟨v, σ', H', I, r, q⟩ := h; exact ⟨v, σ', H', I.unwish, r, q⟩
theorem PE.nox {e : Expr} {t : TE} (h : PE X.nox e t) : PE X e t := fun pins s σ H Q I hw =>
  wpAny_mono (h pins s σ H Q (I.wish _) hw) (fun _ _ ⟨v, H', I', r, q⟩ => ⟨v, H', I'.unwish, r, q⟩) fun _ _ z => False.elim z
theorem PT.nox {e : Expr} {t : TT} (h : PT X.nox e t) : PT X e t := fun pins s σ H Q I hw =>
  wpAny_mono (h pins s σ H Q (I.wish _) hw) (fun _ _ ⟨H', I', q⟩ => ⟨H', I'.unwish, q⟩) fun _ _ z => False.elim z
theorem PSs.nox {st : List Stmt} {t : TS} (h : PSs X.nox st t) : PSs X st t := fun pins s σ H D I hw =>
  wpAny_mono (h pins s σ H D (I.wish _) hw) (fun _ _ q => q.unwish) fun _ _ z => False.elim z
end

/-! ### blocks and small statements -/
section
variable {X : Cx} {st : Stmt} {rest : List Stmt} {t u : TS} {e : Expr} {te : TE} {pos : Pos}
def tNext : TS := fun D σ H => D.nx σ H
def tSeq (t u : TS) : TS := fun D σ H => t { D with nx := u D } σ H
theorem pss_nil : PSs X [] tNext := fun _ _ σ H _ I h => wpAny_execs_nil ⟨σ, H, I, h⟩
theorem pss_cons (h1 : PS X st t) (h2 : PSs X rest u) : PSs X (st :: rest) (tSeq t u) := by
  intro pins s σ H D I h
  refine wpAny_execs_cons (thn (h1 pins s σ H { D with nx := u D } I h) fun f s1 q => ?_)
  cases f with
  | next =>
    obtain ⟨σ', H', I', q⟩ := q
    exact h2 pins s1 σ' H' D I' q
  | ret v => exact q
  | brk => exact q
  | cont => exact q
theorem pss_one (h1 : PS X st t) : PSs X [st] t := by
  intro pins s σ H D I h
  refine wpAny_execs_cons (thn (h1 pins s σ H D I h) fun f s1 q => ?_)
  cases f with
  | next => exact wpAny_execs_nil q
  | ret v => exact q
  | brk => exact q
  | cont => exact q
def tBreak : TS := fun D σ H => D.bk σ H
def tCont : TS := fun D σ H => D.ct σ H
theorem ps_pass : PS X (.Pass pos) tNext := fun _ _ σ H _ I h => wpAny_Pass ⟨σ, H, I, h⟩
theorem ps_break : PS X (.Break pos) tBreak := fun _ _ σ H _ I h => wpAny_Break ⟨σ, H, I, h⟩
theorem ps_continue : PS X (.Continue pos) tCont := fun _ _ σ H _ I h => wpAny_Continue ⟨σ, H, I, h⟩
/-- in a def's body nothing is shown -/
theorem Inv.quiet {pins : List (Addr × Obj)} {σ : St} {H : Hp} {s : Shared} (I : Inv X pins σ H s) : interactive X.env = false := by simp [interactive, I.ok.kind]
/-- a docstring -/
theorem ps_doc {x j pos pos'} : PS X (.Expr (.Constant (.str x) j pos) pos') tNext := fun _ s σ H _ I h => wpAny_Expr (Calls.Constant_str (show SP X _ _ .next { s with toks := s.toks + 1 } from ⟨σ, H, I.tok _, h⟩)) I.quiet
/-- an expression whose value is dropped -/
def tDrop (te : TE) : TS := fun D σ H => te σ H fun _ H1 => D.nx σ H1
theorem ps_expr (he : PE X e te) (hs : swapsWith e none pos.line X.env = pure false := by rfl) : PS X (.Expr e pos) (tDrop te) := by
  intro pins s σ H D I h
  exact wpAny_Expr_any (thn (he pins s σ H _ I h) fun v s1 ⟨x, H1, I1, r1, q1⟩ => ⟨σ, H1, I1, q1⟩) I.quiet hs
def tRet (te : TE) : TS := fun D σ H => te σ H D.rt
theorem ps_ret (he : PE X e te) : PS X (.Return (some e) pos) (tRet te) := by
  intro pins s σ H D I h
  exact wpAny_Return_some (thn (he pins s σ H _ I h) fun v s1 ⟨x, H1, I1, r1, q1⟩ => ⟨x, σ, H1, I1, r1, q1⟩)
def tRetN : TS := fun D _ H => D.rt .non H
theorem ps_retN : PS X (.Return none pos) tRetN := fun _ _ σ H _ I h => wpAny_Return_none ⟨.non, σ, H, I, rfl, h⟩
def tIfS (c : TT) (t u : TS) : TS := fun D σ H => c σ H fun b H1 => if b = true then t D σ H1 else u D σ H1
theorem ps_if {c : Expr} {a b : List Stmt} {tc : TT} (hc : PT X c tc) (ha : PSs X a t) (hb : PSs X b u) : PS X (.If c a b pos) (tIfS tc t u) := by
  intro pins s σ H D I h
  refine wpAny_If (thn (hc pins s σ H _ I h) fun d s1 ⟨H1, I1, q1⟩ => ?_)
  cases d with
  | true => exact ha pins s1 σ H1 D I1 q1
  | false => exact hb pins s1 σ H1 D I1 q1
/-- code that the proof never comes to -/
def tNever : TS := fun _ _ _ => False
theorem ps_never : PS X st tNever := fun _ _ _ _ _ _ h => h.elim
theorem pss_never {sts : List Stmt} : PSs X sts tNever := fun _ _ _ _ _ _ h => h.elim
end

/-! ### targets -/
abbrev TG := V → St → Hp → (St → Hp → Prop) → Prop
abbrev TGs := List V → St → Hp → (St → Hp → Prop) → Prop
def PG (X : Cx) (target : Expr) (t : TG) : Prop :=
  ∀ (pins : List (Addr × Obj)) (s : Shared) (σ : St) (H : Hp) (v : V) (u : Value) (Q : St → Hp → Prop), Inv X pins σ H s → RelV v u → t v σ H Q →
    wpAny (model X.prog X.w) X.A (assign target X.env u) (fun _ s' => ∃ σ' H', Inv X pins σ' H' s' ∧ Q σ' H') X.xe s
/-- several targets, one after another -/
def PGs (X : Cx) (ts : List Expr) (t : TGs) : Prop :=
  ∀ (pins : List (Addr × Obj)) (s : Shared) (σ : St) (H : Hp) (vs : List V) (us : List Value) (Q : St → Hp → Prop), Inv X pins σ H s → Vals vs us → t vs σ H Q →
    wpAny (model X.prog X.w) X.A (assignInOrder ((assignEach ts X.env).map (·.2)) us) (fun _ s' => ∃ σ' H', Inv X pins σ' H' s' ∧ Q σ' H') X.xe s
/-- o[i] = v, by values -/
abbrev TSet := V → V → V → Hp → (Hp → Prop) → Prop
def PSet (X : Cx) (t : TSet) : Prop :=
  ∀ (pins : List (Addr × Obj)) (s : Shared) (σ : St) (H : Hp) (o i v : V) (ov iv u : Value) (Q : Hp → Prop), Inv X pins σ H s → RelV o ov → RelV i iv → RelV v u → t o i v H Q →
    wpAny (model X.prog X.w) X.A (setItem ov iv u) (fun _ s' => ∃ H', Inv X pins σ H' s' ∧ Q H') X.xe s
/-- a op= b, by values -/
abbrev TIp := V → V → Hp → VK → Prop
def PIp (X : Cx) (op : Operator) (t : TIp) : Prop :=
  ∀ (pins : List (Addr × Obj)) (s : Shared) (σ : St) (H : Hp) (x y : V) (v u : Value) (Q : VK), Inv X pins σ H s → RelV x v → RelV y u → t x y H Q →
    wpAny (model X.prog X.w) X.A (inplaceOp op v u) (EP X pins σ Q) X.xe s
section
variable {X : Cx} {pos : Pos}
def gName (i : Nat) : TG := fun v σ H Q => Q (σ.set i (some v)) H
theorem pg_name {i : Nat} {x : Str} (hN : X.N.Nodup) (hi : X.N[i]? = some x) (hx : Loc X.env.scope x) (hf : X.fn x = true ∨ X.env.scope.names.lookup x = some .local := by first | exact .inl rfl | exact .inr rfl | assumption) : PG X (.Name x pos) (gName i) := by
  intro pins s σ H v u Q I r h
  exact wpAny_assign_Name (store_ok I hN hi hx r (fun s' I' => ⟨_, H, I', h⟩) hf)
def gNil : TGs := fun vs σ H Q => vs = [] ∧ Q σ H
def gCons (t : TG) (u : TGs) : TGs := fun vs σ H Q => ∃ v r, vs = v :: r ∧ t v σ H fun σ' H' => u r σ' H' Q
theorem pgs_nil : PGs X [] gNil := by
  intro pins s σ H vs us Q I r h
  obtain ⟨e, h⟩ := h
  subst e
  cases r
  exact assignInOrder_nil ⟨σ, H, I, h⟩
theorem pgs_cons {e : Expr} {es : List Expr} {t : TG} {u : TGs} (h1 : PG X e t) (h2 : PGs X es u)
    (hs : (assignEach (e :: es) X.env).map (·.2) = assign e X.env :: (assignEach es X.env).map (·.2) := by rfl) : PGs X (e :: es) (gCons t u) := by
  intro pins s σ H vs us Q I r h
  obtain ⟨v, vr, e1, h⟩ := h
  subst e1
  cases r with
  | cons r rr =>
    rw [hs]
    refine assignInOrder_cons (thn (h1 pins s σ H _ _ _ I r h) fun _ s1 ⟨σ1, H1, I1, q1⟩ => ?_)
    exact h2 pins s1 σ1 H1 _ _ Q I1 rr q1
/-- (a, b, ..) = a tuple of that length -/
def gTup (K : PySem.W.Frag) (n : Nat) (t : TGs) : TG := fun v σ H Q => ∃ a xs, v = .ref a ∧ SqT K H a xs ∧ xs.length = n ∧ t xs σ H Q
theorem pg_tup {es : List Expr} {k : Nat} {t : TGs} {n : Nat} (hc : X.calm = true) (h : PGs X es t)
    (hn : (assignEach es X.env).length = n := by rfl) (hst : (assignEach es X.env).findIdx? (·.1) = none := by rfl) : PG X (.Tuple es k pos) (gTup X.K n t) := by
  intro pins s σ H v u Q I r hw
  obtain ⟨a, xs, e1, hq, hl, hw⟩ := hw
  subst e1
  cases r
  obtain ⟨its, rv, ht, hz⟩ := I.tuple hq
  refine assign_Tuple_tuple (I.ok.hd hc) ht (by simp [hn, ← hl, rv.length]) hst fun h' hx => ?_
  have I1 : Inv X pins σ H { s with heap := h' } := I.kept (t' := s.toks) fun b o e => hx b o (Nat.ne_of_lt (Heap.lt_size e)) e
  exact h pins _ σ H xs _ Q I1 (by simpa using rv) hw
/-- o[i] = .. -/
def gSub (to ti : TE) (t : TSet) : TG := fun v σ H Q => to σ H fun o H1 => ti σ H1 fun i H2 => t o i v H2 fun H3 => Q σ H3
theorem pg_sub {o i : Expr} {to ti : TE} {t : TSet} (ho : PE X o to) (hi : PE X i ti) (hs : PSet X t)
    (ha : ∀ v, assign (.Subscript o i pos) X.env v = (do
      let ov ← holding [v] (eval o X.env)
      let iv ← holding [v, ov] (eval i X.env)
      standAt pos
      holding [v, ov, iv] (setItem ov iv v)
      release [v, ov, iv] []) := by intro _; rfl) : PG X (.Subscript o i pos) (gSub to ti t) := by
  intro pins s σ H v u Q I r h
  rw [ha]
  refine wpAny_bind (wpAny_holding (thn (ho pins s σ H _ I h) fun ov s1 ⟨x, H1, I1, r1, q1⟩ => ?_))
  refine wpAny_bind (wpAny_holding (thn (hi pins s1 σ H1 _ I1 q1) fun iv s2 ⟨y, H2, I2, r2, q2⟩ => ?_))
  refine wpAny_bind (wpAny_standAt (wpAny_bind (wpAny_holding (thn (hs pins s2 σ H2 x y v ov iv u _ I2 r1 r2 r q2) fun _ s3 ⟨H3, I3, q3⟩ => ?_))))
  exact wpAny_release ⟨σ, H3, I3, q3⟩
/-- target = value -/
def tAsg (te : TE) (g : TG) : TS := fun D σ H => te σ H fun x H1 => g x σ H1 D.nx
theorem ps_asg {tg e : Expr} {te : TE} {g : TG} (he : PE X e te) (hg : PG X tg g) (hs : swapsWithSole [tg] e pos.line X.env = pure false := by rfl) (hw : swappedStores [tg] e X.env = pure none := by rfl)
    (h1 : (assignEach [tg] X.env).map (·.2) = [assign tg X.env] := by rfl) : PS X (.Assign [tg] e pos) (tAsg te g) := by
  intro pins s σ H D I h
  refine wpAny_Assign_stores (thn (he pins s σ H _ I h) fun v s1 ⟨x, H1, I1, r1, q1⟩ => ?_) hs hw
  rw [h1]
  exact thn (hg pins s1 σ H1 x v _ I1 r1 q1) fun _ s2 q => q
/-- name = value -/
theorem ps_set {i : Nat} {x : Str} {e : Expr} {te : TE} {pos' : Pos} (hN : X.N.Nodup) (hi : X.N[i]? = some x) (hx : Loc X.env.scope x) (he : PE X e te) (hs : swapsWith e (some (.Name x pos')) pos.line X.env = pure false := by rfl) (hf : X.fn x = true ∨ X.env.scope.names.lookup x = some .local := by first | exact .inl rfl | exact .inr rfl | assumption) :
    PS X (.Assign [.Name x pos'] e pos) (tAsg te (gName i)) := by
  intro pins s σ H D I h
  refine wpAny_Assign_Name (thn (he pins s σ H _ I h) fun v s1 ⟨y, H1, I1, r1, q1⟩ => ?_) hs
  exact store_ok I1 hN hi hx r1 (fun s2 I2 => ⟨_, H1, I2, q1⟩) hf
/-- a, b = x, y with plain local names: stored from the right; the pair itself is not tracked (the opening rows as in PyProof/Rows/TupAssign.lean:23) -/
def tPar (i j : Nat) (ta : TA) : TS := fun D σ H => ta σ H fun vs H1 => ∃ v w, vs = [v, w] ∧ D.nx ((σ.set i (some v)).set j (some w)) H1
theorem ps_par {i j : Nat} {x y : Str} {a b : Expr} {ta : TA} {px py pt : Pos} {kt k2 pt2} (hc : X.calm = true) (hN : X.N.Nodup) (hi : X.N[i]? = some x) (hj : X.N[j]? = some y) (hij : i ≠ j)
    (hx : X.env.scope.names.lookup x = some .local) (hy : X.env.scope.names.lookup y = some .local) (ha : PA X [a, b] ta)
    (hw : swappedStores [.Tuple [.Name x px, .Name y py] kt pt] (.Tuple [a, b] k2 pt2) X.env = pure (some [x, y]))
    (hs : swapsWithSole [.Tuple [.Name x px, .Name y py] kt pt] (.Tuple [a, b] k2 pt2) pos.line X.env = pure false := by rfl) :
    PS X (.Assign [.Tuple [.Name x px, .Name y py] kt pt] (.Tuple [a, b] k2 pt2) pos) (tPar i j ta) := by
  intro pins s σ H D I h
  rw [exec_Assign_arm]
  refine wpAny_bind (wpAny_standAt ?_)
  rw [hs]
  refine wpAny_bind (wpAny_pure ?_)
  rw [if_neg (by decide)]
  refine wpAny_bind (Tuple_ (thn (ha _ pins s σ H _ I h) fun us s1 ⟨vs, H1, I1, r1, q1⟩ => ?_))
  obtain ⟨v, w, e1, q1⟩ := q1
  subst e1
  obtain ⟨u1, u2, rfl, rv, rw'⟩ : ∃ u1 u2, us = [u1, u2] ∧ RelV v u1 ∧ RelV w u2 := by
    cases r1 with
    | cons p q =>
      cases q with
      | cons p' q' =>
        cases q'
        exact ⟨_, _, rfl, p, p'⟩
  refine wpAny_newObj_type ?_ (by show 2 ≤ sizeLine; decide)
  have I2 : Inv X pins σ H1 { s1 with heap := s1.heap.push { cls := .type "tuple", data := .seq [u1, u2].toArray } } := I1.kept (t' := s1.toks) fun b o e => Heap.get?_push_of_some _ e
  rw [hw]
  refine wpAny_bind (wpAny_pure ?_)
  show wpAny (model X.prog X.w) X.A (do rule "assign.swapped-stores"; let items ← unpackItems (.ref s1.heap.objs.size) 2 none; assignInOrder [fun v => bindName X.env y v, fun v => bindName X.env x v] items.reverse; pure Flow.next) _ _ _
  refine wpAny_bind (wpAny_rule (wpAny_bind (unpackItems_tuple (items := #[u1, u2]) (I.ok.hd hc) (IsTup.new s1.heap _) fun h' hx' => ?_)))
  have I3 := I2.kept (h' := h') (t' := s1.toks) fun b o e => hx' b o (Nat.ne_of_lt (Heap.lt_size e)) e
  show wpAny _ _ (assignInOrder [fun v => bindName X.env y v, fun v => bindName X.env x v] [u2, u1] >>= fun _ => pure Flow.next) _ _ _
  refine wpAny_bind (assignInOrder_cons (wpAny_bindName (store_ok I3 hN hj (.inl hy) rw' (fun s2 I4 => ?_) (.inr hy))))
  refine assignInOrder_cons (wpAny_bindName (store_ok I4 hN hi (.inl hx) rv (fun s3 I5 => assignInOrder_nil (wpAny_pure ?_)) (.inr hx)))
  rw [List.set_comm _ _ (Ne.symm hij)] at I5
  exact ⟨_, H1, I5, q1⟩
/-- name op= e -/
def tAug (i : Nat) (te : TE) (ti : TIp) : TS := fun D σ H => ∃ x, σ[i]? = some (some x) ∧ te σ H fun y H1 => ti x y H1 fun z H2 => D.nx (σ.set i (some z)) H2
theorem ps_aug {i : Nat} {x : Str} {e : Expr} {te : TE} {op : Operator} {ti : TIp} {pos' : Pos} (hN : X.N.Nodup) (hi : X.N[i]? = some x) (hx : Loc X.env.scope x) (he : PE X e te) (ho : PIp X op ti) (hf : X.fn x = true ∨ X.env.scope.names.lookup x = some .local := by first | exact .inl rfl | exact .inr rfl | assumption) :
    PS X (.AugAssign (.Name x pos') op e pos) (tAug i te ti) := by
  intro pins s σ H D I h
  obtain ⟨v, e1, h⟩ := h
  obtain ⟨m, hn, hl⟩ := I.loc
  have vis : Vis X.env.scope x := by rcases hx with k | k; exact .inl k; exact .inr (.inl k)
  obtain ⟨u, r, l⟩ := hl i x v hi e1 vis
  refine wpAny_AugAssign_Name ?_
  have go : wpAny (model X.prog X.w) X.A (eval e X.env) (fun w s₂ => wpAny (model X.prog X.w) X.A (inplaceOp op u w) (fun r s₃ => wpAny (model X.prog X.w) X.A (storeName X.env x r) (fun _ => SP X pins D .next) X.xe s₃) X.xe s₂) X.xe s := by
    refine thn (he pins s σ H _ I h) fun w s1 ⟨y, H1, I1, r1, q1⟩ => ?_
    refine thn (ho pins s1 σ H1 v y u w _ I1 r r1 q1) fun z s2 ⟨zv, H2, I2, r2, q2⟩ => ?_
    exact store_ok I2 hN hi hx r2 (fun s3 I3 => ⟨_, H2, I3, q2⟩) hf
  rcases l with ⟨hk, hm⟩ | ⟨hk, c, hc, hcell⟩
  · exact wpAny_loadName_local I.ok.kind hk hn hm go
  · rcases hk with hk | hk
    · exact wpAny_loadName_cell I.ok.kind hk hc hcell go
    · rcases hx with k | k
      · have : X.env.scope.names.lookup x = some .free := hk
        rw [k] at this; cases this
      · have : X.env.scope.names.lookup x = some .free := hk
        rw [k] at this; cases this
/-- o[i] op= e -/
def tAugS (to ti te : TE) (tget : V → V → Hp → VK → Prop) (tip : TIp) (tset : TSet) : TS := fun D σ H => to σ H fun o H1 => ti σ H1 fun i H2 => tget o i H2 fun x H3 => te σ H3 fun y H4 => tip x y H4 fun z H5 => tset o i z H5 fun H6 => D.nx σ H6
/-- o[i], by values -/
def PGet (X : Cx) (t : V → V → Hp → VK → Prop) : Prop :=
  ∀ (pins : List (Addr × Obj)) (s : Shared) (σ : St) (H : Hp) (o i : V) (ov iv : Value) (Q : VK), Inv X pins σ H s → RelV o ov → RelV i iv → t o i H Q →
    wpAny (model X.prog X.w) X.A (getItem ov iv) (EP X pins σ Q) X.xe s
theorem ps_augS {o i e : Expr} {to ti te : TE} {tget : V → V → Hp → VK → Prop} {tip : TIp} {tset : TSet} {op : Operator} {tpos : Pos} (ho : PE X o to) (hi : PE X i ti) (hg : PGet X tget) (he : PE X e te) (hp : PIp X op tip) (hs : PSet X tset)
    (ha : ∀ ov iv new, augStore i ov iv new = (do holding [new, ov, iv] (setItem ov iv new); release [new, ov, iv] []; pure .next) := by intros; rfl) : PS X (.AugAssign (.Subscript o i tpos) op e pos) (tAugS to ti te tget tip tset) := by
  intro pins s σ H D I h
  refine wpAny_AugAssign_SubscriptAny (thn (ho pins s σ H _ I h) fun ov s1 ⟨x1, H1, I1, r1, q1⟩ => ?_) ha
  refine thn (hi pins s1 σ H1 _ I1 q1) fun iv s2 ⟨x2, H2, I2, r2, q2⟩ => ?_
  refine thn (hg pins s2 σ H2 x1 x2 ov iv _ I2 r1 r2 q2) fun old s3 ⟨x3, H3, I3, r3, q3⟩ => ?_
  refine thn (he pins s3 σ H3 _ I3 q3) fun v s4 ⟨x4, H4, I4, r4, q4⟩ => ?_
  refine thn (hp pins s4 σ H4 x3 x4 old v _ I4 r3 r4 q4) fun new s5 ⟨x5, H5, I5, r5, q5⟩ => ?_
  exact thn (hs pins s5 σ H5 x1 x2 x5 ov iv new _ I5 r1 r2 r5 q5) fun _ s6 ⟨H6, I6, q6⟩ => ⟨σ, H6, I6, q6⟩
/-- ints -/
def ipI (f : Int → Int → Int) : TIp := fun x y H Q => ∃ i j, x = .int i ∧ y = .int j ∧ Q (.int (f i j)) H
theorem ip_add : PIp X .Add (ipI fun i j => i + j) := by
  intro pins s σ H x y v u Q I r1 r2 h
  obtain ⟨i, j, e1, e2, q⟩ := h
  subst e1; subst e2
  obtain ⟨t, rfl⟩ := r1
  obtain ⟨t', rfl⟩ := r2
  exact iadd_int ⟨.int _, H, I.tok _, ⟨_, rfl⟩, q⟩
theorem ip_sub : PIp X .Sub (ipI fun i j => i - j) := by
  intro pins s σ H x y v u Q I r1 r2 h
  obtain ⟨i, j, e1, e2, q⟩ := h
  subst e1; subst e2
  obtain ⟨t, rfl⟩ := r1
  obtain ⟨t', rfl⟩ := r2
  exact isub_int ⟨.int _, H, I.tok _, ⟨_, rfl⟩, q⟩
end

/-! ### while -/
section
variable {X : Cx} {pos : Pos}
/-- the invariant W with its measure -/
def tWhile (c : TT) (tb : TS) : TS := fun D σ H => ∃ W : Nat → St → Hp → Prop, (∃ m, W m σ H) ∧ ∀ m σ H, W m σ H →
  c σ H fun b H1 => if b = true then ∃ N : St → Hp → Prop, (∀ σ' H', N σ' H' → ∃ m', m' < m ∧ W m' σ' H') ∧ tb { D with nx := N, ct := N, bk := D.nx } σ H1 else D.nx σ H1
theorem ps_while {c : Expr} {body : List Stmt} {tc : TT} {tb : TS} (hp : PassesOwn (model X.prog X.w) X.A X.env X.xe) (hc : PT X c tc) (hb : PSs X body tb) : PS X (.While c body [] pos) (tWhile tc tb) := by
  intro pins s σ H D I h
  obtain ⟨W, ⟨m0, w0⟩, turn⟩ := h
  refine wpAny_While (codeAny_whileLoop (fun n s' => ∃ σ' H', Inv X pins σ' H' s' ∧ W n σ' H') ?_ m0 ⟨σ, H, I, w0⟩)
  rintro n s1 ⟨σ1, H1, I1, w1⟩
  refine wpAny_passesOwn hp (thn (hc pins s1 σ1 H1 _ I1 (turn n σ1 H1 w1)) fun b s2 ⟨H2, I2, q2⟩ => ?_)
  cases b with
  | true =>
    obtain ⟨N, hN, q2⟩ := q2
    rw [if_pos rfl]
    refine wpAny_passesOwn hp (thn (hb pins s2 σ1 H2 _ I2 q2) fun f s3 q3 => ?_)
    cases f with
    | next =>
      obtain ⟨σ3, H3, I3, n3⟩ := q3
      obtain ⟨m', hm, w3⟩ := hN σ3 H3 n3
      exact ⟨m', hm, σ3, H3, I3, w3⟩
    | cont =>
      obtain ⟨σ3, H3, I3, n3⟩ := q3
      obtain ⟨m', hm, w3⟩ := hN σ3 H3 n3
      exact ⟨m', hm, σ3, H3, I3, w3⟩
    | brk => exact q3
    | ret v => exact q3
  | false =>
    rw [if_neg Bool.false_ne_true]
    exact wpAny_execs_nil ⟨σ1, H2, I2, q2⟩
end

/-! ### what a loop or a comprehension walks -/
/-- at turn i: it yields x (the heap may grow), or it stops -/
structure It where
  go : Nat → Hp → Prop
  yld : Nat → Hp → V → Hp → Prop
  stop : Nat → Hp → Prop
/-- the iterator's own objects may turn: they are not the frame's, not pinned, younger than the entry (or a comprehension's own) -/
def FpOk (X : Cx) (pins : List (Addr × Obj)) (H : Hp) (b : Addr) : Prop :=
  H b = none ∧ b ≠ X.env.locals ∧ b ∉ X.fs ∧ (b ∈ X.ex ∨ X.s₀.heap.objs.size ≤ b) ∧ (∀ x c, X.env.cells.lookup x = some c → c ≠ b) ∧ ∀ p ∈ X.pn ++ pins, p.1 ≠ b
theorem Inv.fpOk {X : Cx} {pins : List (Addr × Obj)} {σ : St} {H H' : Hp} {s : Shared} {b : Addr} (I : Inv X pins σ H s) (hb : s.heap.objs.size ≤ b) (hn : H' b = none) : FpOk X pins H' b := by
  refine ⟨hn, Nat.ne_of_gt (Nat.lt_of_lt_of_le I.lt hb), I.nofs hb, .inr (Nat.le_trans I.sz hb), fun x c e z => ?_, fun p hp z => ?_⟩
  · obtain ⟨v, q⟩ := I.cell x c e
    exact absurd (Nat.lt_of_lt_of_le q.lt (by rw [z]; exact hb)) (Nat.lt_irrefl _)
  · exact absurd (Nat.lt_of_lt_of_le (Heap.lt_size (I.pin p hp).1) (by rw [z]; exact hb)) (Nat.lt_irrefl _)
structure Turn (P : Program) (w : World) (K : PySem.W.Frag) (tg : Expr) (J : It) (fp : List Addr) (it : Addr) (tn : Nat → Heap → Prop) : Prop where
  mem : it ∈ fp
  obj : ∀ i h, tn i h → ∀ b ∈ fp, ∃ o, h.get? b = some o ∧ ∀ v, o.data ≠ .cell v
  keep : ∀ i h h', tn i h → (∀ b ∈ fp, ∀ o, h.get? b = some o → h'.get? b = some o) → tn i h'
  item : ∀ (X : Cx), X.prog = P → X.w = w → X.K = K → X.calm = true → ∀ (i : Nat) (pins : List (Addr × Obj)) (s : Shared) (σ : St) (H : Hp) (E : Value → Shared → Prop), Inv X pins σ H s → (∀ b ∈ fp, FpOk X pins H b) → tn i s.heap → J.go i H →
    wpAny (model P w) X.A (pyNext (.ref it)) (fun r s1 => ∃ u, r = some u ∧
      wpAny (model P w) X.A (letOwnedTupleGo tg (.ref it) u) (fun _ s2 => ∃ x H', Inv X pins σ H' s2 ∧ RelV x u ∧ J.yld i H x H' ∧ tn (i + 1) s2.heap ∧ ∀ b ∈ fp, H' b = none) E s1) E s
  done : ∀ (X : Cx), X.prog = P → X.w = w → X.K = K → X.calm = true → ∀ (i : Nat) (pins : List (Addr × Obj)) (s : Shared) (σ : St) (H : Hp) (E : Value → Shared → Prop), Inv X pins σ H s → (∀ b ∈ fp, FpOk X pins H b) → tn i s.heap → J.stop i H →
    wpAny (model P w) X.A (pyNext (.ref it)) (fun r s1 => r = none ∧ Inv X pins σ H s1) E s
  self : ∀ (A : Around) (i : Nat) (s : Shared) (Q : Value → Shared → Prop) (E : Value → Shared → Prop), tn i s.heap → Q (.ref it) s → wpAny (model P w) A (pyIter (.ref it)) Q E s
abbrev TI := St → Hp → (It → Hp → Prop) → Prop
/-- an iterator has come -/
def PIE (X : Cx) (pins : List (Addr × Obj)) (σ : St) (tg : Expr) (R : It → Hp → Prop) (itv : Value) (s2 : Shared) : Prop :=
  ∃ (it : Addr) (fp : List Addr) (tn : Nat → Heap → Prop) (J : It) (H' : Hp), itv = .ref it ∧ Inv X pins σ H' s2 ∧ Turn X.prog X.w X.K tg J fp it tn ∧ tn 0 s2.heap ∧ (∀ b ∈ fp, FpOk X pins H' b) ∧ R J H'
def PI (X : Cx) (tg iter : Expr) (wi : TI) : Prop :=
  ∀ (pins : List (Addr × Obj)) (s : Shared) (σ : St) (H : Hp) (R : It → Hp → Prop), Inv X pins σ H s → wi σ H R →
    wpAny (model X.prog X.w) X.A (eval iter X.env) (fun v s1 => wpAny (model X.prog X.w) X.A (pyIter v) (PIE X pins σ tg R) X.xe s1) X.xe s

/-- the step ahead of the store is nothing for an iterator that keeps no tuple -/
theorem go_of {M : Model} {A : Around} {E : Value → Shared → Prop} {s : Shared} {tg : Expr} {it : Addr} {u : Value} {o : Obj} {n : String} {vs : Array Value} {Q : Unit → Shared → Prop} (ho : s.heap.get? it = some o) (hc : o.cls = .type n) (hd : o.data = .fields vs)
    (hn : ["enumerate", "zip", "dict_itemiterator", "dict_reverseitemiterator", "odict_iterator", "itertools.zip_longest", "itertools.pairwise"].contains n = false) (hQ : Q () s) : wpAny M A (letOwnedTupleGo tg (.ref it) u) Q E s := by
  unfold letOwnedTupleGo
  cases tg <;> first
    | exact wpAny_pure hQ
    | (cases u <;> first
        | exact wpAny_pure hQ
        | (refine wpAny_bind (wpAny_load ho ?_)
           rw [hc, hd]
           show wpAny M A (if (["enumerate", "zip", "dict_itemiterator", "dict_reverseitemiterator", "odict_iterator", "itertools.zip_longest", "itertools.pairwise"].contains n && vs[0]? == some (rawInt _)) = true then _ else _) Q E s
           rw [if_neg (by intro h; rw [hn, Bool.false_and] at h; cases h)]
           exact wpAny_pure hQ))

/-- the list at a, as it stands at each turn (a loop may append to it) -/
def Itl (K : PySem.W.Frag) (a : Addr) : It :=
  ⟨fun i H => ∃ xs x, SqL K H a xs ∧ xs[i]? = some x, fun i H x H' => H' = H ∧ ∀ xs, SqL K H a xs → xs[i]? = some x, fun i H => ∃ xs, SqL K H a xs ∧ xs.length ≤ i⟩
def Itt (K : PySem.W.Frag) (a : Addr) : It :=
  ⟨fun i H => ∃ xs x, SqT K H a xs ∧ xs[i]? = some x, fun i H x H' => H' = H ∧ ∀ xs, SqT K H a xs → xs[i]? = some x, fun i H => ∃ xs, SqT K H a xs ∧ xs.length ≤ i⟩
/-- lo, lo + 1, .. (n of them) -/
def Itr (lo : Int) (n : Nat) : It := ⟨fun i _ => i < n, fun i H x H' => H' = H ∧ x = .int (lo + i), fun i _ => n ≤ i⟩
theorem turn_list {P : Program} {w : World} {K : PySem.W.Frag} {tg : Expr} (a it : Addr) : Turn P w K tg (Itl K a) [it] it (fun i h => h.IsListIter it a i) where
  mem := by simp
  obj := fun i h st b hb => by
    have e : b = it := by simpa using hb
    subst e
    obtain ⟨o, e, c, d⟩ := st
    exact ⟨o, e, fun v z => by rw [d] at z; cases z⟩
  keep := fun i h h' st k => st.at fun o e => k it (by simp) o e
  item := by
    intro X hP hw hK hc i pins s σ H E I hf st hg
    subst hP hw hK
    obtain ⟨xs, x, hq, hx⟩ := hg
    obtain ⟨its, rv, p, hz⟩ := I.list hq
    obtain ⟨u, hu, ru⟩ := rv.get hx
    obtain ⟨f0, f1, f2, f3, f4, f5⟩ := hf it (by simp)
    refine wpAny_pyNext_list_item st p.isList (x := u) (by simpa using hu) fun h' st' sb => ?_
    have I1 : Inv X pins σ H { s with heap := h' } := I.turned (t' := s.toks) (fun b o hb e => (sb.2 b hb).trans e) f0 f1 f3 f4 f5
    obtain ⟨o, e, c, d⟩ := id st'
    exact ⟨u, rfl, go_of (s := { s with heap := h' }) e c d (by decide) ⟨x, H, I1, ru, ⟨rfl, fun ys hy => by rw [I.list_inj hy hq]; exact hx⟩, st', fun b hb => (hf b hb).1⟩⟩
  done := by
    intro X hP hw hK hc i pins s σ H E I hf st hg
    subst hP hw hK
    obtain ⟨xs, hq, hx⟩ := hg
    obtain ⟨its, rv, p, hz⟩ := I.list hq
    obtain ⟨f0, f1, f2, f3, f4, f5⟩ := hf it (by simp)
    have hl := rv.length
    exact wpAny_pyNext_list_end (I.ok.hd hc) st p.isList (by simp; omega) fun h' eb => ⟨rfl, I.turned (t' := s.toks) (fun b o hb e => eb b o hb e) f0 f1 f3 f4 f5⟩
  self := fun _ _ _ _ _ st h => wpAny_pyIter_listiter st h
theorem turn_tuple {P : Program} {w : World} {K : PySem.W.Frag} {tg : Expr} (a it : Addr) : Turn P w K tg (Itt K a) [it] it (fun i h => h.IsTupleIter it a i) where
  mem := by simp
  obj := fun i h st b hb => by
    have e : b = it := by simpa using hb
    subst e
    obtain ⟨o, e, c, d⟩ := st
    exact ⟨o, e, fun v z => by rw [d] at z; cases z⟩
  keep := fun i h h' st k => st.at fun o e => k it (by simp) o e
  item := by
    intro X hP hw hK hc i pins s σ H E I hf st hg
    subst hP hw hK
    obtain ⟨xs, x, hq, hx⟩ := hg
    obtain ⟨its, rv, p, hz⟩ := I.tuple hq
    obtain ⟨u, hu, ru⟩ := rv.get hx
    obtain ⟨f0, f1, f2, f3, f4, f5⟩ := hf it (by simp)
    refine wpAny_pyNext_tuple_item st (show s.heap.IsTuple a its.toArray from p) (x := u) (by simpa using hu) fun h' st' sb => ?_
    have I1 : Inv X pins σ H { s with heap := h' } := I.turned (t' := s.toks) (fun b o hb e => (sb.2 b hb).trans e) f0 f1 f3 f4 f5
    obtain ⟨o, e, c, d⟩ := id st'
    exact ⟨u, rfl, go_of (s := { s with heap := h' }) e c d (by decide) ⟨x, H, I1, ru, ⟨rfl, fun ys hy => by rw [I.tuple_inj hy hq]; exact hx⟩, st', fun b hb => (hf b hb).1⟩⟩
  done := by
    intro X hP hw hK hc i pins s σ H E I hf st hg
    subst hP hw hK
    obtain ⟨xs, hq, hx⟩ := hg
    obtain ⟨its, rv, p, hz⟩ := I.tuple hq
    obtain ⟨f0, f1, f2, f3, f4, f5⟩ := hf it (by simp)
    have hl := rv.length
    exact wpAny_pyNext_tuple_end (I.ok.hd hc) st (show s.heap.IsTuple a its.toArray from p) (by simp; omega) fun h' eb => ⟨rfl, I.turned (t' := s.toks) (fun b o hb e => eb b o hb e) f0 f1 f3 f4 f5⟩
  self := fun _ _ _ _ _ st h => wpAny_pyIter_tupleiter st h
theorem turn_range {P : Program} {w : World} {K : PySem.W.Frag} {tg : Expr} (it : Addr) (lo : Int) (n : Nat) : Turn P w K tg (Itr lo n) [it] it (fun i h => IsRangeIter h it (lo + (i : Nat) * 1) ((n : Int) - (i : Nat)) 1) where
  mem := by simp
  obj := fun i h st b hb => by
    have e : b = it := by simpa using hb
    subst e
    exact ⟨_, st, fun v z => by
      have z' : Data.fields _ = Data.cell v := z
      cases z'⟩
  keep := fun i h h' st k => k it (by simp) _ st
  item := by
    intro X hP hw hK hc i pins s σ H E I hf st hg
    subst hP hw hK
    obtain ⟨f0, f1, f2, f3, f4, f5⟩ := hf it (by simp)
    have W := Walks.range (prog := X.prog) (w := X.w) (I.ok.hd hc) it lo 1 n
    refine W.item i s _ _ hg st fun v h' tk hv st' kk => ?_
    obtain ⟨t, rfl⟩ := hv
    have I1 : Inv X pins σ H { s with heap := h', toks := tk } := I.turned (fun b o hb e => kk b o (by simpa using hb) e) f0 f1 f3 f4 f5
    refine ⟨_, rfl, go_of (s := { s with heap := h', toks := tk }) (n := "range_iterator") st' rfl rfl (by decide) ⟨.int (lo + i), H, I1, ⟨t, ?_⟩, ⟨rfl, rfl⟩, st', fun b hb => (hf b hb).1⟩⟩
    rw [Int.mul_one]
  done := by
    intro X hP hw hK hc i pins s σ H E I hf st hg
    subst hP hw hK
    obtain ⟨f0, f1, f2, f3, f4, f5⟩ := hf it (by simp)
    exact wpAny_pyNext_range_end (I.ok.hd hc) st (by have : n ≤ i := hg; omega) fun h' eb => ⟨rfl, I.turned (t' := s.toks) (fun b o hb e => eb b o hb e) f0 f1 f3 f4 f5⟩
  self := fun _ _ _ _ _ st h => wpAny_pyIter_rangeiter st h
end L2

namespace L2
open PySem PySem.Spec PyProof.Rows
section
variable {X : Cx} {tg : Expr}
def iList (K : PySem.W.Frag) (tl : TE) : TI := fun σ H R => tl σ H fun x H1 => ∃ a, x = .ref a ∧ (∃ xs, SqL K H1 a xs) ∧ R (Itl K a) H1
def iTup (K : PySem.W.Frag) (tl : TE) : TI := fun σ H R => tl σ H fun x H1 => ∃ a, x = .ref a ∧ (∃ xs, SqT K H1 a xs) ∧ R (Itt K a) H1
theorem pi_list {l : Expr} {tl : TE} (hl : PE X l tl) : PI X tg l (iList X.K tl) := by
  intro pins s σ H R I h
  refine thn (hl pins s σ H _ I h) fun v s1 ⟨x, H1, I1, r1, q1⟩ => ?_
  obtain ⟨a, e, ⟨xs, hq⟩, q⟩ := q1
  subst e
  cases r1
  obtain ⟨its, rv, p, hz⟩ := I1.list hq
  refine wpAny_pyIter_list p.isList ?_
  refine ⟨s1.heap.objs.size, [s1.heap.objs.size], _, _, H1, rfl, I1.kept (t' := s1.toks) fun b o e => Heap.get?_push_of_some _ e, turn_list a _, ⟨_, Heap.get?_push_size _ rfl, rfl, rfl⟩, fun b hb => ?_, q⟩
  have e : b = s1.heap.objs.size := by simpa using hb
  subst e
  exact I1.fpOk (Nat.le_refl _) (I1.hok.fresh (Nat.le_refl _))
theorem pi_tup {l : Expr} {tl : TE} (hl : PE X l tl) : PI X tg l (iTup X.K tl) := by
  intro pins s σ H R I h
  refine thn (hl pins s σ H _ I h) fun v s1 ⟨x, H1, I1, r1, q1⟩ => ?_
  obtain ⟨a, e, ⟨xs, hq⟩, q⟩ := q1
  subst e
  cases r1
  obtain ⟨its, rv, p, hz⟩ := I1.tuple hq
  refine wpAny_pyIter_tuple (show s1.heap.IsTuple a its.toArray from p) ?_
  refine ⟨s1.heap.objs.size, [s1.heap.objs.size], _, _, H1, rfl, I1.kept (t' := s1.toks) fun b o e => Heap.get?_push_of_some _ e, turn_tuple a _, ⟨_, Heap.get?_push_size _ rfl, rfl, rfl⟩, fun b hb => ?_, q⟩
  have e : b = s1.heap.objs.size := by simpa using hb
  subst e
  exact I1.fpOk (Nat.le_refl _) (I1.hok.fresh (Nat.le_refl _))
/-- a range object just made, walked -/
theorem range_it {pins : List (Addr × Obj)} {σ : St} {H : Hp} {s : Shared} {R : It → Hp → Prop} {E : Value → Shared → Prop} {lo hi : Int} {t u v : Tok} {tk : Nat} (I : Inv X pins σ H s) (h1 : -(2 ^ 62) ≤ lo) (h2 : lo < 2 ^ 62) (h3 : -(2 ^ 62) ≤ hi) (h4 : hi < 2 ^ 62)
    (q : R (Itr lo (hi - lo).toNat) H) : wpAny (model X.prog X.w) X.A (pyIter (.ref s.heap.objs.size)) (PIE X pins σ tg R) E { s with heap := s.heap.push { cls := .type "range", data := .fields #[.int lo t, .int hi u, .int 1 v] }, toks := tk } := by
  refine wpAny_pyIter_range (IsRange.new ..) (small_one h1 h2 h3 h4) ?_
  have I1 : Inv X pins σ H { s with heap := s.heap.push { cls := .type "range", data := .fields #[.int lo t, .int hi u, .int 1 v] }, toks := tk } := I.kept fun b o e => Heap.get?_push_of_some _ e
  refine ⟨(s.heap.push { cls := .type "range", data := .fields #[.int lo t, .int hi u, .int 1 v] }).objs.size, [(s.heap.push { cls := .type "range", data := .fields #[.int lo t, .int hi u, .int 1 v] }).objs.size], _, _, H, rfl,
    I1.kept (t' := tk) fun b o e => Heap.get?_push_of_some _ e, turn_range _ lo (hi - lo).toNat, ?_, fun b hb => ?_, q⟩
  · have e1 : lo + ((0 : Nat) : Int) * 1 = lo := by simp
    have e2 : (((hi - lo).toNat : Nat) : Int) - ((0 : Nat) : Int) = Builtin.Range.rangeSize lo hi 1 := by rw [rangeSize_one]; split <;> omega
    show IsRangeIter _ _ (lo + ((0 : Nat) : Int) * 1) ((((hi - lo).toNat : Nat) : Int) - ((0 : Nat) : Int)) 1
    rw [e1, e2]
    exact Heap.get?_push_size _ rfl
  · have e : b = (s.heap.push { cls := .type "range", data := .fields #[.int lo t, .int hi u, .int 1 v] }).objs.size := by simpa using hb
    subst e
    exact I1.fpOk (Nat.le_refl _) (I1.hok.fresh (Nat.le_refl _))
def iRng1 (ta : TA) : TI := fun σ H R => ta σ H fun vs H1 => ∃ j : Int, vs = [.int j] ∧ -(2 ^ 62) ≤ j ∧ j < 2 ^ 62 ∧ R (Itr 0 j.toNat) H1
def iRng2 (ta : TA) : TI := fun σ H R => ta σ H fun vs H1 => ∃ i j : Int, vs = [.int i, .int j] ∧ (-(2 ^ 62) ≤ i ∧ i < 2 ^ 62 ∧ -(2 ^ 62) ≤ j ∧ j < 2 ^ 62) ∧ R (Itr i (j - i).toNat) H1
theorem pi_range1 {a : Expr} {ta : TA} {p pos : Pos} (hg : Gl X "range") (hm : X.mg "range" = none) (ha : PA X [a] ta) (hs : starEach [a] X.env = [(false, eval a X.env)] := by rfl) : PI X tg (.Call (.Name "range" p) [a] [] pos) (iRng1 ta) := by
  intro pins s σ H R I h
  refine Call_ (ld_blt I hg hm boot_range (PyProof.Rows.callWith_type1 (thn (ha pos pins s σ H _ I h) fun us s1 ⟨vs, H1, I1, r1, q1⟩ => ?_) hs rfl))
  obtain ⟨j, e, q1, q2, q⟩ := q1
  subst e
  cases r1 with
  | cons r rr =>
    cases rr
    obtain ⟨t, rfl⟩ := r
    exact call_range_1 (range_it I1 (by omega) (by omega) q1 q2 (by simpa using q))
theorem pi_range2 {a b : Expr} {ta : TA} {p pos : Pos} (hg : Gl X "range") (hm : X.mg "range" = none) (ha : PA X [a, b] ta) (hs : starEach [a, b] X.env = [(false, eval a X.env), (false, eval b X.env)] := by rfl) (hs2 : starEach [b] X.env = [(false, eval b X.env)] := by rfl) :
    PI X tg (.Call (.Name "range" p) [a, b] [] pos) (iRng2 ta) := by
  intro pins s σ H R I h
  refine Call_ (ld_blt I hg hm boot_range (PyProof.Rows.callWith_type1 (thn (ha pos pins s σ H _ I h) fun us s1 ⟨vs, H1, I1, r1, q1⟩ => ?_) (by rw [hs, hs2]) (by rw [hs2]; rfl)))
  obtain ⟨i, j, e, ⟨q1, q2, q3, q4⟩, q⟩ := q1
  subst e
  cases r1 with
  | cons r rr =>
    cases rr with
    | cons r' rr =>
      cases rr
      obtain ⟨t, rfl⟩ := r
      obtain ⟨t', rfl⟩ := r'
      exact call_range_2 (range_it I1 q1 q2 q3 q4 q)

/-! ### for -/
/-- W: the invariant by the turn and a measure; N: what the body is to reach -/
def tFor (wi : TI) (g : TG) (tb : TS) : TS := fun D σ H => wi σ H fun J H1 => ∃ W : Nat → Nat → St → Hp → Prop, (∃ m, W 0 m σ H1) ∧ ∀ i m σ H, W i m σ H →
  (J.stop i H ∧ D.nx σ H) ∨ (J.go i H ∧ ∃ N : St → Hp → Prop, (∀ σ' H', N σ' H' → ∃ m', m' < m ∧ W (i + 1) m' σ' H') ∧ ∀ x H', J.yld i H x H' → g x σ H' fun σ2 H2 => tb { D with nx := N, ct := N, bk := D.nx } σ2 H2)
/-- the records at fp as they stand -/
def pinsAt (fp : List Addr) (h : Heap) : List (Addr × Obj) := fp.filterMap fun b => (h.get? b).map fun o => (b, o)
theorem mem_pinsAt {fp : List Addr} {h : Heap} {b : Addr} {o : Obj} (hb : b ∈ fp) (e : h.get? b = some o) : (b, o) ∈ pinsAt fp h := List.mem_filterMap.mpr ⟨b, hb, by rw [e]; rfl⟩
theorem of_pinsAt {fp : List Addr} {h : Heap} {p : Addr × Obj} (hp : p ∈ pinsAt fp h) : p.1 ∈ fp ∧ h.get? p.1 = some p.2 := by
  obtain ⟨b, hb, e⟩ := List.mem_filterMap.mp hp
  cases q : h.get? b with
  | none => rw [q] at e; cases e
  | some o =>
    rw [q] at e
    have e' : (b, o) = p := Option.some.inj e
    subst e'
    exact ⟨hb, q⟩
theorem Inv.pinned {pins : List (Addr × Obj)} {σ : St} {H : Hp} {s : Shared} {fp : List Addr} (I : Inv X pins σ H s) (hf : ∀ b ∈ fp, FpOk X pins H b) (ho : ∀ b ∈ fp, ∃ o, s.heap.get? b = some o ∧ ∀ v, o.data ≠ .cell v) : Inv X (pins ++ pinsAt fp s.heap) σ H s :=
  I.pins_of fun p hp => (List.mem_append.mp hp).elim (fun z => I.pin p (List.mem_append_right _ z)) fun z => by
    obtain ⟨hb, e⟩ := of_pinsAt z
    obtain ⟨f0, f1, f2, _⟩ := hf p.1 hb
    obtain ⟨o, e', d⟩ := ho p.1 hb
    rw [e] at e'; cases e'
    exact ⟨e, f0, f1, f2, d⟩
theorem Inv.unpinned {pins pl : List (Addr × Obj)} {σ : St} {H : Hp} {s : Shared} (I : Inv X (pins ++ pl) σ H s) : Inv X pins σ H s := I.pins_of fun p hp => I.pin p (List.mem_append_right _ (List.mem_append_left _ hp))
theorem ps_for {iter : Expr} {body : List Stmt} {wi : TI} {g : TG} {tb : TS} {pos : Pos} (hp : PassesOwn (model X.prog X.w) X.A X.env X.xe) (hc : X.calm = true) (hi : PI X tg iter wi) (hg : PG X tg g) (hb : PSs X body tb)
    (hs : ∀ x, foldedSetIterable iter X.env x = pure x := by intro _; rfl) : PS X (.For tg iter body [] pos) (tFor wi g tb) := by
  intro pins s σ H D I h
  refine wpAny_For (thn (hi pins s σ H _ I h) fun v s1 h1 => thn h1 fun itv s2 h2 => ?_) hs
  obtain ⟨it, fp, tn, J, H2, e, I2, T, st2, f2, W, ⟨m0, w0⟩, turn⟩ := h2
  subst e
  -- what stays true of the iterator's objects through the loop
  have stat : ∀ {H' : Hp}, (∀ b ∈ fp, H' b = none) → ∀ b ∈ fp, FpOk X pins H' b := fun hn b hb => ⟨hn b hb, (f2 b hb).2⟩
  refine codeAny_forLoop_any (fun n s' => ∃ i σ' H', Inv X pins σ' H' s' ∧ tn i s'.heap ∧ (∀ b ∈ fp, H' b = none) ∧ W i n σ' H') ?_ m0 ⟨0, σ, H2, I2, st2, fun b hb => (f2 b hb).1, w0⟩
  rintro n s3 ⟨i, σ3, H3, I3, st3, fr3, w3⟩
  rcases turn i n σ3 H3 w3 with ⟨stop, qn⟩ | ⟨go, N, hN, step⟩
  · refine wpAny_passesOwn hp (thn (T.done X rfl rfl rfl hc i pins s3 σ3 H3 X.xe I3 (stat fr3) st3 stop) fun r s4 ⟨hr, I4⟩ => ?_)
    subst hr
    exact wpAny_execs_nil ⟨σ3, H3, I4, qn⟩
  · refine wpAny_passesOwn hp (thn (T.item X rfl rfl rfl hc i pins s3 σ3 H3 X.xe I3 (stat fr3) st3 go) fun r s4 ⟨u, hr, h4⟩ => ?_)
    subst hr
    refine wpAny_passesOwn hp (thn h4 fun _ s5 ⟨x, H5, I5, r5, y5, st5, fr5⟩ => ?_)
    have I5' := I5.pinned (stat fr5) (T.obj _ _ st5)
    refine wpAny_passesOwn hp (thn (hg _ s5 σ3 H5 x u _ I5' r5 (step x H5 y5)) fun _ s6 ⟨σ6, H6, I6, q6⟩ => ?_)
    refine wpAny_passesOwn hp (thn (hb _ s6 σ6 H6 _ I6 q6) fun f s7 q7 => ?_)
    have again : ∀ {σ7 : St} {H7 : Hp}, Inv X (pins ++ pinsAt fp s5.heap) σ7 H7 s7 → N σ7 H7 → ∃ m, m < n ∧ ∃ i σ' H', Inv X pins σ' H' s7 ∧ tn i s7.heap ∧ (∀ b ∈ fp, H' b = none) ∧ W i m σ' H' := fun {σ7 H7} I7 n7 => by
      obtain ⟨m', hm, w7⟩ := hN σ7 H7 n7
      refine ⟨m', hm, i + 1, σ7, H7, I7.unpinned, T.keep _ _ _ st5 fun b hb o e => (I7.pin (b, o) (List.mem_append_right _ (List.mem_append_right _ (mem_pinsAt hb e)))).1, fun b hb => ?_, w7⟩
      obtain ⟨o, e, d⟩ := T.obj _ _ st5 b hb
      exact (I7.pin (b, o) (List.mem_append_right _ (List.mem_append_right _ (mem_pinsAt hb e)))).2.1
    cases f with
    | next => obtain ⟨σ7, H7, I7, n7⟩ := q7; exact again I7 n7
    | cont => obtain ⟨σ7, H7, I7, n7⟩ := q7; exact again I7 n7
    | brk => obtain ⟨σ7, H7, I7, q7⟩ := q7; exact ⟨σ7, H7, I7.unpinned, q7⟩
    | ret v => obtain ⟨x7, σ7, H7, I7, r7, q7⟩ := q7; exact ⟨x7, σ7, H7, I7.unpinned, r7, q7⟩
end

/-! ### the forms one uses -/
/-- over a list that the body leaves as it is -/
theorem for_list {K : PySem.W.Frag} {a : Addr} {xs : List V} {g : TG} {tb : TS} {D : Ends} {σ : St} {H : Hp} (Pv : Nat → St → Hp → Prop) (h0 : Pv 0 σ H) (hl : ∀ i σ H, i ≤ xs.length → Pv i σ H → SqL K H a xs)
    (hs : ∀ i x σ H, xs[i]? = some x → Pv i σ H → g x σ H fun σ2 H2 => tb { D with nx := Pv (i + 1), ct := Pv (i + 1), bk := D.nx } σ2 H2) (hd : ∀ σ H, Pv xs.length σ H → D.nx σ H) :
    ∃ W : Nat → Nat → St → Hp → Prop, (∃ m, W 0 m σ H) ∧ ∀ i m σ H, W i m σ H →
      ((Itl K a).stop i H ∧ D.nx σ H) ∨ ((Itl K a).go i H ∧ ∃ N : St → Hp → Prop, (∀ σ' H', N σ' H' → ∃ m', m' < m ∧ W (i + 1) m' σ' H') ∧ ∀ x H', (Itl K a).yld i H x H' → g x σ H' fun σ2 H2 => tb { D with nx := N, ct := N, bk := D.nx } σ2 H2) := by
  refine ⟨fun i m σ H => m = xs.length - i ∧ i ≤ xs.length ∧ Pv i σ H, ⟨xs.length, by simp, Nat.zero_le _, h0⟩, ?_⟩
  rintro i m σ H ⟨rfl, hi, p⟩
  have q := hl i σ H hi p
  by_cases hlt : i < xs.length
  · refine .inr ⟨⟨xs, xs[i], q, by simp [hlt]⟩, Pv (i + 1), fun σ' H' p' => ⟨xs.length - (i + 1), by omega, rfl, hlt, p'⟩, fun x H' y => ?_⟩
    obtain ⟨e, y⟩ := y
    subst e
    exact hs i x σ _ (y xs q) p
  · have e : i = xs.length := by omega
    subst e
    exact .inl ⟨⟨xs, q, Nat.le_refl _⟩, hd σ H p⟩
theorem for_tup {K : PySem.W.Frag} {a : Addr} {xs : List V} {g : TG} {tb : TS} {D : Ends} {σ : St} {H : Hp} (Pv : Nat → St → Hp → Prop) (h0 : Pv 0 σ H) (hl : ∀ i σ H, i ≤ xs.length → Pv i σ H → SqT K H a xs)
    (hs : ∀ i x σ H, xs[i]? = some x → Pv i σ H → g x σ H fun σ2 H2 => tb { D with nx := Pv (i + 1), ct := Pv (i + 1), bk := D.nx } σ2 H2) (hd : ∀ σ H, Pv xs.length σ H → D.nx σ H) :
    ∃ W : Nat → Nat → St → Hp → Prop, (∃ m, W 0 m σ H) ∧ ∀ i m σ H, W i m σ H →
      ((Itt K a).stop i H ∧ D.nx σ H) ∨ ((Itt K a).go i H ∧ ∃ N : St → Hp → Prop, (∀ σ' H', N σ' H' → ∃ m', m' < m ∧ W (i + 1) m' σ' H') ∧ ∀ x H', (Itt K a).yld i H x H' → g x σ H' fun σ2 H2 => tb { D with nx := N, ct := N, bk := D.nx } σ2 H2) := by
  refine ⟨fun i m σ H => m = xs.length - i ∧ i ≤ xs.length ∧ Pv i σ H, ⟨xs.length, by simp, Nat.zero_le _, h0⟩, ?_⟩
  rintro i m σ H ⟨rfl, hi, p⟩
  have q := hl i σ H hi p
  by_cases hlt : i < xs.length
  · refine .inr ⟨⟨xs, xs[i], q, by simp [hlt]⟩, Pv (i + 1), fun σ' H' p' => ⟨xs.length - (i + 1), by omega, rfl, hlt, p'⟩, fun x H' y => ?_⟩
    obtain ⟨e, y⟩ := y
    subst e
    exact hs i x σ _ (y xs q) p
  · have e : i = xs.length := by omega
    subst e
    exact .inl ⟨⟨xs, q, Nat.le_refl _⟩, hd σ H p⟩
theorem for_range {lo : Int} {n : Nat} {g : TG} {tb : TS} {D : Ends} {σ : St} {H : Hp} (Pv : Nat → St → Hp → Prop) (h0 : Pv 0 σ H)
    (hs : ∀ i σ H, i < n → Pv i σ H → g (.int (lo + i)) σ H fun σ2 H2 => tb { D with nx := Pv (i + 1), ct := Pv (i + 1), bk := D.nx } σ2 H2) (hd : ∀ σ H, Pv n σ H → D.nx σ H) :
    ∃ W : Nat → Nat → St → Hp → Prop, (∃ m, W 0 m σ H) ∧ ∀ i m σ H, W i m σ H →
      ((Itr lo n).stop i H ∧ D.nx σ H) ∨ ((Itr lo n).go i H ∧ ∃ N : St → Hp → Prop, (∀ σ' H', N σ' H' → ∃ m', m' < m ∧ W (i + 1) m' σ' H') ∧ ∀ x H', (Itr lo n).yld i H x H' → g x σ H' fun σ2 H2 => tb { D with nx := N, ct := N, bk := D.nx } σ2 H2) := by
  refine ⟨fun i m σ H => m = n - i ∧ i ≤ n ∧ Pv i σ H, ⟨n, by simp, Nat.zero_le _, h0⟩, ?_⟩
  rintro i m σ H ⟨rfl, hi, p⟩
  by_cases hlt : i < n
  · refine .inr ⟨hlt, Pv (i + 1), fun σ' H' p' => ⟨n - (i + 1), by omega, rfl, hlt, p'⟩, fun x H' y => ?_⟩
    obtain ⟨e, y⟩ := y
    subst e y
    exact hs i σ _ hlt p
  · have e : i = n := by omega
    subst e
    exact .inl ⟨Nat.le_refl _, hd σ H p⟩
/-- while, by a word and a measure of the state -/
theorem while_by {c : TT} {tb : TS} {D : Ends} {σ : St} {H : Hp} (Pv : St → Hp → Prop) (μ : St → Hp → Nat) (h0 : Pv σ H)
    (hs : ∀ σ H, Pv σ H → c σ H fun b H1 => if b = true then tb { D with nx := fun σ' H' => Pv σ' H' ∧ μ σ' H' < μ σ H, ct := fun σ' H' => Pv σ' H' ∧ μ σ' H' < μ σ H, bk := D.nx } σ H1 else D.nx σ H1)
    (mono : ∀ σ H Q Q', (∀ b H1, Q b H1 → Q' b H1) → c σ H Q → c σ H Q') : tWhile c tb D σ H := by
  refine ⟨fun m σ H => m = μ σ H ∧ Pv σ H, ⟨_, rfl, h0⟩, ?_⟩
  rintro m σ H ⟨rfl, p⟩
  refine mono σ H _ _ (fun b H1 q => ?_) (hs σ H p)
  cases b with
  | true => exact ⟨_, fun σ' H' ⟨p', l⟩ => ⟨_, l, rfl, p'⟩, q⟩
  | false => exact q
end L2

namespace L2
open PySem PySem.Spec PyProof.Rows

abbrev R2 := V → V → Hp → VK → Prop
/-- a two-place operation on values: f is binaryOp op, inplaceOp op or compareOp op -/
def OpR (X : Cx) (f : Value → Value → Sem Value) (r : R2) : Prop :=
  ∀ (pins : List (Addr × Obj)) (s : Shared) (σ : St) (H : Hp) (x y : V) (v u : Value) (Q : VK), Inv X pins σ H s → RelV x v → RelV y u → r x y H Q →
    wpAny (model X.prog X.w) X.A (f v u) (EP X pins σ Q) X.xe s
/-- a one-place operation -/
def UnR (X : Cx) (f : Value → Sem Value) (r : V → Hp → VK → Prop) : Prop :=
  ∀ (pins : List (Addr × Obj)) (s : Shared) (σ : St) (H : Hp) (x : V) (v : Value) (Q : VK), Inv X pins σ H s → RelV x v → r x H Q →
    wpAny (model X.prog X.w) X.A (f v) (EP X pins σ Q) X.xe s
/-- a call of a value that is known (a builtin, a type) with values -/
def CallR (X : Cx) (f : Value) (r : List V → Hp → VK → Prop) : Prop :=
  ∀ (pins : List (Addr × Obj)) (s : Shared) (σ : St) (H : Hp) (xs : List V) (us : List Value) (Q : VK), Inv X pins σ H s → Vals xs us → r xs H Q →
    wpAny (model X.prog X.w) X.A (call f us) (EP X pins σ Q) X.xe s
/-- a value's truth -/
def TruR (X : Cx) (r : V → Hp → (Bool → Hp → Prop) → Prop) : Prop :=
  ∀ (pins : List (Addr × Obj)) (s : Shared) (σ : St) (H : Hp) (x : V) (v : Value) (Q : Bool → Hp → Prop), Inv X pins σ H s → RelV x v → r x H Q →
    wpAny (model X.prog X.w) X.A (truthy v) (TP X pins σ Q) X.xe s

def tOp (r : R2) (ta tb : TE) : TE := fun σ H Q => ta σ H fun x H1 => tb σ H1 fun y H2 => r x y H2 Q
def tUn (r : V → Hp → VK → Prop) (ta : TE) : TE := fun σ H Q => ta σ H fun x H1 => r x H1 Q
/-- ints in, under C, and a value out -/
def rI (C : Int → Int → Prop) (g : Int → Int → V) : R2 := fun x y H Q => ∃ i j, x = .int i ∧ y = .int j ∧ C i j ∧ Q (g i j) H
def rI0 (g : Int → Int → V) : R2 := fun x y H Q => ∃ i j, x = .int i ∧ y = .int j ∧ Q (g i j) H
def rU (g : Int → V) : V → Hp → VK → Prop := fun x H Q => ∃ i, x = .int i ∧ Q (g i) H

section
variable {X : Cx} {a b c : Expr} {ta tb tc : TE} {pos : Pos}

theorem binT (ha : PE X a ta) (hb : PE X b tb) {pins : List (Addr × Obj)} {s : Shared} {σ : St} {H : Hp} {R : V → V → Hp → Prop} (I : Inv X pins σ H s)
    (h : ta σ H fun x H1 => tb σ H1 fun y H2 => R x y H2) {Q : Value → Shared → Prop} {f : Value → Value → Sem Value}
    (hf : ∀ v u s2 x y H2, Inv X pins σ H2 s2 → RelV x v → RelV y u → R x y H2 → wpAny (model X.prog X.w) X.A (f v u) Q X.xe s2) :
    wpAny (model X.prog X.w) X.A (eval a X.env) (fun v s₁ => wpAny (model X.prog X.w) X.A (eval b X.env) (fun u s₂ => wpAny (model X.prog X.w) X.A (f v u) Q X.xe s₂) X.xe s₁) X.xe s := by
  refine thn (ha pins s σ H _ I h) fun v s1 ⟨x, H1, I1, r1, q1⟩ => ?_
  refine thn (hb pins s1 σ H1 _ I1 q1) fun u s2 ⟨y, H2, I2, r2, q2⟩ => ?_
  exact hf v u s2 x y H2 I2 r1 r2 q2

theorem pe_op {op : Operator} {r : R2} (ho : OpR X (binaryOp op) r) (ha : PE X a ta) (hb : PE X b tb) : PE X (.BinOp a op b pos) (tOp r ta tb) := by
  intro pins s σ H Q I h
  exact wpAny_BinOp (binT ha hb I h fun v u s2 x y H2 I2 rx ry q => ho pins s2 σ H2 x y v u Q I2 rx ry q)
theorem pe_un {op : UnaryOp} {r : V → Hp → VK → Prop} (ho : UnR X (unaryOp op) r) (ha : PE X a ta) : PE X (.UnaryOp op a pos) (tUn r ta) := by
  intro pins s σ H Q I h
  exact UnaryOp_ (thn (ha pins s σ H _ I h) fun v s1 ⟨x, H1, I1, r1, q1⟩ => ho pins s1 σ H1 x v Q I1 r1 q1)
/-- a op= e at a name: the name's slot i -/
theorem augR {op : Operator} {r : R2} (ho : OpR X (inplaceOp op) r) {pins : List (Addr × Obj)} {s : Shared} {σ : St} {H : Hp} {x y : V} {v u : Value} {Q : VK} (I : Inv X pins σ H s)
    (rx : RelV x v) (ry : RelV y u) (q : r x y H Q) : wpAny (model X.prog X.w) X.A (inplaceOp op v u) (EP X pins σ Q) X.xe s := ho pins s σ H x y v u Q I rx ry q

/-! ### ints -/
theorem opI {f : Value → Value → Sem Value} {C : Int → Int → Prop} {g : Int → Int → Int}
    (rule : ∀ (i j : Int) (t u : Tok) (s : Shared) (Q : Value → Shared → Prop) (E : Value → Shared → Prop), C i j → Q (.int (g i j) s.toks) { s with toks := s.toks + 1 } → wpAny (model X.prog X.w) X.A (f (.int i t) (.int j u)) Q E s) :
    OpR X f (rI C fun i j => .int (g i j)) := by
  intro pins s σ H x y v u Q I rx ry h
  obtain ⟨i, j, rfl, rfl, hc, q⟩ := h
  obtain ⟨t, rfl⟩ := rx
  obtain ⟨t', rfl⟩ := ry
  exact rule i j t t' s _ _ hc ⟨.int (g i j), H, I.tok _, ⟨_, rfl⟩, q⟩
theorem opI0 {f : Value → Value → Sem Value} {g : Int → Int → Int}
    (rule : ∀ (i j : Int) (t u : Tok) (s : Shared) (Q : Value → Shared → Prop) (E : Value → Shared → Prop), Q (.int (g i j) s.toks) { s with toks := s.toks + 1 } → wpAny (model X.prog X.w) X.A (f (.int i t) (.int j u)) Q E s) :
    OpR X f (rI0 fun i j => .int (g i j)) := by
  intro pins s σ H x y v u Q I rx ry h
  obtain ⟨i, j, rfl, rfl, q⟩ := h
  obtain ⟨t, rfl⟩ := rx
  obtain ⟨t', rfl⟩ := ry
  exact rule i j t t' s _ _ ⟨.int (g i j), H, I.tok _, ⟨_, rfl⟩, q⟩
theorem opB0 {f : Value → Value → Sem Value} {g : Int → Int → Bool}
    (rule : ∀ (i j : Int) (t u : Tok) (s : Shared) (Q : Value → Shared → Prop) (E : Value → Shared → Prop), Q (.bool (g i j)) s → wpAny (model X.prog X.w) X.A (f (.int i t) (.int j u)) Q E s) :
    OpR X f (rI0 fun i j => .bl (g i j)) := by
  intro pins s σ H x y v u Q I rx ry h
  obtain ⟨i, j, rfl, rfl, q⟩ := h
  obtain ⟨t, rfl⟩ := rx
  obtain ⟨t', rfl⟩ := ry
  exact rule i j t t' s _ _ ⟨.bl (g i j), H, I, rfl, q⟩

def CDiv (i j : Int) : Prop := 0 < j ∧ j < 1073741824
def CDivN (i j : Int) : Prop := j ≠ 0 ∧ j.natAbs < 1073741824
def CPow (i j : Int) : Prop := 0 ≤ j ∧ j ≤ 1000000 ∧ i.natAbs < 2 ^ 64
def CMul (i j : Int) : Prop := (-(2 ^ 64) < i ∧ i < 2 ^ 64) ∨ (-(2 ^ 64) < j ∧ j < 2 ^ 64)
theorem CMul.ok {i j : Int} (h : CMul i j) : IntMulOk i j := by
  rcases h with ⟨h1, h2⟩ | ⟨h1, h2⟩
  · exact .of_left (intBits_le_64 h1 h2)
  · exact .of_right (intBits_le_64 h1 h2)
theorem two_pow_nn (k : Nat) : (0 : Int) ≤ 2 ^ k := by
  rw [two_pow_cast]
  exact Int.natCast_nonneg _

theorem op_add : OpR X (binaryOp .Add) (rI0 fun i j => .int (i + j)) := opI0 fun _ _ _ _ _ _ _ q => add_int q
theorem op_sub : OpR X (binaryOp .Sub) (rI0 fun i j => .int (i - j)) := opI0 fun _ _ _ _ _ _ _ q => sub_int q
theorem op_mul : OpR X (binaryOp .Mult) (rI CMul fun i j => .int (i * j)) := opI fun _ _ _ _ _ _ _ hc q => mul_int q hc.ok
/-- // by a positive divisor -/
theorem op_fdiv : OpR X (binaryOp .FloorDiv) (rI CDiv fun i j => .int (i / j)) := opI fun i j _ _ _ _ _ hc q => by
  have h1 : (0 : Int) < j := hc.1
  have h2 : j < 1073741824 := hc.2
  exact floordiv_int (by omega) (by rw [Int.fdiv_eq_ediv_of_nonneg i (by omega)]; exact q) (.inl (PyProof.noPylong_small (by omega)))
theorem op_fdivN : OpR X (binaryOp .FloorDiv) (rI CDivN fun i j => .int (i.fdiv j)) := opI fun _ _ _ _ _ _ _ hc q => floordiv_int hc.1 q (.inl (PyProof.noPylong_small hc.2))
/-- % by a positive divisor of any size -/
theorem op_mod : OpR X (binaryOp .Mod) (rI (fun _ j => 0 < j) fun i j => .int (i % j)) := opI fun i j _ _ _ _ _ hc q => by
  have h1 : (0 : Int) < j := hc
  exact mod_int' (by omega) (by rw [Int.fmod_eq_emod_of_nonneg i (by omega)]; exact q)
theorem op_modN : OpR X (binaryOp .Mod) (rI (fun _ j => j ≠ 0) fun i j => .int (i.fmod j)) := opI fun _ _ _ _ _ _ _ hc q => mod_int' hc q
theorem op_pow : OpR X (binaryOp .Pow) (rI CPow fun i j => .int (i ^ j.toNat)) := opI fun _ _ _ _ _ _ _ hc q => pow_int_small hc.1 hc.2.1 hc.2.2 q
theorem op_shl : OpR X (binaryOp .LShift) (rI CPow fun i j => .int (i * 2 ^ j.toNat)) := opI fun _ _ _ _ _ _ _ hc q => lshift_int_small hc.1 hc.2.1 hc.2.2 q
theorem op_shr : OpR X (binaryOp .RShift) (rI (fun _ j => 0 ≤ j) fun i j => .int (i / 2 ^ j.toNat)) := opI fun i j _ _ _ _ _ hc q =>
  rshift_int hc (by rw [Int.fdiv_eq_ediv_of_nonneg i (two_pow_nn _)]; exact q)
theorem op_and : OpR X (binaryOp .BitAnd) (rI0 fun i j => .int (Builtin.bitAnd i j)) := opI0 fun _ _ _ _ _ _ _ q => and_int q
theorem op_or : OpR X (binaryOp .BitOr) (rI0 fun i j => .int (Builtin.bitOr i j)) := opI0 fun _ _ _ _ _ _ _ q => or_int q
theorem op_xor : OpR X (binaryOp .BitXor) (rI0 fun i j => .int (Builtin.bitXor i j)) := opI0 fun _ _ _ _ _ _ _ q => xor_int q

theorem iop_add : OpR X (inplaceOp .Add) (rI0 fun i j => .int (i + j)) := opI0 fun _ _ _ _ _ _ _ q => iadd_int q
theorem iop_sub : OpR X (inplaceOp .Sub) (rI0 fun i j => .int (i - j)) := opI0 fun _ _ _ _ _ _ _ q => isub_int q
theorem iop_mul : OpR X (inplaceOp .Mult) (rI CMul fun i j => .int (i * j)) := opI fun _ _ _ _ _ _ _ hc q => imul_int q hc.ok
theorem iop_fdiv : OpR X (inplaceOp .FloorDiv) (rI CDiv fun i j => .int (i / j)) := opI fun i j _ _ _ _ _ hc q => by
  have h1 : (0 : Int) < j := hc.1
  have h2 : j < 1073741824 := hc.2
  exact ifloordiv_int (by omega) (by rw [Int.fdiv_eq_ediv_of_nonneg i (by omega)]; exact q) (.inl (PyProof.noPylong_small (by omega)))
theorem iop_mod : OpR X (inplaceOp .Mod) (rI (fun _ j => 0 < j) fun i j => .int (i % j)) := opI fun i j _ _ _ _ _ hc q => by
  have h1 : (0 : Int) < j := hc
  exact imod_int (by omega) (by rw [Int.fmod_eq_emod_of_nonneg i (by omega)]; exact q)
theorem iop_shl : OpR X (inplaceOp .LShift) (rI CPow fun i j => .int (i * 2 ^ j.toNat)) := opI fun _ _ _ _ _ _ _ hc q => ilshift_int_small hc.1 hc.2.1 hc.2.2 q
theorem iop_shr : OpR X (inplaceOp .RShift) (rI (fun _ j => 0 ≤ j) fun i j => .int (i / 2 ^ j.toNat)) := opI fun i j _ _ _ _ _ hc q =>
  irshift_int hc (by rw [Int.fdiv_eq_ediv_of_nonneg i (two_pow_nn _)]; exact q)
theorem iop_and : OpR X (inplaceOp .BitAnd) (rI0 fun i j => .int (Builtin.bitAnd i j)) := opI0 fun _ _ _ _ _ _ _ q => iand_int q
theorem iop_or : OpR X (inplaceOp .BitOr) (rI0 fun i j => .int (Builtin.bitOr i j)) := opI0 fun _ _ _ _ _ _ _ q => ior_int q
theorem iop_xor : OpR X (inplaceOp .BitXor) (rI0 fun i j => .int (Builtin.bitXor i j)) := opI0 fun _ _ _ _ _ _ _ q => ixor_int q

theorem unI {f : Value → Sem Value} {g : Int → Int}
    (rule : ∀ (i : Int) (t : Tok) (s : Shared) (Q : Value → Shared → Prop) (E : Value → Shared → Prop), Q (.int (g i) s.toks) { s with toks := s.toks + 1 } → wpAny (model X.prog X.w) X.A (f (.int i t)) Q E s) :
    UnR X f (rU fun i => .int (g i)) := by
  intro pins s σ H x v Q I rx h
  obtain ⟨i, rfl, q⟩ := h
  obtain ⟨t, rfl⟩ := rx
  exact rule i t s _ _ ⟨.int (g i), H, I.tok _, ⟨_, rfl⟩, q⟩
theorem un_neg : UnR X (unaryOp .USub) (rU fun i => .int (-i)) := unI fun _ _ _ _ _ q => neg_int q
theorem un_inv : UnR X (unaryOp .Invert) (rU fun i => .int (Builtin.bitNot i)) := unI fun _ _ _ _ _ q => invert_int q

/-! ### bools among ints: n += (a < b) -/
theorem op_add_ib : OpR X (binaryOp .Add) (fun x y H Q => ∃ i k, x = .int i ∧ y = .bl k ∧ Q (.int (i + b2i k)) H) := by
  intro pins s σ H x y v u Q I rx ry h
  obtain ⟨i, k, rfl, rfl, q⟩ := h
  obtain ⟨t, rfl⟩ := rx
  cases ry
  exact add_int_bool ⟨.int (i + b2i k), H, I.tok _, ⟨_, rfl⟩, q⟩
end

/-! ### comparisons -/
/-- the scalars that == tells apart as data does -/
def scal : V → V → Bool
  | .non, .non => true | .non, .int _ => true | .int _, .non => true | .non, .bl _ => true | .bl _, .non => true | .non, .str _ => true | .str _, .non => true
  | .int _, .int _ => true | .bl _, .bl _ => true | .str _, .str _ => true | .byt _, .byt _ => true
  | .int _, .str _ => true | .str _, .int _ => true | .bl _, .str _ => true | .str _, .bl _ => true
  | _, _ => false
def rEq : R2 := fun x y H Q => scal x y = true ∧ Q (.bl (decide (x = y))) H
def rNe : R2 := fun x y H Q => scal x y = true ∧ Q (.bl (!decide (x = y))) H

theorem dec_int {i j : Int} : decide (V.int i = V.int j) = (i == j) := by
  rw [Bool.eq_iff_iff]
  simp
theorem dec_bl {i j : Bool} : decide (V.bl i = V.bl j) = (i == j) := by
  rw [Bool.eq_iff_iff]
  simp
theorem dec_str {i j : Str} : decide (V.str i = V.str j) = (i == j) := by
  rw [Bool.eq_iff_iff]
  simp
theorem dec_byt {i j : Array UInt8} : decide (V.byt i = V.byt j) = (i.toList == j.toList) := by
  rw [Bool.eq_iff_iff]
  cases i
  cases j
  simp

section
variable {X : Cx} {a b c : Expr} {ta tb tc : TE} {pos : Pos}
theorem fin_bl {pins : List (Addr × Obj)} {σ : St} {H : Hp} {s : Shared} {Q : VK} {k k' : Bool} (I : Inv X pins σ H s) (q : Q (.bl k) H) (e : k = k') : EP X pins σ Q (.bool k') s := by
  subst e
  exact ⟨.bl k, H, I, rfl, q⟩
theorem op_eq : OpR X (compareOp .Eq) rEq := by
  intro pins s σ H x y v u Q I rx ry h
  obtain ⟨hs, q⟩ := h
  cases x with
  | non =>
    cases rx
    cases y with
    | non => cases ry; exact PySem.EqNone.eq_none_none (fin_bl I q (by simp))
    | bl j => cases ry; exact PySem.EqNone.eq_none_bool (fin_bl I q (by simp))
    | int j => obtain ⟨t', rfl⟩ := ry; exact PySem.EqNone.eq_none_int (fin_bl I q (by simp))
    | str j => obtain ⟨t', rfl⟩ := ry; exact PySem.EqNone.eq_none_str (fin_bl I q (by simp))
    | _ => exact absurd (show false = true from hs) Bool.false_ne_true
  | bl i =>
    cases rx
    cases y with
    | non => cases ry; exact PySem.EqNone.eq_bool_none (fin_bl I q (by simp))
    | bl j => cases ry; exact eq_bool (fin_bl I q dec_bl)
    | str j => obtain ⟨t', rfl⟩ := ry; exact PySem.EqMixed.eq_bool_str (fin_bl I q (by simp))
    | _ => exact absurd (show false = true from hs) Bool.false_ne_true
  | int i =>
    obtain ⟨t, rfl⟩ := rx
    cases y with
    | non => cases ry; exact PySem.EqNone.eq_int_none (fin_bl I q (by simp))
    | int j => obtain ⟨t', rfl⟩ := ry; exact eq_int (fin_bl I q dec_int)
    | str j => obtain ⟨t', rfl⟩ := ry; exact PySem.EqMixed.eq_int_str (fin_bl I q (by simp))
    | _ => exact absurd (show false = true from hs) Bool.false_ne_true
  | str i =>
    obtain ⟨t, rfl⟩ := rx
    cases y with
    | non => cases ry; exact PySem.EqNone.eq_str_none (fin_bl I q (by simp))
    | bl j => cases ry; exact PySem.EqMixed.eq_str_bool (fin_bl I q (by simp))
    | int j => obtain ⟨t', rfl⟩ := ry; exact PySem.EqMixed.eq_str_int (fin_bl I q (by simp))
    | str j => obtain ⟨t', rfl⟩ := ry; exact eq_str (fin_bl I q dec_str)
    | _ => exact absurd (show false = true from hs) Bool.false_ne_true
  | byt i =>
    obtain ⟨t, rfl⟩ := rx
    cases y with
    | byt j => obtain ⟨t', rfl⟩ := ry; exact PySem.W.eq_bytes (fin_bl I q dec_byt)
    | _ => exact absurd (show false = true from hs) Bool.false_ne_true
  | _ => cases y <;> exact absurd (show false = true from hs) Bool.false_ne_true
theorem op_ne : OpR X (compareOp .NotEq) rNe := by
  intro pins s σ H x y v u Q I rx ry h
  obtain ⟨hs, q⟩ := h
  cases x with
  | non =>
    cases rx
    cases y with
    | non => cases ry; exact PySem.EqNone.ne_none_none (fin_bl I q (by simp))
    | bl j => cases ry; exact PySem.EqNone.ne_none_bool (fin_bl I q (by simp))
    | int j => obtain ⟨t', rfl⟩ := ry; exact PySem.EqNone.ne_none_int (fin_bl I q (by simp))
    | str j => obtain ⟨t', rfl⟩ := ry; exact PySem.EqNone.ne_none_str (fin_bl I q (by simp))
    | _ => exact absurd (show false = true from hs) Bool.false_ne_true
  | bl i =>
    cases rx
    cases y with
    | non => cases ry; exact PySem.EqNone.ne_bool_none (fin_bl I q (by simp))
    | bl j => cases ry; exact ne_bool (fin_bl I q (congrArg not dec_bl))
    | str j => obtain ⟨t', rfl⟩ := ry; exact PySem.EqMixed.ne_bool_str (fin_bl I q (by simp))
    | _ => exact absurd (show false = true from hs) Bool.false_ne_true
  | int i =>
    obtain ⟨t, rfl⟩ := rx
    cases y with
    | non => cases ry; exact PySem.EqNone.ne_int_none (fin_bl I q (by simp))
    | int j => obtain ⟨t', rfl⟩ := ry; exact ne_int (fin_bl I q (congrArg not dec_int))
    | str j => obtain ⟨t', rfl⟩ := ry; exact PySem.EqMixed.ne_int_str (fin_bl I q (by simp))
    | _ => exact absurd (show false = true from hs) Bool.false_ne_true
  | str i =>
    obtain ⟨t, rfl⟩ := rx
    cases y with
    | non => cases ry; exact PySem.EqNone.ne_str_none (fin_bl I q (by simp))
    | bl j => cases ry; exact PySem.EqMixed.ne_str_bool (fin_bl I q (by simp))
    | int j => obtain ⟨t', rfl⟩ := ry; exact PySem.EqMixed.ne_str_int (fin_bl I q (by simp))
    | str j => obtain ⟨t', rfl⟩ := ry; exact ne_str (fin_bl I q (congrArg not dec_str))
    | _ => exact absurd (show false = true from hs) Bool.false_ne_true
  | byt i =>
    obtain ⟨t, rfl⟩ := rx
    cases y with
    | byt j => obtain ⟨t', rfl⟩ := ry; exact PySem.W.ne_bytes (fin_bl I q (congrArg not dec_byt))
    | _ => exact absurd (show false = true from hs) Bool.false_ne_true
  | _ => cases y <;> exact absurd (show false = true from hs) Bool.false_ne_true

theorem op_lt : OpR X (compareOp .Lt) (rI0 fun i j => .bl (decide (i < j))) := opB0 fun _ _ _ _ _ _ _ q => lt_int q
theorem op_le : OpR X (compareOp .LtE) (rI0 fun i j => .bl (decide (i ≤ j))) := opB0 fun _ _ _ _ _ _ _ q => le_int q
theorem op_gt : OpR X (compareOp .Gt) (rI0 fun i j => .bl (decide (j < i))) := opB0 fun _ _ _ _ _ _ _ q => gt_int q
theorem op_ge : OpR X (compareOp .GtE) (rI0 fun i j => .bl (decide (j ≤ i))) := opB0 fun _ _ _ _ _ _ _ q => ge_int q
theorem op_lt_str : OpR X (compareOp .Lt) (fun x y H Q => ∃ i j, x = .str i ∧ y = .str j ∧ Q (.bl (decide (i.cps.toList < j.cps.toList))) H) := by
  intro pins s σ H x y v u Q I rx ry h
  obtain ⟨i, j, rfl, rfl, q⟩ := h
  obtain ⟨t, rfl⟩ := rx
  obtain ⟨t', rfl⟩ := ry
  exact lt_str (fin_bl I q rfl)
/-- the one string within the other -/
theorem op_in_str : OpR X (compareOp .In) (fun x y H Q => ∃ i j, x = .str i ∧ y = .str j ∧ Q (.bl (!(Builtin.Str.occurrences j i 0 j.length 1).isEmpty)) H) := by
  intro pins s σ H x y v u Q I rx ry h
  obtain ⟨i, j, rfl, rfl, q⟩ := h
  obtain ⟨t, rfl⟩ := rx
  obtain ⟨t', rfl⟩ := ry
  exact in_str (fin_bl I q rfl)

/-- is None, is not None: the right side a value none -/
theorem op_isN : OpR X (compareOp .Is) (fun x y H Q => y = .non ∧ Q (.bl (decide (x = .non))) H) := by
  intro pins s σ H x y v u Q I rx ry h
  obtain ⟨rfl, q⟩ := h
  cases ry
  refine is_none_gen (fin_bl I q ?_)
  cases x <;> first
    | (cases rx; rfl)
    | (obtain ⟨t, rfl⟩ := rx; rfl)
theorem op_notN : OpR X (compareOp .IsNot) (fun x y H Q => y = .non ∧ Q (.bl (!decide (x = .non))) H) := by
  intro pins s σ H x y v u Q I rx ry h
  obtain ⟨rfl, q⟩ := h
  cases ry
  refine isnot_none_gen (fin_bl I q ?_)
  cases x <;> first
    | (cases rx; rfl)
    | (obtain ⟨t, rfl⟩ := rx; rfl)

theorem op_notin_str : OpR X (compareOp .NotIn) (fun x y H Q => ∃ i j, x = .str i ∧ y = .str j ∧ Q (.bl (!(!(Builtin.Str.occurrences j i 0 j.length 1).isEmpty))) H) := by
  intro pins s σ H x y v u Q I rx ry h
  obtain ⟨i, j, rfl, rfl, q⟩ := h
  obtain ⟨t, rfl⟩ := rx
  obtain ⟨t', rfl⟩ := ry
  exact notIn_str (fin_bl I q rfl)
/-- is, is not of two objects that are tracked lists or instances -/
def isObj : HO → Bool
  | .lst _ => true
  | .ins _ _ _ => true
  | _ => false
theorem obj_there {pins : List (Addr × Obj)} {s : Shared} {σ : St} {H : Hp} {a : Addr} {o : HO} (I : Inv X pins σ H s) (h : H a = some o) (p : isObj o = true) : ∃ ob, s.heap.get? a = some ob ∧ ob.cls ≠ .type "tuple" := by
  cases o with
  | lst xs =>
    obtain ⟨_, its, n, _, e⟩ : xs.length ≤ sizeLine ∧ ∃ (its : List Value) (n : Nat), Vals xs its ∧ s.heap.get? a = some { cls := .type "list", data := .seq its.toArray n } := I.hok a _ h
    exact ⟨_, e, (by show Value.type "list" ≠ .type "tuple"; decide +kernel)⟩
  | ins C dx fs =>
    have x := I.hok a _ h
    obtain ⟨_, _, _, e, _⟩ := x
    exact ⟨_, e, (by show Value.ref C ≠ .type "tuple"; exact fun z => by cases z)⟩
  | _ => exact absurd (show false = true from p) Bool.false_ne_true
theorem op_is_ref : OpR X (compareOp .Is) (fun x y H Q => ∃ a b oa ob, x = .ref a ∧ y = .ref b ∧ H a = some oa ∧ isObj oa = true ∧ H b = some ob ∧ isObj ob = true ∧ Q (.bl (decide (a = b))) H) := by
  intro pins s σ H x y v u Q I rx ry h
  obtain ⟨a, b, oa, ob, rfl, rfl, ha, pa, hb, pb, q⟩ := h
  cases rx
  cases ry
  obtain ⟨o1, e1, n1⟩ := obj_there I ha pa
  obtain ⟨o2, e2, _⟩ := obj_there I hb pb
  by_cases z : a = b
  · subst z
    exact wpAny_is_ref_self (fin_bl I q (by simp))
  · exact wpAny_is_ref_other z e1 e2 n1 (fin_bl I q (by simp [z]))
theorem op_isnot_ref : OpR X (compareOp .IsNot) (fun x y H Q => ∃ a b oa ob, x = .ref a ∧ y = .ref b ∧ H a = some oa ∧ isObj oa = true ∧ H b = some ob ∧ isObj ob = true ∧ Q (.bl (!decide (a = b))) H) := by
  intro pins s σ H x y v u Q I rx ry h
  obtain ⟨a, b, oa, ob, rfl, rfl, ha, pa, hb, pb, q⟩ := h
  cases rx
  cases ry
  obtain ⟨o1, e1, n1⟩ := obj_there I ha pa
  obtain ⟨o2, e2, _⟩ := obj_there I hb pb
  by_cases z : a = b
  · subst z
    exact wpAny_isNot_ref_self (fin_bl I q (by simp))
  · exact wpAny_isNot_ref_other z e1 e2 n1 (fin_bl I q (by simp [z]))

/-- two rules for one operation: by cases -/
theorem OpR.or {f : Value → Value → Sem Value} {r r' : R2} (h : OpR X f r) (h' : OpR X f r') : OpR X f (fun x y H Q => r x y H Q ∨ r' x y H Q) := by
  intro pins s σ H x y v u Q I rx ry q
  rcases q with q | q
  · exact h pins s σ H x y v u Q I rx ry q
  · exact h' pins s σ H x y v u Q I rx ry q

theorem nomark (b : Expr) {op : CmpOp} (h : op ≠ .In := by decide) (h2 : op ≠ .NotIn := by decide) : behindInMarks op b = false := by
  have e1 : (op == CmpOp.In) = false := by cases op <;> first | rfl | exact absurd rfl h
  have e2 : (op == CmpOp.NotIn) = false := by cases op <;> first | rfl | exact absurd rfl h2
  cases b <;> simp [behindInMarks, e1, e2]
/-- a comparison as a value; hm: nomark b, or (for in, not in) by with_unfolding_all rfl -/
theorem pe_cmpR {op : CmpOp} {r : R2} (ho : OpR X (compareOp op) r) (ha : PE X a ta) (hb : PE X b tb) (hm : behindInMarks op b = false) : PE X (.Compare a [op] [b] pos) (tOp r ta tb) := by
  intro pins s σ H Q I h
  exact wpAny_Compare1 (binT ha hb I h fun v u s2 x y H2 I2 rx ry q => ho pins s2 σ H2 x y v u Q I2 rx ry q) hm
/-- a reading of a value as a test -/
def tTest (t : TE) : TT := fun σ H Q => t σ H fun x H' => ∃ k, x = .bl k ∧ Q k H'
theorem pt_cmpR {op : CmpOp} {r : R2} (ho : OpR X (compareOp op) r) (ha : PE X a ta) (hb : PE X b tb) (hm : behindInMarks op b = false) : PT X (.Compare a [op] [b] pos) (tTest (tOp r ta tb)) := by
  intro pins s σ H Q I h
  refine wpAny_isTrue_Compare1 (thn (ha pins s σ H _ I h) fun v s1 ⟨x, H1, I1, r1, q1⟩ => thn (hb pins s1 σ H1 _ I1 q1) fun u s2 ⟨y, H2, I2, r2, q2⟩ =>
    thn (ho pins s2 σ H2 x y v u _ I2 r1 r2 q2) fun c s3 ⟨z, H3, I3, r3, k, e, q3⟩ => ?_) hm
  subst e
  cases r3
  exact wpAny_truthy_bool ⟨H3, I3, q3⟩
/-- a op1 b op2 c -/
def tChain (r r' : R2) (ta tb tc : TE) : TE := fun σ H Q => ta σ H fun x H1 => tb σ H1 fun y H2 => r x y H2 fun z H3 => ∃ k, z = .bl k ∧
  (if k = true then tc σ H3 fun w' H4 => r' y w' H4 Q else Q (.bl false) H3)
theorem pe_chain {op op' : CmpOp} {r r' : R2} (ho : OpR X (compareOp op) r) (ho' : OpR X (compareOp op') r') (ha : PE X a ta) (hb : PE X b tb) (hc : PE X c tc)
    (hm : lastMarks [op, op'] [b, c] = false := by with_unfolding_all rfl) : PE X (.Compare a [op, op'] [b, c] pos) (tChain r r' ta tb tc) := by
  intro pins s σ H Q I h
  refine Compare_chain (thn (ha pins s σ H _ I h) fun v s1 ⟨x, H1, I1, r1, q1⟩ => chain_link (thn (hb pins s1 σ H1 _ I1 q1) fun u s2 ⟨y, H2, I2, r2, q2⟩ =>
    thn (ho pins s2 σ H2 x y v u _ I2 r1 r2 q2) fun d s3 ⟨z, H3, I3, r3, k, e, q3⟩ => ?_)) hm
  subst e
  cases r3
  refine wpAny_truthy_bool ?_
  cases k with
  | false => exact ite_ff ⟨.bl false, H3, I3, rfl, q3⟩
  | true => exact ite_tt (chain_last (thn (hc pins s3 σ H3 _ I3 q3) fun w' s4 ⟨z', H4, I4, r4, q4⟩ => ho' pins s4 σ H4 y z' u w' Q I4 r2 r4 q4))
theorem pt_chain {op op' : CmpOp} {r r' : R2} (ho : OpR X (compareOp op) r) (ho' : OpR X (compareOp op') r') (ha : PE X a ta) (hb : PE X b tb) (hc : PE X c tc)
    (hm : lastMarks [op, op'] [b, c] = false := by with_unfolding_all rfl) : PT X (.Compare a [op, op'] [b, c] pos) (tTest (tChain r r' ta tb tc)) := by
  intro pins s σ H Q I h
  refine isTrue_chain (thn (ha pins s σ H _ I h) fun v s1 ⟨x, H1, I1, r1, q1⟩ => test_link (thn (hb pins s1 σ H1 _ I1 q1) fun u s2 ⟨y, H2, I2, r2, q2⟩ =>
    thn (ho pins s2 σ H2 x y v u _ I2 r1 r2 q2) fun d s3 ⟨z, H3, I3, r3, k, e, q3⟩ => ?_)) hm
  subst e
  cases r3
  refine wpAny_truthy_bool ?_
  cases k with
  | false =>
    obtain ⟨k', e', q'⟩ := q3
    cases e'
    exact ite_ff ⟨H3, I3, q'⟩
  | true =>
    refine ite_tt (test_last (thn (hc pins s3 σ H3 _ I3 q3) fun w' s4 ⟨z', H4, I4, r4, q4⟩ => thn (ho' pins s4 σ H4 y z' u w' _ I4 r2 r4 q4) fun d' s5 ⟨z2, H5, I5, r5, k2, e2, q5⟩ => ?_))
    subst e2
    cases r5
    exact wpAny_truthy_bool ⟨H5, I5, q5⟩

/-! ### truth -/
/-- a value's truth by the abstract heap -/
def TruV (K : PySem.W.Frag) (x : V) (H : Hp) (k : Bool) : Prop :=
  match x with
  | .non => k = false
  | .bl b => k = b
  | .int i => k = (i != 0)
  | .str y => y.length ≤ sizeLine ∧ k = ((y.length : Int) != 0)
  | .byt y => y.size ≤ sizeLine ∧ k = ((y.size : Int) != 0)
  | .ref p => (∃ xs, SqL K H p xs ∧ k = !xs.isEmpty) ∨ (∃ xs, SqT K H p xs ∧ k = !xs.isEmpty) ∨ ∃ kvs, H p = some (.dK kvs) ∧ k = !kvs.isEmpty
  | _ => False
theorem isEmpty_kv {κ : Type} {kvs : List (κ × V)} {vs : List (κ × Value)} (r : KV kvs vs) : (!vs.isEmpty) = !kvs.isEmpty := by
  cases r <;> rfl
theorem isEmpty_of {xs : List V} {its : List Value} (r : Vals xs its) : (!its.toArray.isEmpty) = !xs.isEmpty := by
  cases r <;> simp
theorem line63 : (sizeLine : Nat) < 2 ^ 63 := by rw [sizeLine_eq]; decide
theorem tru_ok : TruR X (fun x H Q => ∃ k, TruV X.K x H k ∧ Q k H) := by
  intro pins s σ H x v Q I rx h
  obtain ⟨k, e, q⟩ := h
  have hl := line63
  have hs : sizeLine = 16777216 := sizeLine_eq
  cases x with
  | non =>
    cases rx
    have e' : k = false := e
    subst e'
    exact truthy_none ⟨H, I, q⟩
  | bl b =>
    cases rx
    have e' : k = b := e
    subst e'
    exact wpAny_truthy_bool ⟨H, I, q⟩
  | int i =>
    obtain ⟨t, rfl⟩ := rx
    have e' : k = (i != 0) := e
    subst e'
    exact PySem.P.truthy_int ⟨H, I, q⟩
  | str y =>
    obtain ⟨t, rfl⟩ := rx
    obtain ⟨hy, e'⟩ : y.length ≤ sizeLine ∧ k = ((y.length : Int) != 0) := e
    subst e'
    exact PySem.P.truthy_str (by omega) ⟨H, I.tok _, q⟩
  | byt y =>
    obtain ⟨t, rfl⟩ := rx
    obtain ⟨hy, e'⟩ : y.size ≤ sizeLine ∧ k = ((y.size : Int) != 0) := e
    subst e'
    exact PySem.W.truthy_bytes (by omega) ⟨H, I.tok _, q⟩
  | ref p =>
    cases rx
    have e' : (∃ xs, SqL X.K H p xs ∧ k = !xs.isEmpty) ∨ (∃ xs, SqT X.K H p xs ∧ k = !xs.isEmpty) ∨ ∃ kvs, H p = some (.dK kvs) ∧ k = !kvs.isEmpty := e
    rcases e' with ⟨xs, hx, e'⟩ | ⟨xs, hx, e'⟩ | ⟨kvs, hx, e'⟩
    · subst e'
      obtain ⟨its, r, pl, hz⟩ := I.list hx
      have hlen := r.length
      exact wpAny_truthy_list pl.isList (by simp only [List.size_toArray]; omega) ⟨H, I.tok _, by rw [isEmpty_of r]; exact q⟩
    · subst e'
      obtain ⟨its, r, pl, hz⟩ := I.tuple hx
      have hlen := r.length
      exact truthy_tuple pl (by simp only [List.size_toArray]; omega) ⟨H, I.tok _, by rw [isEmpty_of r]; exact q⟩
    · subst e'
      obtain ⟨hz, hS, vs, r, m⟩ : kvs.length ≤ sizeLine ∧ (p == sysModules) = false ∧ ∃ vs, KV kvs vs ∧ s.heap.DictOf (mixKind X.prog X.w) p vs := I.hok p _ hx
      have hlen : kvs.length = vs.length := Paired.length r
      exact wpAny_truthy_dict hS m (by omega) ⟨H, I.tok _, by rw [isEmpty_kv r]; exact q⟩
  | _ => exact (show False from e).elim
/-- any expression whose test is its value's truth (a name, a call, a subscript, a field ..: he by fun _ => rfl) -/
theorem pt_truth (ha : PE X a ta) (he : ∀ whole, isTrue a X.env whole = (do let v ← whole; standAt a.pos; holding [v] (truthy v))) :
    PT X a (fun σ H Q => ta σ H fun x H' => ∃ k, TruV X.K x H' k ∧ Q k H') := by
  intro pins s σ H Q I h
  exact isTrue_plain (thn (ha pins s σ H _ I h) fun v s1 ⟨x, H1, I1, r1, q1⟩ => tru_ok pins s1 σ H1 x v Q I1 r1 q1) (he _)

/-! ### strs and bytes -/
theorem pe_byt {x : List UInt8} {k : Nat} : PE X (.Constant (.bytes x) k pos) (fun _ H Q => Q (.byt x.toArray) H) := fun _ _ _ H _ I h => PySem.W.Constant_bytes ⟨.byt x.toArray, H, I.tok _, ⟨_, rfl⟩, h⟩
theorem op_add_str : OpR X (binaryOp .Add) (fun x y H Q => ∃ i j, x = .str i ∧ y = .str j ∧ i.length + j.length ≤ sizeLine ∧ Q (.str (i ++ j)) H) := by
  intro pins s σ H x y v u Q I rx ry h
  obtain ⟨i, j, rfl, rfl, hz, q⟩ := h
  obtain ⟨t, rfl⟩ := rx
  obtain ⟨t', rfl⟩ := ry
  exact add_str (fun t' tk => ⟨.str (i ++ j), H, I.tok _, ⟨_, rfl⟩, q⟩) hz
theorem iop_add_str : OpR X (inplaceOp .Add) (fun x y H Q => ∃ i j, x = .str i ∧ y = .str j ∧ i.length + j.length ≤ sizeLine ∧ Q (.str (i ++ j)) H) := by
  intro pins s σ H x y v u Q I rx ry h
  obtain ⟨i, j, rfl, rfl, hz, q⟩ := h
  obtain ⟨t, rfl⟩ := rx
  obtain ⟨t', rfl⟩ := ry
  exact iadd_str (fun t' tk => ⟨.str (i ++ j), H, I.tok _, ⟨_, rfl⟩, q⟩) hz
theorem op_add_byt : OpR X (binaryOp .Add) (fun x y H Q => ∃ i j, x = .byt i ∧ y = .byt j ∧ i.size + j.size ≤ 16777216 ∧ Q (.byt (i ++ j)) H) := by
  intro pins s σ H x y v u Q I rx ry h
  obtain ⟨i, j, rfl, rfl, hz, q⟩ := h
  obtain ⟨t, rfl⟩ := rx
  obtain ⟨t', rfl⟩ := ry
  exact PySem.W.KBy.add_bytes hz (fun t' tk => ⟨.byt (i ++ j), H, I.tok _, ⟨_, rfl⟩, q⟩)

def PlainIxT (b : Expr) : Prop := ∀ o i, subscripted b false o i = operate [o, i] (getItem o i)
/-- s[i], 0 ≤ i < len -/
theorem pe_item_str (ha : PE X a ta) (hb : PE X b tb) (hs : PlainIxT b) :
    PE X (.Subscript a b pos) (tOp (fun x y H Q => ∃ z i c, x = .str z ∧ y = .int i ∧ 0 ≤ i ∧ i < 2 ^ 63 ∧ i < z.length ∧ z.cps[i.toNat]? = some c ∧ Q (.str ⟨#[c]⟩) H) ta tb) := by
  intro pins s σ H Q I h
  refine Subscript_ (binT ha hb I h fun v u s2 x y H2 I2 rx ry q => ?_)
  obtain ⟨z, i, c, rfl, rfl, h0, h63, h1, hc, q⟩ := q
  obtain ⟨t, rfl⟩ := rx
  obtain ⟨t', rfl⟩ := ry
  have e : seqIndex? i z.length = some i.toNat := PySem.StrLaws.seqIndex_nonneg h0 h1
  exact tail_any (typeIs_str s2 z t) slot_str_getitem.lookup (getItem_str (c := c) (by
    have e1 : decide (i < -(2 ^ 63 : Int)) = false := decide_eq_false (by omega)
    have e2 : decide (i ≥ 2 ^ 63) = false := decide_eq_false (by omega)
    rw [e1, e2] <;> rfl) (by rw [e]; exact hc) ⟨.str ⟨#[c]⟩, H2, I2.tok _, ⟨_, rfl⟩, q⟩) (hs _ _)
/-- b[i], 0 ≤ i < len -/
theorem pe_item_byt (ha : PE X a ta) (hb : PE X b tb) (hs : PlainIxT b) :
    PE X (.Subscript a b pos) (tOp (fun x y H Q => ∃ (z : List UInt8) (i : Int), x = .byt z.toArray ∧ y = .int i ∧ z.length ≤ sizeLine ∧ 0 ≤ i ∧ i < z.length ∧ Q (.int ((z.getD i.toNat 0).toNat : Nat)) H) ta tb) := by
  intro pins s σ H Q I h
  refine Subscript_ (binT ha hb I h fun v u s2 x y H2 I2 rx ry q => ?_)
  obtain ⟨z, i, rfl, rfl, hz, h0, h1, q⟩ := q
  obtain ⟨t, rfl⟩ := rx
  obtain ⟨t', rfl⟩ := ry
  have hl : sizeLine = 16777216 := sizeLine_eq
  exact tail_any (PySem.W.typeIs_bytes s2 z.toArray t) PySem.W.FB.slot_bytes_getitem.lookup (PySem.W.getItem_bytes (by omega) h0 h1 ⟨.int ((z.getD i.toNat 0).toNat : Nat), H2, I2.tok _, ⟨_, rfl⟩, q⟩) (hs _ _)

/-! ### scalar builtins, by CallR -/
theorem vals1 {x : V} {us : List Value} (r : Vals [x] us) : ∃ u, us = [u] ∧ RelV x u := by
  cases r with
  | cons r1 r2 => cases r2; exact ⟨_, rfl, r1⟩
theorem vals2 {x y : V} {us : List Value} (r : Vals [x, y] us) : ∃ u w', us = [u, w'] ∧ RelV x u ∧ RelV y w' := by
  cases r with
  | cons r1 r2 =>
    cases r2 with
    | cons r3 r4 => cases r4; exact ⟨_, _, rfl, r1, r3⟩
theorem call_abs : CallR X (.builtin "abs") (fun xs H Q => ∃ i, xs = [.int i] ∧ Q (.int (if i < 0 then -i else i)) H) := by
  intro pins s σ H xs us Q I r h
  obtain ⟨i, rfl, q⟩ := h
  obtain ⟨u, rfl, t, rfl⟩ := vals1 r
  exact call_abs_int fun u tk => ⟨.int (if i < 0 then -i else i), H, I.tok _, ⟨_, rfl⟩, q⟩
theorem call_max2 (hc : X.calm = true) : CallR X (.builtin "max") (fun xs H Q => ∃ i j, xs = [.int i, .int j] ∧ Q (.int (if j > i then j else i)) H) := by
  intro pins s σ H xs us Q I r h
  obtain ⟨i, j, rfl, q⟩ := h
  obtain ⟨u, w', rfl, ⟨t, rfl⟩, ⟨t', rfl⟩⟩ := vals2 r
  refine max_two_ints (I.ok.hd hc) fun h' tk k => ⟨_, H, I.kept k, ?_, q⟩
  by_cases hj : j > i
  · rw [if_pos hj, if_pos hj]; exact ⟨_, rfl⟩
  · rw [if_neg hj, if_neg hj]; exact ⟨_, rfl⟩
theorem call_min2 (hc : X.calm = true) : CallR X (.builtin "min") (fun xs H Q => ∃ i j, xs = [.int i, .int j] ∧ Q (.int (if j < i then j else i)) H) := by
  intro pins s σ H xs us Q I r h
  obtain ⟨i, j, rfl, q⟩ := h
  obtain ⟨u, w', rfl, ⟨t, rfl⟩, ⟨t', rfl⟩⟩ := vals2 r
  refine min_two_ints (I.ok.hd hc) fun h' tk k => ⟨_, H, I.kept k, ?_, q⟩
  by_cases hj : j < i
  · rw [if_pos hj, if_pos hj]; exact ⟨_, rfl⟩
  · rw [if_neg hj, if_neg hj]; exact ⟨_, rfl⟩
theorem call_int1 : CallR X (.type "int") (fun xs H Q => (∃ i, xs = [.int i] ∧ Q (.int i) H) ∨ ∃ k, xs = [.bl k] ∧ Q (.int (if k then 1 else 0)) H) := by
  intro pins s σ H xs us Q I r h
  rcases h with ⟨i, rfl, q⟩ | ⟨k, rfl, q⟩
  · obtain ⟨u, rfl, t, rfl⟩ := vals1 r
    exact call_int_int ⟨.int i, H, I, ⟨_, rfl⟩, q⟩
  · obtain ⟨u, rfl, r1⟩ := vals1 r
    cases r1
    exact call_int_bool ⟨.int (if k then 1 else 0), H, I.tok _, ⟨_, rfl⟩, q⟩
theorem call_bool1 : CallR X (.type "bool") (fun xs H Q => (∃ i, xs = [.int i] ∧ Q (.bl (i != 0)) H) ∨ ∃ k, xs = [.bl k] ∧ Q (.bl k) H) := by
  intro pins s σ H xs us Q I r h
  rcases h with ⟨i, rfl, q⟩ | ⟨k, rfl, q⟩
  · obtain ⟨u, rfl, t, rfl⟩ := vals1 r
    exact call_bool_int ⟨.bl (i != 0), H, I, rfl, q⟩
  · obtain ⟨u, rfl, r1⟩ := vals1 r
    cases r1
    exact call_bool_bool ⟨.bl k, H, I, rfl, q⟩
theorem call_str_int : CallR X (.type "str") (fun xs H Q => ∃ i, xs = [.int i] ∧ i.natAbs.log2 < 1920 ∧ Q (.str (toString i)) H) := by
  intro pins s σ H xs us Q I r h
  obtain ⟨i, rfl, hz, q⟩ := h
  obtain ⟨u, rfl, t, rfl⟩ := vals1 r
  exact PySem.P.str_of_int hz ⟨.str _, H, I.tok _, ⟨_, rfl⟩, q⟩
theorem call_ord : CallR X (.builtin "ord") (fun xs H Q => ∃ x, xs = [.str x] ∧ x.length = 1 ∧ Q (.int (x.cps.getD 0 0 : Nat)) H) := by
  intro pins s σ H xs us Q I r h
  obtain ⟨x, rfl, hz, q⟩ := h
  obtain ⟨u, rfl, t, rfl⟩ := vals1 r
  exact ord_of_one hz ⟨.int _, H, I.tok _, ⟨_, rfl⟩, q⟩
theorem call_chr : CallR X (.builtin "chr") (fun xs H Q => ∃ i, xs = [.int i] ∧ 0 ≤ i ∧ i ≤ 1114111 ∧ Q (.str ⟨#[i.toNat]⟩) H) := by
  intro pins s σ H xs us Q I r h
  obtain ⟨i, rfl, h0, h1, q⟩ := h
  obtain ⟨u, rfl, t, rfl⟩ := vals1 r
  exact chr_of_range h0 h1 ⟨.str _, H, I.tok _, ⟨_, rfl⟩, q⟩
/-- len of a str, a bytes, a list, a tuple -/
def LenV (K : PySem.W.Frag) (x : V) (H : Hp) (n : Nat) : Prop :=
  match x with
  | .str y => y.length ≤ sizeLine ∧ n = y.length
  | .byt y => y.size ≤ sizeLine ∧ n = y.size
  | .ref p => (∃ xs, SqL K H p xs ∧ n = xs.length) ∨ ∃ xs, SqT K H p xs ∧ n = xs.length
  | _ => False
theorem call_len : CallR X (.builtin "len") (fun xs H Q => ∃ x n, xs = [x] ∧ LenV X.K x H n ∧ Q (.int n) H) := by
  intro pins s σ H xs us Q I r h
  obtain ⟨x, n, rfl, e, q⟩ := h
  obtain ⟨u, rfl, rx⟩ := vals1 r
  have hl := line63
  have hs : sizeLine = 16777216 := sizeLine_eq
  cases x with
  | str y =>
    obtain ⟨t, rfl⟩ := rx
    obtain ⟨hy, e'⟩ : y.length ≤ sizeLine ∧ n = y.length := e
    subst e'
    exact len_str (by omega) ⟨.int _, H, I.tok _, ⟨_, rfl⟩, q⟩
  | byt y =>
    obtain ⟨t, rfl⟩ := rx
    obtain ⟨hy, e'⟩ : y.size ≤ sizeLine ∧ n = y.size := e
    subst e'
    exact PySem.W.len_bytes (by omega) ⟨.int _, H, I.tok _, ⟨_, rfl⟩, q⟩
  | ref p =>
    cases rx
    have e' : (∃ xs, SqL X.K H p xs ∧ n = xs.length) ∨ ∃ xs, SqT X.K H p xs ∧ n = xs.length := e
    rcases e' with ⟨xs, hx, e'⟩ | ⟨xs, hx, e'⟩
    · subst e'
      obtain ⟨its, r', pl, hz⟩ := I.list hx
      have hlen := r'.length
      exact Calls.call_len_list pl.isList (by simp only [List.size_toArray]; omega) ⟨.int xs.length, H, I.tok _, ⟨_, by simp only [List.size_toArray]; rw [hlen]⟩, q⟩
    · subst e'
      obtain ⟨its, r', pl, hz⟩ := I.tuple hx
      have hlen := r'.length
      exact len_tuple pl (by simp only [List.size_toArray]; omega) ⟨.int xs.length, H, I.tok _, ⟨_, by simp only [List.size_toArray]; rw [hlen]⟩, q⟩
  | _ => exact (show False from e).elim
/-- divmod: a new tuple -/
theorem call_divmod : CallR X (.builtin "divmod") (fun xs H Q => ∃ i j, xs = [.int i, .int j] ∧ CDiv i j ∧ ∀ p, H p = none → Q (.ref p) (upd H p (.tup [.int (i / j), .int (i % j)]))) := by
  intro pins s σ H xs us Q I r h
  obtain ⟨i, j, rfl, ⟨h1, h2⟩, q⟩ := h
  obtain ⟨u, w', rfl, ⟨t, rfl⟩, ⟨t', rfl⟩⟩ := vals2 r
  refine divmod_int (by omega) ?_ (.inl (PyProof.noPylong_small (by omega)))
  rw [Int.fdiv_eq_ediv_of_nonneg i (by omega), Int.fmod_eq_emod_of_nonneg i (by omega)]
  have hn : H s.heap.objs.size = none := I.hok.fresh (Nat.le_refl _)
  refine ⟨.ref s.heap.objs.size, _, ?_, rfl, q _ hn⟩
  refine I.laid (fun b o e => Heap.get?_push_of_some _ e) (Nat.le_refl _) ⟨by simp only [List.length_cons, List.length_nil]; rw [sizeLine_eq]; decide, [.int (i / j) s.toks, .int (i % j) (s.toks + 1)], .cons ⟨_, rfl⟩ (.cons ⟨_, rfl⟩ .nil), ?_⟩
  exact ⟨_, Heap.get?_push_size s.heap rfl, rfl, 0, rfl⟩
end
end L2

namespace L2
open PySem PySem.Spec PyProof.Rows

/-! ### an instance, its attributes a map -/
structure ObjM (h : Heap) (x dx C : Addr) (mA : Str → Option Value) : Prop where
  obj : h.get? x = some (PySem.W.instObj C dx)
  ns : h.Ns1 dx mA
  ne : dx ≠ x

theorem lookIn_ns {h : Heap} {dx : Addr} {mA : Str → Option Value} (n : h.Ns1 dx mA) : ∃ od, h.get? dx = some od ∧ ∀ name, PySem.W.lookIn name od = some (mA name) := by
  obtain ⟨o, es, ep, ho, hd, hk, _, hm⟩ := n
  refine ⟨o, ho, fun name => ?_⟩
  have e := hm name
  unfold nsFind findBy at e
  rw [← Array.find?_toList] at e
  unfold PySem.W.lookIn
  rw [hd]
  dsimp only
  split
  · rename_i y q
    rw [q] at e
    exact congrArg some e
  · rename_i q
    rw [q] at e
    have a : es.toList.any (·.refKey) = false := by
      rw [List.any_eq_false]
      intro y hy
      obtain ⟨z, t, hkey⟩ := hk y (Array.mem_toList_iff.mp hy)
      simp [DictEntry.refKey, hkey]
    have a' : ¬ es.toList.any (·.refKey) = true := by rw [a]; exact Bool.false_ne_true
    rw [if_neg a']
    exact congrArg some e

theorem ObjM.look {h : Heap} {x dx C : Addr} {mA : Str → Option Value} (I : ObjM h x dx C mA) : ∃ od, PySem.W.InstAt h x (PySem.W.instObj C dx) C (some od) ∧ ∀ name, PySem.W.lookIn name od = some (mA name) :=
  let ⟨od, ho, hl⟩ := lookIn_ns I.ns
  ⟨od, ⟨I.obj, rfl, rfl, ho⟩, hl⟩

section
variable {prog : Program} {w : World} {A : Around} {E : Value → Shared → Prop} {s : Shared} {K : PySem.W.Frag} {x dx C f : Addr} {mA : Str → Option Value} {name : Str} {v : Value}

theorem get_map {expr : Bool} {Q : Value → Shared → Prop} (X : K.In s.heap) (I : ObjM s.heap x dx C mA) (hg : PySem.W.plainGet K C name = true) (hh : PySem.W.hasDictIn K C = true)
    (ha : PySem.W.findIn K (.ref C) name = some none) (hv : mA name = some v) (hv' : PySem.W.handedIn v = true) (h : Q v { s with toks := s.toks + 1 }) :
    wpAny (model prog w) A (getAttr (.ref x) name expr) Q E s := by
  obtain ⟨od, J, hl⟩ := I.look
  exact PySem.W.get_value X J (PySem.W.plainGet_of hg).1 (PySem.W.findObj_own hh ha rfl (by rw [hl, hv])) hv' h

theorem get_const {expr : Bool} {a : Value} {Q : Value → Shared → Prop} (X : K.In s.heap) (I : ObjM s.heap x dx C mA) (hg : PySem.W.plainGet K C name = true) (hh : PySem.W.hasDictIn K C = true)
    (ha : PySem.W.findIn K (.ref C) name = some (some a)) (hn : PySem.W.specialIn K a "__get__" = some none) (hc : PySem.W.copiedNames.contains name = false) (hv : mA name = none) (hv' : PySem.W.handedIn a = true)
    (h : Q a { s with toks := s.toks + 1 }) : wpAny (model prog w) A (getAttr (.ref x) name expr) Q E s := by
  obtain ⟨od, J, hl⟩ := I.look
  exact PySem.W.get_value X J (PySem.W.plainGet_of hg).1 (PySem.W.findObj_cls hh ha hn hv' hc (by rw [hl, hv])) hv' h

theorem get_meth {pl : Sem Bool} {Q : Value × List Value → Shared → Prop} (X : K.In s.heap) (I : ObjM s.heap x dx C mA) (hg : PySem.W.plainGet K C name = true)
    (hf : PySem.W.findIn K (.ref C) name = some (some (.ref f))) (ht : PySem.W.isFn K (.ref f) = true) (hv : mA name = none) (h : Q (.ref f, [.ref x]) s) :
    wpAny (model prog w) A (getMethod (.ref x) name pl) Q E s := by
  obtain ⟨od, J, hl⟩ := I.look
  exact PySem.W.method_fn X J (PySem.W.plainGet_of hg).1 (PySem.W.plainGet_of hg).2 hf (beq_iff_eq.mp ht) (by show (PySem.W.lookIn name od).map (·.isSome) = some false; rw [hl, hv]; rfl) h

theorem set_map {ns : List Str} {Q : Unit → Shared → Prop} (X : K.In s.heap) (I : ObjM s.heap x dx C mA)
    (hs : PySem.W.findIn K (.ref C) "__setattr__" = some (some (.builtin "object.__setattr__"))) (hp : PySem.W.plainOver K C = true) (ht : PySem.W.takerIn K C name = some none) (hh : PySem.W.hasDictIn K C = true)
    (hw : PySem.Within mA ns) (hsz : ns.length ≤ sizeLine)
    (h : ∀ h', ObjM h' x dx C (fun y => if y = name then some v else mA y) → Heap.SameBut dx s.heap h' → Q () { s with heap := h', toks := s.toks + 2 }) :
    wpAny (model prog w) A (setAttr (.ref x) name v) Q E s := by
  obtain ⟨od, J, hl⟩ := I.look
  refine PySem.W.set_plain X J hs (PySem.W.osa_open (s := { s with toks := s.toks + 1 }) (r := none) X J hp ht fun b => ?_)
  obtain ⟨cd, hc, hd'⟩ := PySem.W.any_some hh
  have hx : s.heap.get? x = some ⟨.ref C, some dx, .plain, #[]⟩ := I.obj
  refine wpAny_bind (wpAny_pure (wpAny_bind (wpAny_bind (wpAny_loadPart hx (wpAny_bind (PySem.W.Looks.here (s := { s with toks := s.toks + 1 }) (PySem.W.looks_clsIn X hc) ?_))))))
  rw [hd']
  refine wpAny_pure (a := some dx) (wpAny_bind (wpAny_pure (wpAny_bind ?_)))
  refine wpAny_nsSet1 (s := { s with toks := s.toks + 1 }) I.ns fun h' hn2 hs2 => ?_
  obtain ⟨oD, esD, epD, hoD, hdD, hcD⟩ := hn2.count (PySem.Within.cons name v hw)
  refine wpAny_bind (wpAny_lookBehind hoD (by rw [hdD]; exact pastItsLine_dict (Nat.le_trans hcD (by rw [List.length_cons]; omega))) ?_)
  exact wpAny_pure (h _ ⟨(hs2.2 _ (Ne.symm I.ne)).trans I.obj, hn2, I.ne⟩ hs2)

/-- C(..): the dict at the heap's end, the instance behind it; then its __init__ -/
theorem make_map {R : Result → Shared → Prop} {vs : List Value} {kw : List (Str × Value)} (X : K.In s.heap) (hm : PySem.W.makesIn K C = true)
    (hi : PySem.W.findIn K (.ref C) "__init__" = some (some (.ref f))) (hf : PySem.W.typeIn K (.ref f) = some (.type "function"))
    (h : codeAny (model prog w) (A.under (.builtin "type.__call__" ⟨.ref C :: vs, kw⟩)) (.call (.ref f) ⟨.ref (s.heap.objs.size + 1) :: vs, kw⟩) (PySem.W.InitBack (s.heap.objs.size + 1) R)
      { s with heap := (s.heap.push PySem.W.emptyDict).push (PySem.W.instObj C s.heap.objs.size) }) :
    codeAny (model prog w) A (.call (.ref C) ⟨vs, kw⟩) R s := by
  obtain ⟨hh, g, d, t, os⟩ := s
  exact PySem.W.make_core (PySem.W.makes_of X hm) (PySem.W.looks_findIn X hi) (fun self => PySem.W.bind_fn X self hf) (.inl rfl) h
/-- C() where there is no __init__ but object's -/
theorem make_map0 {R : Result → Shared → Prop} (X : K.In s.heap) (hm : PySem.W.makesIn K C = true)
    (hi : PySem.W.findIn K (.ref C) "__init__" = some (some (.builtin "object.__init__")))
    (hb : ∀ self, PySem.W.Looks (model prog w) s.heap (bindSpecial (.builtin "object.__init__") self) (.builtin "object.__init__", [self]))
    (h : codeAny (model prog w) (A.under (.builtin "type.__call__" ⟨[.ref C], []⟩)) (.call (.builtin "object.__init__") ⟨[.ref (s.heap.objs.size + 1)], []⟩) (PySem.W.InitBack (s.heap.objs.size + 1) R)
      { s with heap := (s.heap.push PySem.W.emptyDict).push (PySem.W.instObj C s.heap.objs.size) }) :
    codeAny (model prog w) A (.call (.ref C) ⟨[], []⟩) R s := by
  obtain ⟨hh, g, d, t, os⟩ := s
  exact PySem.W.make_core (PySem.W.makes_of X hm) (PySem.W.looks_findIn X hi) hb (.inr ⟨rfl, rfl⟩) h
end

/-! ### the attributes as a list of pairs -/
def putF (f : Str) (v : V) : List (Str × V) → List (Str × V)
  | [] => [(f, v)]
  | (g, x) :: r => if g = f then (g, v) :: r else (g, x) :: putF f v r
theorem lookup_putF (f g : Str) (v : V) : ∀ fs : List (Str × V), (putF f v fs).lookup g = if g = f then some v else fs.lookup g
  | [] => by
    show List.lookup g [(f, v)] = _
    by_cases h : g = f
    · have hb : (g == f) = true := beq_iff_eq.mpr h
      simp only [List.lookup, hb, if_pos h]
    · have hb : (g == f) = false := beq_eq_false_iff_ne.mpr h
      simp only [List.lookup, hb, if_neg h]
  | (k, x) :: r => by
    have ih := lookup_putF f g v r
    rw [show putF f v ((k, x) :: r) = (if k = f then (k, v) :: r else (k, x) :: putF f v r) from rfl]
    by_cases hk : k = f
    · rw [if_pos hk]
      by_cases h : g = k
      · have hb : (g == k) = true := beq_iff_eq.mpr h
        simp only [List.lookup, hb, if_pos (h.trans hk)]
      · have hb : (g == k) = false := beq_eq_false_iff_ne.mpr h
        simp only [List.lookup, hb, if_neg (fun e : g = f => h (e.trans hk.symm))]
    · rw [if_neg hk]
      by_cases h : g = k
      · have hb : (g == k) = true := beq_iff_eq.mpr h
        simp only [List.lookup, hb, if_neg (fun e : g = f => hk (h.symm.trans e))]
      · have hb : (g == k) = false := beq_eq_false_iff_ne.mpr h
        simp only [List.lookup, hb]
        exact ih
theorem keys_putF (f : Str) (v : V) : ∀ fs : List (Str × V), f ∈ (putF f v fs).map (·.1) ∧ ∀ g, g ∈ fs.map (·.1) → g ∈ (putF f v fs).map (·.1)
  | [] => ⟨by simp [putF], fun g h => by simp at h⟩
  | (k, x) :: r => by
    obtain ⟨i1, i2⟩ := keys_putF f v r
    rw [show putF f v ((k, x) :: r) = (if k = f then (k, v) :: r else (k, x) :: putF f v r) from rfl]
    by_cases hk : k = f
    · rw [if_pos hk]
      subst hk
      exact ⟨by simp, fun g h => by simpa using h⟩
    · rw [if_neg hk]
      refine ⟨?_, fun g h => ?_⟩
      · rw [List.map_cons]
        exact List.mem_cons_of_mem _ i1
      · rw [List.map_cons] at h ⊢
        rcases List.mem_cons.mp h with e | e
        · exact List.mem_cons.mpr (.inl e)
        · exact List.mem_cons_of_mem _ (i2 g e)
theorem length_putF (f : Str) (v : V) : ∀ fs : List (Str × V), (putF f v fs).length ≤ fs.length + 1
  | [] => by simp [putF]
  | (k, x) :: r => by
    have ih := length_putF f v r
    rw [show putF f v ((k, x) :: r) = (if k = f then (k, v) :: r else (k, x) :: putF f v r) from rfl]
    by_cases hk : k = f
    · rw [if_pos hk, List.length_cons, List.length_cons]; omega
    · rw [if_neg hk, List.length_cons, List.length_cons]; omega

theorem RelO.some_of {v : V} {o : Option Value} (r : RelO (some v) o) : ∃ u, o = some u ∧ RelV v u := by
  cases o with
  | none => exact (show False from r).elim
  | some u => exact ⟨u, rfl, r⟩
theorem RelO.none_of {o : Option Value} (r : RelO none o) : o = none := by
  cases o with
  | none => rfl
  | some u => exact (show False from r).elim
theorem handed_of {v : V} {u : Value} (r : RelV v u) : PySem.W.handedIn u = true := by
  cases v with
  | non => cases (show u = Value.none from r); rfl
  | bl b => cases (show u = Value.bool b from r); rfl
  | int i => obtain ⟨t, e⟩ := (show ∃ t, u = Value.int i t from r); cases e; rfl
  | str x => obtain ⟨t, e⟩ := (show ∃ t, u = Value.str x t from r); cases e; rfl
  | byt b => obtain ⟨t, e⟩ := (show ∃ t, u = Value.bytes b t from r); cases e; rfl
  | flt b => obtain ⟨t, e⟩ := (show ∃ t, u = Value.float b t from r); cases e; rfl
  | ref a => cases (show u = Value.ref a from r); rfl
  | ty n => cases (show u = Value.type n from r); rfl

section
variable {P : Program} {w : World} {H H' : Hp} {h h' : Heap} {a C dx : Addr} {fs fs' : List (Str × V)}
theorem ins_get (hok : HOk P w H h) (e : H a = some (.ins C dx fs)) : ∃ mA, ObjM h a dx C mA ∧ (∀ f, RelO (fs.lookup f) (mA f)) ∧ PySem.Within mA (fs.map (·.1)) ∧ fs.length ≤ 1000 ∧ H dx = some (.own a) := by
  obtain ⟨d, z, ne, ob, mA, n, r, q⟩ := (show ObjOk P w H h a (.ins C dx fs) from hok a _ e)
  exact ⟨mA, ⟨ob, n, ne⟩, r, q, z, d⟩
end

/-! ### what of the text a class must have -/
structure Cls (K : PySem.W.Frag) (C : Addr) : Prop where
  pg : PySem.W.plainGet K C Str.empty = true
  hd : PySem.W.hasDictIn K C = true
  po : PySem.W.plainOver K C = true
  sa : PySem.W.findIn K (.ref C) "__setattr__" = some (some (.builtin "object.__setattr__"))
theorem Cls.get {K : PySem.W.Frag} {C : Addr} (c : Cls K C) (f : Str) : PySem.W.plainGet K C f = true := c.pg
/-- no class of it has the name -/
def NoAttr (K : PySem.W.Frag) (C : Addr) (f : Str) : Prop := PySem.W.findIn K (.ref C) f = some none
theorem NoAttr.taker {K : PySem.W.Frag} {C : Addr} {f : Str} (n : NoAttr K C f) : PySem.W.takerIn K C f = some none := by
  unfold PySem.W.takerIn
  rw [show PySem.W.findIn K (.ref C) f = some none from n]
  rfl
/-- a constant of the class -/
structure Con (K : PySem.W.Frag) (C : Addr) (f : Str) (v : V) (u : Value) : Prop where
  at_ : PySem.W.findIn K (.ref C) f = some (some u)
  rel : RelV v u
  get : PySem.W.specialIn K u "__get__" = some none
  cp : PySem.W.copiedNames.contains f = false
/-- a method: a plain def of the class or of one above it -/
structure Meth (K : PySem.W.Frag) (C : Addr) (m : Str) (f : Addr) : Prop where
  at_ : PySem.W.findIn K (.ref C) m = some (some (.ref f))
  fn : PySem.W.isFn K (.ref f) = true
  kp : PySem.W.keepIn K (.ref f) = true

section
variable {X : Cx} {pins : List (Addr × Obj)} {σ : St} {H : Hp} {s : Shared} {a C dx : Addr} {fs : List (Str × V)} {f : Str} {v : V} {A : Around} {E : Value → Shared → Prop}

theorem getattr_ok {b : Bool} {Q : Value → Shared → Prop} (I : Inv X pins σ H s) (e : H a = some (.ins C dx fs)) (c : Cls X.K C) (n : NoAttr X.K C f) (l : fs.lookup f = some v)
    (h : ∀ u s', Inv X pins σ H s' → RelV v u → Q u s') : wpAny (model X.prog X.w) A (getAttr (.ref a) f b) Q E s := by
  obtain ⟨mA, O, r, _, _, _⟩ := ins_get I.hok e
  obtain ⟨u, hu, ru⟩ := RelO.some_of (v := v) (o := mA f) (by rw [← l]; exact r f)
  exact get_map I.kIn O (c.get f) c.hd n hu (handed_of ru) (h u _ (I.tok _) ru)

theorem getcon_ok {b : Bool} {u : Value} {Q : Value → Shared → Prop} (I : Inv X pins σ H s) (e : H a = some (.ins C dx fs)) (c : Cls X.K C) (k : Con X.K C f v u) (l : fs.lookup f = none)
    (h : ∀ s', Inv X pins σ H s' → Q u s') : wpAny (model X.prog X.w) A (getAttr (.ref a) f b) Q E s := by
  obtain ⟨mA, O, r, _, _, _⟩ := ins_get I.hok e
  have hn : mA f = none := RelO.none_of (by rw [← l]; exact r f)
  exact get_const I.kIn O (c.get f) c.hd k.at_ k.get k.cp hn (handed_of k.rel) (h _ (I.tok _))

theorem getmeth_ok {m : Str} {g : Addr} {pl : Sem Bool} {Q : Value × List Value → Shared → Prop} (I : Inv X pins σ H s) (e : H a = some (.ins C dx fs)) (c : Cls X.K C) (k : Meth X.K C m g) (l : fs.lookup m = none)
    (h : Q (.ref g, [.ref a]) s) : wpAny (model X.prog X.w) A (getMethod (.ref a) m pl) Q E s := by
  obtain ⟨mA, O, r, _, _, _⟩ := ins_get I.hok e
  have hn : mA m = none := RelO.none_of (by rw [← l]; exact r m)
  exact get_meth I.kIn O (c.get m) k.at_ k.fn hn h

theorem setattr_ok {y : V} {u : Value} {Q : Unit → Shared → Prop} (I : Inv X pins σ H s) (e : H a = some (.ins C dx fs)) (c : Cls X.K C) (n : NoAttr X.K C f) (hl : fs.length < 1000) (ry : RelV y u)
    (h : ∀ s', Inv X pins σ (upd H a (.ins C dx (putF f y fs))) s' → Q () s') : wpAny (model X.prog X.w) A (setAttr (.ref a) f u) Q E s := by
  obtain ⟨mA, O, r, wi, _, ho⟩ := ins_get I.hok e
  have hz : (fs.map (·.1)).length ≤ sizeLine := by rw [List.length_map, sizeLine_eq]; omega
  refine set_map I.kIn O c.sa c.po n.taker c.hd wi hz fun h' O' sb => h _ ?_
  have hd : ∃ o, h'.get? dx = some o := let ⟨o, _, _, e', _⟩ := O'.ns; ⟨o, e'⟩
  refine I.write (x := a) (e := dx) (by rw [e]; exact True.intro) (.inr ho) (fun b q hb z => (sb.2 b hb).trans z) hd ?_
  refine ⟨by rw [upd_ne O.ne]; exact ho, ?_, O.ne, O'.obj, _, O'.ns, fun g => ?_, fun g hg => ?_⟩
  · have := length_putF f y fs; omega
  · show RelO ((putF f y fs).lookup g) (if g = f then some u else mA g)
    rw [lookup_putF]
    by_cases q : g = f
    · rw [if_pos q, if_pos q]; exact ry
    · rw [if_neg q, if_neg q]; exact r g
  · by_cases q : g = f
    · rw [q]; exact (keys_putF f y fs).1
    · refine (keys_putF f y fs).2 g (wi g fun z => hg ?_)
      show (if g = f then some u else mA g) = none
      rw [if_neg q]; exact z

/-- a new instance, tracked, without attributes -/
theorem Inv.made (I : Inv X pins σ H s) : Inv X pins σ (upd (upd H s.heap.objs.size (.own (s.heap.objs.size + 1))) (s.heap.objs.size + 1) (.ins C s.heap.objs.size []))
    { s with heap := (s.heap.push PySem.W.emptyDict).push (PySem.W.instObj C s.heap.objs.size) } := by
  have e1 : (s.heap.push PySem.W.emptyDict).get? s.heap.objs.size = some PySem.W.emptyDict := Heap.get?_push_size s.heap rfl
  have e2 : ((s.heap.push PySem.W.emptyDict).push (PySem.W.instObj C s.heap.objs.size)).get? (s.heap.objs.size + 1) = some (PySem.W.instObj C s.heap.objs.size) := by
    have := Heap.get?_push_size (s.heap.push PySem.W.emptyDict) (o := PySem.W.instObj C s.heap.objs.size) rfl
    rwa [Heap.size_push] at this
  have e3 : (s.heap.push PySem.W.emptyDict).Ns s.heap.objs.size (fun _ => none) := ⟨PySem.W.emptyDict, #[], _, e1, rfl, (fun e he => absurd he (by simp)), fun _ => rfl⟩
  have I1 := I.laid (a := s.heap.objs.size) (o := .own (s.heap.objs.size + 1)) (h' := s.heap.push PySem.W.emptyDict) (t' := s.toks) (fun b u q => Heap.get?_push_of_some _ q) (Nat.le_refl _) ⟨_, e1⟩
  refine I1.laid (a := s.heap.objs.size + 1) (o := .ins C s.heap.objs.size []) (t' := s.toks) (fun b u q => Heap.get?_push_of_some _ q) (Nat.le_of_eq (Heap.size_push _ _)) ?_
  have ne : s.heap.objs.size ≠ s.heap.objs.size + 1 := Nat.ne_of_lt (Nat.lt_succ_self _)
  refine ⟨by rw [upd_ne ne, upd_same], Nat.zero_le _, ne, e2, fun _ => none, (Heap.Ns1.of_empty e3).at fun o q => Heap.get?_push_of_some _ q, fun _ => True.intro, fun y hy => absurd rfl hy⟩

/-- e.f where nothing but the object is asked: through attributeBase (super) and the last hold -/
theorem attr_of {prog : Program} {w : World} {env : Env} {e : Expr} {f : Str} {pos : Pos} {s : Shared} {Q : Value → Shared → Prop} (hb : attributeBase e f env (eval e env) = eval e env)
    (h : wpAny (model prog w) A (eval e env) (fun o s₁ => wpAny (model prog w) A (getAttr o f true) Q E s₁) E s) : wpAny (model prog w) A (eval (.Attribute e f pos) env) Q E s :=
  Attribute_any_ h (by rw [arm_eval_Attribute, hb])
end

/-! ### readings and rules -/
/-- e.f, an attribute of the instance -/
def tFld (K : PySem.W.Frag) (ta : TE) (f : Str) : TE := fun σ H Q => ta σ H fun x H1 => ∃ a C dx fs v, x = .ref a ∧ H1 a = some (.ins C dx fs) ∧ Cls K C ∧ NoAttr K C f ∧ fs.lookup f = some v ∧ Q v H1
/-- e.f, a constant of the class -/
def tCon (K : PySem.W.Frag) (ta : TE) (f : Str) : TE := fun σ H Q => ta σ H fun x H1 => ∃ a C dx fs v u, x = .ref a ∧ H1 a = some (.ins C dx fs) ∧ Cls K C ∧ Con K C f v u ∧ fs.lookup f = none ∧ Q v H1
/-- e.f = value -/
def sFld (K : PySem.W.Frag) (ta tv : TE) (f : Str) : TS := fun D σ H => tv σ H fun y H1 => ta σ H1 fun x H2 => ∃ a C dx fs, x = .ref a ∧ H2 a = some (.ins C dx fs) ∧ Cls K C ∧ NoAttr K C f ∧ fs.length < 1000 ∧
  D.nx σ (upd H2 a (.ins C dx (putF f y fs)))
/-- an augmented operator on two values -/
def InOp (X : Cx) (op : Operator) (rd : V → V → Hp → VK → Prop) : Prop :=
  ∀ (pins : List (Addr × Obj)) (s : Shared) (σ : St) (H : Hp) (x y : V) (u v : Value) (Q : VK), Inv X pins σ H s → RelV x u → RelV y v → rd x y H Q → wpAny (model X.prog X.w) X.A (inplaceOp op u v) (EP X pins σ Q) X.xe s
/-- e.f op= value -/
def sFldAug (K : PySem.W.Frag) (ta tv : TE) (rd : V → V → Hp → VK → Prop) (f : Str) : TS := fun D σ H => ta σ H fun x H1 => ∃ a C dx fs v, x = .ref a ∧ H1 a = some (.ins C dx fs) ∧ Cls K C ∧ NoAttr K C f ∧ fs.lookup f = some v ∧
  tv σ H1 fun y H2 => rd v y H2 fun z H3 => ∃ dx' fs', H3 a = some (.ins C dx' fs') ∧ fs'.length < 1000 ∧ D.nx σ (upd H3 a (.ins C dx' (putF f z fs')))

section
variable {X : Cx} {o e value : Expr} {f : Str} {pos pos' tpos : Pos} {ta tv : TE}
theorem pe_fld (he : PE X e ta) (hb : attributeBase e f X.env (eval e X.env) = eval e X.env) : PE X (.Attribute e f pos) (tFld X.K ta f) := by
  intro pins s σ H Q I h
  refine attr_of hb (thn (he pins s σ H _ I h) fun u s1 ⟨x, H1, I1, rx, a, C, dx, fs, v, ex, ea, c, n, l, q⟩ => ?_)
  subst ex
  obtain rfl : u = Value.ref a := rx
  exact getattr_ok I1 ea c n l fun u' s2 I2 ru => ⟨v, H1, I2, ru, q⟩
theorem pe_con (he : PE X e ta) (hb : attributeBase e f X.env (eval e X.env) = eval e X.env) : PE X (.Attribute e f pos) (tCon X.K ta f) := by
  intro pins s σ H Q I h
  refine attr_of hb (thn (he pins s σ H _ I h) fun u s1 ⟨x, H1, I1, rx, a, C, dx, fs, v, u0, ex, ea, c, k, l, q⟩ => ?_)
  subst ex
  obtain rfl : u = Value.ref a := rx
  exact getcon_ok I1 ea c k l fun s2 I2 => ⟨v, H1, I2, k.rel, q⟩
theorem ps_fld (ha : PE X o ta) (hv : PE X value tv) (hs : swapsWith value (some (.Attribute o f pos')) pos.line X.env = pure false) : PS X (.Assign [.Attribute o f pos'] value pos) (sFld X.K ta tv f) := by
  intro pins s σ H D I h
  refine plainObj_wpAny_Assign_Attribute (thn (hv pins s σ H _ I h) fun u s1 ⟨y, H1, I1, ry, q⟩ => thn (ha pins s1 σ H1 _ I1 q) fun ov s2 ⟨x, H2, I2, rx, a, C, dx, fs, ex, ea, c, n, l, q2⟩ => ?_) hs
  subst ex
  obtain rfl : ov = Value.ref a := rx
  exact setattr_ok I2 ea c n l ry fun s3 I3 => ⟨σ, _, I3, q2⟩
theorem ps_fldaug {op : Operator} {rd : V → V → Hp → VK → Prop} (ha : PE X o ta) (hv : PE X value tv) (hop : InOp X op rd) : PS X (.AugAssign (.Attribute o f tpos) op value pos) (sFldAug X.K ta tv rd f) := by
  intro pins s σ H D I h
  refine wpAny_AugAssign_AttributeAny (thn (ha pins s σ H _ I h) fun ov s1 ⟨x, H1, I1, rx, a, C, dx, fs, v, ex, ea, c, n, l, q⟩ => ?_)
  subst ex
  obtain rfl : ov = Value.ref a := rx
  refine getattr_ok I1 ea c n l fun u s2 I2 ru => thn (hv pins s2 σ H1 _ I2 q) fun w3 s3 ⟨y, H2, I3, ry, q3⟩ => thn (hop pins s3 σ H2 v y u w3 _ I3 ru ry q3) fun w4 s4 ⟨z, H3, I4, rz, dx', fs', ea', l', q4⟩ => ?_
  exact setattr_ok I4 ea' c n l' rz fun s5 I5 => ⟨σ, _, I5, q4⟩
def rAdd : V → V → Hp → VK → Prop := fun x y H Q => ∃ i j, x = .int i ∧ y = .int j ∧ Q (.int (i + j)) H
def rSub : V → V → Hp → VK → Prop := fun x y H Q => ∃ i j, x = .int i ∧ y = .int j ∧ Q (.int (i - j)) H
theorem in_add : InOp X .Add rAdd := by
  rintro pins s σ H x y u v Q I rx ry ⟨i, j, rfl, rfl, q⟩
  obtain ⟨t, rfl⟩ := (show ∃ t, u = Value.int i t from rx)
  obtain ⟨t', rfl⟩ := (show ∃ t', v = Value.int j t' from ry)
  exact PyProof.Rows.iadd_int ⟨.int (i + j), H, I.tok _, ⟨_, rfl⟩, q⟩
theorem in_sub : InOp X .Sub rSub := by
  rintro pins s σ H x y u v Q I rx ry ⟨i, j, rfl, rfl, q⟩
  obtain ⟨t, rfl⟩ := (show ∃ t, u = Value.int i t from rx)
  obtain ⟨t', rfl⟩ := (show ∃ t', v = Value.int j t' from ry)
  exact PyProof.Rows.isub_int ⟨.int (i - j), H, I.tok _, ⟨_, rfl⟩, q⟩

/-- what is between an instance and its method: the tree of a method call -/
theorem methcall_of {pl : Sem Bool} {m : Str} {apos : Pos} {args : List Expr} {pins : List (Addr × Obj)} {s : Shared} {σ : St} {H : Hp} {Q : Value → Shared → Prop} {te : TE} (he : PE X e te) (I : Inv X pins σ H s)
    (h : te σ H fun x H1 => ∃ a C dx fs g, x = .ref a ∧ H1 a = some (.ins C dx fs) ∧ Cls X.K C ∧ Meth X.K C m g ∧ fs.lookup m = none ∧
      ∀ s1, Inv X pins σ H1 s1 → wpAny (model X.prog X.w) X.A (callWith pos (.ref g) [.ref a] (backTo pos (starEach args X.env)) (backToKw pos (keywordEach [] X.env))) Q X.xe s1)
    (ht : eval (.Call (.Attribute e m apos) args [] pos) X.env = (do
      let ov ← eval e X.env
      standAt apos.atName
      let (f, first) ← holding [ov] (getMethod ov m pl)
      callWith pos f first (backTo pos (starEach args X.env)) (backToKw pos (keywordEach [] X.env)))) :
    wpAny (model X.prog X.w) X.A (eval (.Call (.Attribute e m apos) args [] pos) X.env) Q X.xe s := by
  refine PySem.W.methodCall_KW (pl := pl) (thn (he pins s σ H _ I h) fun u s1 ⟨x, H1, I1, rx, a, C, dx, fs, g, ex, ea, c, k, l, q⟩ => ?_) ht
  subst ex
  obtain rfl : u = Value.ref a := rx
  exact getmeth_ok I1 ea c k l (q s1 I1)
end

/-! ### isinstance -/
section
variable {X : Cx} {pins : List (Addr × Obj)} {σ : St} {H : Hp} {s : Shared} {A : Around} {E : Value → Shared → Prop} {Q : Value → Shared → Prop} {c : Value} {b : Bool}
/-- the type of a value, as the fragment's deciders take it; for an instance its class -/
inductive TyOf (K : PySem.W.Frag) (H : Hp) : V → Value → Prop where
  | non : TyOf K H .non (.type "NoneType")
  | bl (x : Bool) : TyOf K H (.bl x) (.type "bool")
  | int (i : Int) : TyOf K H (.int i) (.type "int")
  | str (x : Str) : TyOf K H (.str x) (.type "str")
  | flt (x : UInt64) : TyOf K H (.flt x) (.type "float")
  | lst {a : Addr} {xs : List V} (e : H a = some (.lst xs)) : TyOf K H (.ref a) (.type "list")
  | frz {a : Addr} {o : Obj} {xs : List V} (e : H a = some (.frz o (.lst xs))) : TyOf K H (.ref a) (.type "list")
  | tup {a : Addr} {xs : List V} (e : H a = some (.tup xs)) : TyOf K H (.ref a) (.type "tuple")
  | dK {a : Addr} {kvs : List (Key × V)} (e : H a = some (.dK kvs)) : TyOf K H (.ref a) (.type "dict")
  | dT {a : Addr} {kvs : List (List Key × V)} (e : H a = some (.dT kvs)) : TyOf K H (.ref a) (.type "dict")
  | ins {a C dx : Addr} {fs : List (Str × V)} (e : H a = some (.ins C dx fs)) (cl : Cls K C) (ha : PySem.W.findIn K (.ref C) "__class__" = some (some (.builtin "object.__class__")))
      (hn : PySem.W.specialIn K (.builtin "object.__class__") "__get__" = some (some (.builtin "getset_descriptor.__get__"))) (htk : PySem.W.takesIn K (.builtin "object.__class__") = some true)
      (hm : PySem.W.mroIn K C (.type "object") = some true) : TyOf K H (.ref a) (.ref C)
/-- isinstance(x, c) for one class c, a built-in or an own one: kitOne's answer -/
theorem isinst_ok {x : V} {u t : Value} (I : Inv X pins σ H s) (rx : RelV x u) (ty : TyOf X.K H x t) (e : PySem.W.kitOne X.K t c = some b) (h : ∀ tk, Q (.bool b) { s with toks := tk }) :
    wpAny (model X.prog X.w) A (call (.builtin "isinstance") [u, c]) Q E s := by
  cases ty with
  | non => cases (show u = Value.none from rx); exact PySem.W.kia_one PySem.W.kitx_none I.kIn True.intro e (fun z => nomatch z) h
  | bl y => cases (show u = Value.bool y from rx); exact PySem.W.kia_one PySem.W.kitx_bool I.kIn True.intro e (fun z => nomatch z) h
  | int i => obtain ⟨t, q⟩ := (show ∃ t, u = Value.int i t from rx); cases q; exact PySem.W.kia_one PySem.W.kitx_int I.kIn True.intro e (fun z => nomatch z) h
  | str y => obtain ⟨t, q⟩ := (show ∃ t, u = Value.str y t from rx); cases q; exact PySem.W.kia_one PySem.W.kitx_str I.kIn True.intro e (fun z => nomatch z) h
  | flt y => obtain ⟨t, q⟩ := (show ∃ t, u = Value.float y t from rx); cases q; exact PySem.W.kia_one PySem.W.kitx_float I.kIn True.intro e (fun z => nomatch z) h
  | @lst a xs ea =>
    cases (show u = Value.ref a from rx)
    obtain ⟨_, _, n, _, h1⟩ := (show ObjOk X.prog X.w H s.heap a (.lst xs) from I.hok a _ ea)
    exact PySem.W.kia_one PySem.W.kitx_list I.kIn ⟨_, h1, rfl⟩ e (fun z => nomatch z) h
  | @frz a ob xs ea =>
    cases (show u = Value.ref a from rx)
    obtain ⟨_, _, _, n, _, h1⟩ := (show ObjOk X.prog X.w H s.heap a (.frz ob (.lst xs)) from I.hok a _ ea)
    exact PySem.W.kia_one PySem.W.kitx_list I.kIn ⟨_, h1, rfl⟩ e (fun z => nomatch z) h
  | @tup a xs ea =>
    cases (show u = Value.ref a from rx)
    obtain ⟨_, _, _, p⟩ := (show ObjOk X.prog X.w H s.heap a (.tup xs) from I.hok a _ ea)
    obtain ⟨o, h1, h2, _⟩ := p
    exact PySem.W.kia_one PySem.W.kitx_tuple I.kIn ⟨o, h1, h2⟩ e (fun z => nomatch z) h
  | @dK a kvs ea =>
    cases (show u = Value.ref a from rx)
    obtain ⟨_, _, vs, _, p⟩ := (show ObjOk X.prog X.w H s.heap a (.dK kvs) from I.hok a _ ea)
    obtain ⟨o, es, ep, h1, h2, _⟩ := p
    exact PySem.W.kia_one PySem.W.kitx_dict I.kIn ⟨o, h1, h2.1⟩ e (fun z => nomatch z) h
  | @dT a kvs ea =>
    cases (show u = Value.ref a from rx)
    obtain ⟨_, _, xs, _, o, es, ep, h1, h2, _⟩ := (show ObjOk X.prog X.w H s.heap a (.dT kvs) from I.hok a _ ea)
    exact PySem.W.kia_one PySem.W.kitx_dict I.kIn ⟨o, h1, h2.1⟩ e (fun z => nomatch z) h
  | @ins a C dx fs ea cl ha hn htk hm =>
    cases (show u = Value.ref a from rx)
    obtain ⟨mA, O, _⟩ := ins_get I.hok ea
    obtain ⟨od, J, _⟩ := O.look
    exact PySem.W.kia_one (PySem.W.kitx_own (cl.get _) cl.hd ha hn htk hm) I.kIn J e (fun z => nomatch z) h
end
end L2

namespace L2
open PySem PySem.Spec PyProof.Rows

/-! ### room -/
structure Room (k : Nat) (A : Around) : Prop where
  hd : A.handled = none
  dp : A.depth + 3 * k + 5 < recursionLimit
  un : A.units + 16 * k + 200 < cLine
theorem Room.mono {j k : Nat} {A : Around} (r : Room k A) (h : j ≤ k) : Room j A := ⟨r.hd, by have := r.dp; omega, by have := r.un; omega⟩
theorem Room.deeper {k : Nat} {A : Around} (r : Room (k + 1) A) (env : Env) : Room k (A.deeper env) :=
  ⟨r.hd, by have := r.dp; show A.depth + 1 + 3 * k + 5 < _; omega, by have := r.un; show A.units + 3 + 16 * k + 200 < _; omega⟩
theorem Room.in1 {k : Nat} {A : Around} (r : Room (k + 1) A) : Room k A.in1 :=
  ⟨r.hd, by have := r.dp; show A.depth + 3 * k + 5 < _; omega, by have := r.un; show A.units + 1 + 16 * k + 200 < _; omega⟩
theorem make_depth {A : Around} {C : Addr} {us : List Value} {kw : List (Str × Value)} : (A.under (.builtin "type.__call__" ⟨.ref C :: us, kw⟩)).depth = A.depth + 1 := by
  first | rfl | simp [Around.under, Code.weight, Code.isCreation, Code.isGuard, Code.isCaller, Code.frames, Code.isFrame, guardIds]
theorem make_units {A : Around} {C : Addr} {us : List Value} {kw : List (Str × Value)} : (A.under (.builtin "type.__call__" ⟨.ref C :: us, kw⟩)).units = A.units + 1 := by
  first | rfl | simp [Around.under, Code.cUnits, Code.frames, Code.isFrame]
theorem Room.make {k : Nat} {A : Around} (r : Room (k + 1) A) (C : Addr) (us : List Value) (kw : List (Str × Value)) : Room k (A.under (.builtin "type.__call__" ⟨.ref C :: us, kw⟩)) :=
  ⟨r.hd, by have := r.dp; rw [make_depth]; omega, by have := r.un; rw [make_units]; omega⟩
theorem Room.depth {k : Nat} {A : Around} (r : Room k A) : A.depth < recursionLimit := by have := r.dp; omega
theorem Room.units {k : Nat} {A : Around} (r : Room k A) : A.units + 64 < cLine := by have := r.un; omega
theorem Room.units0 {k : Nat} {A : Around} (r : Room k A) : A.units < cLine := by have := r.un; omega

/-! ### argument lists and displays -/
def tNil : TA := fun _ H Q => Q [] H
def tCons (ta : TE) (tr : TA) : TA := fun σ H Q => ta σ H fun x H1 => tr σ H1 fun xs H2 => Q (x :: xs) H2
section
variable {X : Cx} {e : Expr} {es : List Expr} {te : TE} {t : TA} {pos : Pos}
theorem pa_nil : PA X [] tNil := fun _ _ _ _ H Q I h => Calls.spliced_nil ⟨[], H, I, .nil, h⟩
theorem pa_cons (ha : PE X e te) (hr : PA X es t) (hs : starEach (e :: es) X.env = (false, eval e X.env) :: starEach es X.env := by rfl) : PA X (e :: es) (tCons te t) := by
  intro pos pins s σ H Q I h
  rw [hs]
  show wpAny _ _ (spliced ((false, eval e X.env) :: backTo pos (starEach es X.env))) _ _ s
  refine Calls.spliced_cons (thn (ha pins s σ H _ I h) fun u s1 ⟨x, H1, I1, r1, q1⟩ => ?_)
  exact thn (hr pos pins s1 σ H1 _ I1 q1) fun us s2 ⟨xs, H2, I2, r2, q2⟩ => ⟨x :: xs, H2, I2, .cons r1 r2, q2⟩

/-- a tuple, a list of written items -/
def tTup (t : TA) : TE := fun σ H Q => t σ H fun xs H1 => xs.length ≤ sizeLine ∧ ∀ p, H1 p = none → Q (.ref p) (upd H1 p (.tup xs))
def tLst (t : TA) : TE := fun σ H Q => t σ H fun xs H1 => xs.length ≤ sizeLine ∧ ∀ p, H1 p = none → Q (.ref p) (upd H1 p (.lst xs))
theorem pe_tup {x1} (h : PA X es t) : PE X (.Tuple es x1 pos) (tTup t) := by
  intro pins s σ H Q I hq
  refine wpAny_Tuple_spliced (thn (h pos pins s σ H _ I hq) fun us s1 ⟨xs, H1, I1, r, z, q⟩ => ⟨by rw [← r.length]; exact z, ?_⟩)
  have hf : H1 s1.heap.objs.size = none := I1.hok.fresh (Nat.le_refl _)
  refine ⟨.ref s1.heap.objs.size, upd H1 s1.heap.objs.size (.tup xs), I1.laid (t' := s1.toks) (fun b u e => Heap.get?_push_of_some _ e) (Nat.le_refl _) ?_, rfl, q _ hf⟩
  exact ⟨z, us, r, ⟨_, Heap.get?_push_size _ rfl, rfl, _, rfl⟩⟩
theorem pe_lst (h : PA X es t) : PE X (.List es pos) (tLst t) := by
  intro pins s σ H Q I hq
  refine wpAny_List_spliced (thn (h pos pins s σ H _ I hq) fun us s1 ⟨xs, H1, I1, r, z, q⟩ => ⟨by rw [← r.length]; exact z, ?_⟩)
  have hf : H1 s1.heap.objs.size = none := I1.hok.fresh (Nat.le_refl _)
  refine ⟨.ref s1.heap.objs.size, upd H1 s1.heap.objs.size (.lst xs), I1.laid (t' := s1.toks) (fun b u e => Heap.get?_push_of_some _ e) (Nat.le_refl _) ?_, rfl, q _ hf⟩
  exact ⟨z, us, 0, r, Heap.get?_push_size _ rfl⟩
end

/-! ### what a def promises -/
/-- a def's promise: the bound arguments in the parameters' order, the heap, the wanted end, the wanted exception -/
abbrev Sp := List V → Hp → VK → XK → Prop
/-- how an exception lies behind a call (file 08 gives it): the callers' frames, abstract heap and state ahead of the call, the wish, the exception, the state -/
abbrev CXT := List Env → Hp → Shared → XK → Value → Shared → Prop

/-- the state at a call -/
structure Env0 (P : Program) (w : World) (K : PySem.W.Frag) (mg : Str → Option Value) (base : Heap) (A : Around) (outer : List Env) (s : Shared) (H : Hp) : Prop where
  frames : A.frames = some outer
  mod : Mod K mg base
  bs : ∀ b o, base.get? b = some o → s.heap.get? b = some o ∧ H b = none
  bsz : base.objs.size ≤ s.heap.objs.size
  funs : s.heap.FunFrames base outer
  frf : ∀ b ∈ frs outer, H b = none
  hok : HOk P w H s.heap
  bare : AllBare s.gens
/-- a call's end -/
def CE (outer : List Env) (P : Program) (w : World) (H : Hp) (s : Shared) (Q : VK) (u : Value) (s' : Shared) : Prop :=
  ∃ v H', s'.os = s.os ∧ AllBare s'.gens ∧ Un (frs outer) [] H H' s.heap s'.heap ∧ HOk P w H' s'.heap ∧ RelV v u ∧ Q v H'
def CR (CX : CXT) (outer : List Env) (P : Program) (w : World) (H : Hp) (s : Shared) (Q : VK) (E : XK) (r : Result) (s' : Shared) : Prop :=
  match r with
  | .ok (.ret u) => CE outer P w H s Q u s'
  | .ok _ => False
  | .error e => CX outer H s E e s'
structure FnOk (P : Program) (w : World) (K : PySem.W.Frag) (mg : Str → Option Value) (base : Heap) (CX : CXT) (k : Nat) (f : Addr) (fd : FuncData) (ps : List Str) (sp : Sp) : Prop where
  len : ∀ vs H Q E, sp vs H Q E → vs.length = ps.length
  run : ∀ (A : Around) (outer : List Env) (s : Shared) (H : Hp) (args : Args) (us : List Value) (vs : List V) (Q : VK) (E : XK), Room k A → Env0 P w K mg base A outer s H → BindsTo s fd args (ps.zip us) → Vals vs us → sp vs H Q E →
    codeAny (model P w) A (.call (.ref f) args) (CR CX outer P w H s Q E) s
theorem FnOk.mono {P : Program} {w : World} {K : PySem.W.Frag} {mg : Str → Option Value} {base : Heap} {CX : CXT} {j k : Nat} {f : Addr} {fd : FuncData} {ps : List Str} {sp : Sp} (F : FnOk P w K mg base CX j f fd ps sp) (h : j ≤ k) :
    FnOk P w K mg base CX k f fd ps sp := ⟨F.len, fun A outer s H args us vs Q E hr => F.run A outer s H args us vs Q E (hr.mono h)⟩
/-- a weaker promise -/
theorem FnOk.imp {P : Program} {w : World} {K : PySem.W.Frag} {mg : Str → Option Value} {base : Heap} {CX : CXT} {k : Nat} {f : Addr} {fd : FuncData} {ps : List Str} {sp sp' : Sp} (F : FnOk P w K mg base CX k f fd ps sp)
    (h : ∀ vs H Q E, sp' vs H Q E → sp vs H Q E) : FnOk P w K mg base CX k f fd ps sp' :=
  ⟨fun vs H Q E q => F.len vs H Q E (h _ _ _ _ q), fun A outer s H args us vs Q E hr he hb hv hs => F.run A outer s H args us vs Q E hr he hb hv (h _ _ _ _ hs)⟩

theorem Env0.make {P : Program} {w : World} {K : PySem.W.Frag} {mg : Str → Option Value} {base : Heap} {A : Around} {outer : List Env} {s : Shared} {H : Hp} (e : Env0 P w K mg base A outer s H) (C : Addr) (us : List Value) (kw : List (Str × Value)) :
    Env0 P w K mg base (A.under (.builtin "type.__call__" ⟨.ref C :: us, kw⟩)) outer s H := ⟨by first | exact e.frames | (simpa [Around.under, Code.envs, Code.isFrame, pushEnvs] using e.frames), e.mod, e.bs, e.bsz, e.funs, e.frf, e.hok, e.bare⟩
theorem Env0.in1 {P : Program} {w : World} {K : PySem.W.Frag} {mg : Str → Option Value} {base : Heap} {A : Around} {outer : List Env} {s : Shared} {H : Hp} (e : Env0 P w K mg base A outer s H) :
    Env0 P w K mg base A.in1 outer s H := ⟨e.frames, e.mod, e.bs, e.bsz, e.funs, e.frf, e.hok, e.bare⟩

section
variable {X : Cx} {pins : List (Addr × Obj)} {σ : St} {H : Hp} {s s' : Shared}
/-- from a body: what a callee wants -/
theorem Inv.env0 (I : Inv X pins σ H s) : Env0 X.prog X.w X.K X.mg X.base X.A X.stack s H :=
  ⟨I.ok.frames, I.ok.mod, I.bs, Nat.le_trans I.ok.bsz I.sz, I.stack, I.stkFree, I.hok, I.bare⟩
/-- behind a call -/
theorem Inv.after {Q : VK} {u : Value} (I : Inv X pins σ H s) (h : CE X.stack X.prog X.w H s Q u s') : EP X pins σ Q u s' := by
  obtain ⟨v, H', os, bare, un, hok, r, q⟩ := h
  obtain ⟨hh, g, d, t, os'⟩ := s'
  obtain rfl : os' = s.os := os
  exact ⟨v, H', I.call (h' := hh) (g' := g) (d' := d) (t' := t) (ch := []) un hok bare (fun b z => absurd z (by simp)), r, q⟩
end

/-! ### calls -/
/-- f(..): the written arguments, then the defaults dvs; E: what is wanted of an exception -/
def tCall (sp : Sp) (dvs : List V) (E : XK) (t : TA) : TE := fun σ H Q => t σ H fun vs H1 => sp (vs ++ dvs) H1 Q E
/-- o.m(..) of an instance of the class at C -/
def tMeth (C : Addr) (m : Str) (sp : Sp) (dvs : List V) (E : XK) (ta : TE) (t : TA) : TE := fun σ H Q => ta σ H fun x H1 => ∃ a dx fs, x = .ref a ∧ H1 a = some (.ins C dx fs) ∧ fs.lookup m = none ∧
  t σ H1 fun vs H2 => sp (x :: (vs ++ dvs)) H2 Q E
/-- C(..): a new instance and its dict, then __init__ -/
def tMake (C : Addr) (sp : Sp) (dvs : List V) (E : XK) (t : TA) : TE := fun σ H Q => t σ H fun vs H1 => ∀ x dx, H1 x = none → H1 dx = none → dx ≠ x →
  sp (.ref x :: (vs ++ dvs)) (upd (upd H1 dx (.own x)) x (.ins C dx [])) (fun v H2 => v = .non ∧ Q (.ref x) H2) E

/-- how the parameters are bound: us the positional arguments, kw the keywords' values by name, ds the defaults that fill up -/
def Binds (K : PySem.W.Frag) (fd : FuncData) (ps : List Str) (ds : List Value) : Prop :=
  ∀ (s : Shared) (us : List Value), K.In s.heap → (us ++ ds).length = ps.length → BindsTo s fd ⟨us, []⟩ (ps.zip (us ++ ds))
/-- every parameter is given -/
theorem Binds.all {K : PySem.W.Frag} {fd : FuncData} {ps : List Str} (h : ∀ us : List Value, us.length = ps.length → bindArgs fd ⟨us, []⟩ = pure (ps.zip us)) : Binds K fd ps [] := fun s us _ hl => by
  rw [List.append_nil] at hl ⊢
  exact .of_eq (h us hl)

/-- an exception of a callee reaches what this body wants of exceptions -/
def Passes (CX : CXT) (X : Cx) (E : XK) : Prop := ∀ (pins : List (Addr × Obj)) (σ : St) (H : Hp) (s : Shared) (e : Value) (s' : Shared), Inv X pins σ H s → CX X.stack H s E e s' → X.xe e s'

section
variable {X : Cx} {CX : CXT} {k : Nat} {f C : Addr} {fd : FuncData} {ps : List Str} {sp : Sp} {dvs : List V} {ds : List Value} {E : XK} {x m : Str} {p pos apos : Pos} {e o : Expr} {es : List Expr} {ta : TE} {t : TA}

/-- the callee runs -/
theorem run_fn {pins : List (Addr × Obj)} {σ : St} {H : Hp} {s : Shared} {Q : VK} {us : List Value} {vs : List V} (F : FnOk X.prog X.w X.K X.mg X.base CX k f fd ps sp) (hr : Room k X.A) (hb : Binds X.K fd ps ds) (hd : Vals dvs ds) (hx : Passes CX X E)
    (I : Inv X pins σ H s) (r : Vals vs us) (h : sp (vs ++ dvs) H Q E) : wpAny (model X.prog X.w) X.A (call (.ref f) us) (EP X pins σ Q) X.xe s := by
  have r2 : Vals (vs ++ dvs) (us ++ ds) := r.append hd
  have hl : (us ++ ds).length = ps.length := by rw [← r2.length]; exact F.len _ _ _ _ h
  refine wpAny_call (codeAny_mono (F.run X.A X.stack s H ⟨us, []⟩ (us ++ ds) (vs ++ dvs) Q E hr I.env0 (hb s us I.kIn hl) r2 h) fun r s' hq => ?_)
  cases r with
  | error e => exact hx pins σ H s e s' I hq
  | ok fl =>
    cases fl with
    | ret u => exact I.after hq
    | next => exact False.elim hq
    | brk => exact False.elim hq
    | cont => exact False.elim hq

theorem pe_call (F : FnOk X.prog X.w X.K X.mg X.base CX k f fd ps sp) (hr : Room k X.A) (hg : Gl X x) (hm : X.mg x = some (.ref f)) (hk : PySem.W.keepIn X.K (.ref f) = true) (hb : Binds X.K fd ps ds) (hd : Vals dvs ds) (hx : Passes CX X E)
    (ha : PA X (e :: es) t) (hdb : (x == ("__debug__" : Str)) = false := by decide) (he : starEach (e :: es) X.env = (false, eval e X.env) :: starEach es X.env := by rfl) (hpl : (backTo pos (starEach es X.env)).any (·.1) = false := by rfl) :
    PE X (.Call (.Name x p) (e :: es) [] pos) (tCall sp dvs E t) := by
  intro pins s σ H Q I h
  refine wpAny_Call_Name_kw (ld_glob I hg hm ?_ hdb)
  refine PySem.W.callWith_K (h₀ := X.base) I.ok.mod.kin hk (thn (ha pos pins s σ H _ I h) fun us s1 ⟨vs, H1, I1, r, q⟩ => ⟨I1.kIn, ?_⟩) he hpl
  exact run_fn F hr hb hd hx I1 r q
theorem pe_call0 (F : FnOk X.prog X.w X.K X.mg X.base CX k f fd ps sp) (hr : Room k X.A) (hg : Gl X x) (hm : X.mg x = some (.ref f)) (hk : PySem.W.keepIn X.K (.ref f) = true) (hb : Binds X.K fd ps ds) (hd : Vals dvs ds) (hx : Passes CX X E)
    (hdb : (x == ("__debug__" : Str)) = false := by decide) : PE X (.Call (.Name x p) [] [] pos) (tCall sp dvs E tNil) := by
  intro pins s σ H Q I h
  refine wpAny_Call_Name_kw (ld_glob I hg hm ?_ hdb)
  exact PySem.W.callWith_K0 I.kIn hk (run_fn (us := []) F hr hb hd hx I .nil h)

/-- o.m(e, ..) -/
theorem pe_meth {pl : Sem Bool} (he : PE X o ta) (c : Cls X.K C) (hm : Meth X.K C m f) (F : FnOk X.prog X.w X.K X.mg X.base CX k f fd ps sp) (hr : Room k X.A) (hb : Binds X.K fd ps ds) (hd : Vals dvs ds) (hx : Passes CX X E) (ha : PA X (e :: es) t)
    (hst : starEach (e :: es) X.env = (false, eval e X.env) :: starEach es X.env := by rfl) (hpl : (backTo pos (starEach es X.env)).any (·.1) = false := by rfl)
    (ht : eval (.Call (.Attribute o m apos) (e :: es) [] pos) X.env = (do
      let ov ← eval o X.env
      standAt apos.atName
      let (f, first) ← holding [ov] (getMethod ov m pl)
      callWith pos f first (backTo pos (starEach (e :: es) X.env)) (backToKw pos (keywordEach [] X.env))) := by rfl) :
    PE X (.Call (.Attribute o m apos) (e :: es) [] pos) (tMeth C m sp dvs E ta t) := by
  intro pins s σ H Q I h
  refine PySem.W.methodCall_KW (pl := pl) (thn (he pins s σ H _ I h) fun u s1 ⟨x, H1, I1, rx, a, dx, fs, ex, ea, l, q⟩ => ?_) ht
  subst ex
  obtain rfl : u = Value.ref a := rx
  refine getmeth_ok I1 ea c hm l ?_
  refine PySem.W.callWith_K (first := [.ref a]) (h₀ := X.base) I.ok.mod.kin hm.kp (thn (ha pos pins s1 σ H1 _ I1 q) fun us s2 ⟨vs, H2, I2, r, q2⟩ => ⟨I2.kIn, ?_⟩) hst hpl
  exact run_fn (us := .ref a :: us) (vs := .ref a :: vs) F hr hb hd hx I2 (.cons rfl r) q2
/-- o.m() -/
theorem pe_meth0 {pl : Sem Bool} (he : PE X o ta) (c : Cls X.K C) (hm : Meth X.K C m f) (F : FnOk X.prog X.w X.K X.mg X.base CX k f fd ps sp) (hr : Room k X.A) (hb : Binds X.K fd ps ds) (hd : Vals dvs ds) (hx : Passes CX X E)
    (ht : eval (.Call (.Attribute o m apos) [] [] pos) X.env = (do
      let ov ← eval o X.env
      standAt apos.atName
      let (f, first) ← holding [ov] (getMethod ov m pl)
      callWith pos f first (backTo pos (starEach [] X.env)) (backToKw pos (keywordEach [] X.env))) := by rfl) :
    PE X (.Call (.Attribute o m apos) [] [] pos) (tMeth C m sp dvs E ta tNil) := by
  intro pins s σ H Q I h
  refine PySem.W.methodCall_KW (pl := pl) (thn (he pins s σ H _ I h) fun u s1 ⟨x, H1, I1, rx, a, dx, fs, ex, ea, l, q⟩ => ?_) ht
  subst ex
  obtain rfl : u = Value.ref a := rx
  refine getmeth_ok I1 ea c hm l ?_
  exact PySem.W.callWith_K0 (first := [.ref a]) I1.kIn hm.kp (run_fn (us := [.ref a]) (vs := [.ref a]) F hr hb hd hx I1 (.cons rfl .nil) q)

/-- what a class must have to be made -/
structure Mk (K : PySem.W.Frag) (C f : Addr) : Prop where
  makes : PySem.W.makesIn K C = true
  init : PySem.W.findIn K (.ref C) "__init__" = some (some (.ref f))
  fn : PySem.W.isFn K (.ref f) = true
  kp : PySem.W.keepIn K (.ref C) = true

theorem run_make {pins : List (Addr × Obj)} {σ : St} {H : Hp} {s : Shared} {Q : VK} {us : List Value} {vs : List V} (M : Mk X.K C f) (F : FnOk X.prog X.w X.K X.mg X.base CX k f fd ps sp) (hr : Room (k + 1) X.A) (hb : Binds X.K fd ps ds) (hd : Vals dvs ds)
    (hx : Passes CX X E) (I : Inv X pins σ H s) (r : Vals vs us)
    (h : ∀ x dx, H x = none → H dx = none → dx ≠ x → sp (.ref x :: (vs ++ dvs)) (upd (upd H dx (.own x)) x (.ins C dx [])) (fun v H2 => v = .non ∧ Q (.ref x) H2) E) :
    wpAny (model X.prog X.w) X.A (call (.ref C) us) (EP X pins σ Q) X.xe s := by
  have hq := h (s.heap.objs.size + 1) s.heap.objs.size (I.hok.fresh (Nat.le_succ _)) (I.hok.fresh (Nat.le_refl _)) (Nat.ne_of_lt (Nat.lt_succ_self _))
  have I2 := Inv.made (C := C) I
  have r2 : Vals (V.ref (s.heap.objs.size + 1) :: (vs ++ dvs)) (Value.ref (s.heap.objs.size + 1) :: (us ++ ds)) := .cons rfl (r.append hd)
  have hl : (Value.ref (s.heap.objs.size + 1) :: us ++ ds).length = ps.length := by
    have e := r2.length
    rw [F.len _ _ _ _ hq] at e
    exact e.symm
  refine wpAny_call (make_map (f := f) I.kIn M.makes M.init (beq_iff_eq.mp M.fn) (codeAny_mono (F.run _ X.stack _ _ ⟨Value.ref (s.heap.objs.size + 1) :: us, []⟩ (Value.ref (s.heap.objs.size + 1) :: (us ++ ds)) _ _ E (hr.make C us [])
    (I2.env0.make C us []) (hb _ (Value.ref (s.heap.objs.size + 1) :: us) I2.kIn hl) r2 hq) fun r s' hq' => ?_))
  cases r with
  | error e => exact hx pins σ _ _ e s' I2 hq'
  | ok fl =>
    cases fl with
    | ret u =>
      obtain ⟨v, H', I3, rv, ev, q3⟩ := I2.after hq'
      subst ev
      exact ⟨rv, ⟨V.ref (s.heap.objs.size + 1), H', I3, rfl, q3⟩⟩
    | next => exact False.elim hq'
    | brk => exact False.elim hq'
    | cont => exact False.elim hq'
theorem pe_make (M : Mk X.K C f) (F : FnOk X.prog X.w X.K X.mg X.base CX k f fd ps sp) (hr : Room (k + 1) X.A) (hg : Gl X x) (hm : X.mg x = some (.ref C)) (hb : Binds X.K fd ps ds) (hd : Vals dvs ds) (hx : Passes CX X E)
    (ha : PA X (e :: es) t) (hdb : (x == ("__debug__" : Str)) = false := by decide) (he : starEach (e :: es) X.env = (false, eval e X.env) :: starEach es X.env := by rfl) (hpl : (backTo pos (starEach es X.env)).any (·.1) = false := by rfl) :
    PE X (.Call (.Name x p) (e :: es) [] pos) (tMake C sp dvs E t) := by
  intro pins s σ H Q I h
  refine wpAny_Call_Name_kw (ld_glob I hg hm ?_ hdb)
  refine PySem.W.callWith_K (h₀ := X.base) I.ok.mod.kin M.kp (thn (ha pos pins s σ H _ I h) fun us s1 ⟨vs, H1, I1, r, q⟩ => ⟨I1.kIn, ?_⟩) he hpl
  exact run_make M F hr hb hd hx I1 r q
theorem pe_make0 (M : Mk X.K C f) (F : FnOk X.prog X.w X.K X.mg X.base CX k f fd ps sp) (hr : Room (k + 1) X.A) (hg : Gl X x) (hm : X.mg x = some (.ref C)) (hb : Binds X.K fd ps ds) (hd : Vals dvs ds) (hx : Passes CX X E)
    (hdb : (x == ("__debug__" : Str)) = false := by decide) : PE X (.Call (.Name x p) [] [] pos) (tMake C sp dvs E tNil) := by
  intro pins s σ H Q I h
  refine wpAny_Call_Name_kw (ld_glob I hg hm ?_ hdb)
  exact PySem.W.callWith_K0 I.kIn M.kp (run_make (us := []) M F hr hb hd hx I .nil h)
end

/-! ### keywords -/
/-- the values of the keywords, from the left -/
def PK (X : Cx) (kws : List Keyword) (t : TA) : Prop :=
  ∀ (pos : Pos) (pins : List (Addr × Obj)) (s : Shared) (σ : St) (H : Hp) (Q : List V → Hp → Prop), Inv X pins σ H s → t σ H Q → wpAny (model X.prog X.w) X.A (evalAll ((backToKw pos (keywordEach kws X.env)).map (·.2))) (AP X pins σ Q) X.xe s
section
variable {X : Cx} {CX : CXT} {k : Nat} {f C : Addr} {fd : FuncData} {ps ks : List Str} {sp : Sp} {E : XK} {x m : Str} {p pos apos kpos : Pos} {e o : Expr} {es : List Expr} {kws : List Keyword} {te ta : TE} {t tk : TA} {nm : Option Str}
theorem pk_nil : PK X [] tNil := fun _ _ _ _ H Q I h => wpAny_evalAll_nil ⟨[], H, I, .nil, h⟩
theorem pk_cons (ha : PE X e te) (hr : PK X kws t) : PK X (⟨nm, e, kpos⟩ :: kws) (tCons te t) := by
  intro pos pins s σ H Q I h
  show wpAny _ _ (evalAll ((do let v ← eval e X.env; standAt pos; pure v) :: (backToKw pos (keywordEach kws X.env)).map (·.2))) _ _ s
  refine wpAny_evalAll_cons (wpAny_bind (thn (ha pins s σ H _ I h) fun u s1 ⟨x, H1, I1, r1, q1⟩ => wpAny_bind (wpAny_standAt (wpAny_pure ?_))))
  exact thn (hr pos pins s1 σ H1 _ I1 q1) fun us s2 ⟨xs, H2, I2, r2, q2⟩ => ⟨x :: xs, H2, I2, .cons r1 r2, q2⟩

/-- how a call with keywords binds: g puts the positional values us and the keywords' values ws (names ks) in the parameters' order, defaults among them -/
structure KBinds (K : PySem.W.Frag) (fd : FuncData) (ps ks : List Str) (g : List Value → List Value → List Value) (gV : List V → List V → List V) : Prop where
  to : ∀ (s : Shared) (us ws : List Value), K.In s.heap → (g us ws).length = ps.length → BindsTo s fd ⟨us, ks.zip ws⟩ (ps.zip (g us ws))
  rel : ∀ {vs : List V} {us : List Value} {zs : List V} {ws : List Value}, Vals vs us → Vals zs ws → Vals (gV vs zs) (g us ws)
def tCallK (sp : Sp) (gV : List V → List V → List V) (E : XK) (t tk : TA) : TE := fun σ H Q => t σ H fun vs H1 => tk σ H1 fun zs H2 => sp (gV vs zs) H2 Q E
variable {g : List Value → List Value → List Value} {gV : List V → List V → List V}
theorem run_fnk {pins : List (Addr × Obj)} {σ : St} {H : Hp} {s : Shared} {Q : VK} {us ws : List Value} {vs zs : List V} (F : FnOk X.prog X.w X.K X.mg X.base CX k f fd ps sp) (hr : Room k X.A) (hb : KBinds X.K fd ps ks g gV) (hx : Passes CX X E)
    (I : Inv X pins σ H s) (r : Vals vs us) (rz : Vals zs ws) (h : sp (gV vs zs) H Q E) : wpAny (model X.prog X.w) X.A (call (.ref f) us (ks.zip ws)) (EP X pins σ Q) X.xe s := by
  have r2 := hb.rel r rz
  have hl : (g us ws).length = ps.length := by rw [← r2.length]; exact F.len _ _ _ _ h
  refine wpAny_call (codeAny_mono (F.run X.A X.stack s H ⟨us, ks.zip ws⟩ (g us ws) (gV vs zs) Q E hr I.env0 (hb.to s us ws I.kIn hl) r2 h) fun r s' hq => ?_)
  cases r with
  | error e => exact hx pins σ H s e s' I hq
  | ok fl =>
    cases fl with
    | ret u => exact I.after hq
    | next => exact False.elim hq
    | brk => exact False.elim hq
    | cont => exact False.elim hq
/-- f(e, .., k = v, ..) -/
theorem pe_callK (F : FnOk X.prog X.w X.K X.mg X.base CX k f fd ps sp) (hr : Room k X.A) (hg : Gl X x) (hm : X.mg x = some (.ref f)) (hk : PySem.W.keepIn X.K (.ref f) = true) (hb : KBinds X.K fd ps ks g gV) (hx : Passes CX X E)
    (ha : PA X (e :: es) t) (hkw : PK X kws tk) (hall : (backToKw pos (keywordEach kws X.env)).all (·.1.isSome) = true := by rfl) (hks : (backToKw pos (keywordEach kws X.env)).filterMap (·.1) = ks := by rfl)
    (hdb : (x == ("__debug__" : Str)) = false := by decide) (he : starEach (e :: es) X.env = (false, eval e X.env) :: starEach es X.env := by rfl)
    (hpl : ((backTo pos (starEach (e :: es) X.env)).any (·.1) || (backToKw pos (keywordEach kws X.env)).any (·.1.isNone)) = false := by rfl) :
    PE X (.Call (.Name x p) (e :: es) kws pos) (tCallK sp gV E t tk) := by
  intro pins s σ H Q I h
  refine wpAny_Call_Name_kw (ld_glob I hg hm ?_ hdb)
  refine PySem.W.callWith_KW (h₀ := X.base) I.ok.mod.kin hk hall (thn (ha pos pins s σ H _ I h) fun us s1 ⟨vs, H1, I1, r, q⟩ => ?_) hpl he
  refine thn (hkw pos pins s1 σ H1 _ I1 q) fun ws s2 ⟨zs, H2, I2, rz, q2⟩ => ⟨I2.kIn, ?_⟩
  rw [hks]
  exact run_fnk F hr hb hx I2 r rz q2
end

/-! ### a def's body keeps its promise -/
/-- names: the parameters first -/
structure FnScope (N P : List Str) (sc : Scope) : Prop where
  kind : sc.kind = .function
  co : sc.isCoroutine = false
  gen : sc.isGenerator = false
  nd : N.Nodup
  pre : N.take P.length = P
  par : ∀ x ∈ P, sc.names.lookup x = some .local ∨ sc.names.lookup x = some .cell
  nofree : ∀ y ∈ sc.names, y.2 ≠ .free

theorem bindL_out {kindOf : Str → Option NameKind} {x : Str} : ∀ {binds : List (Str × Value)} {m : Str → Option Value}, (∀ v, (x, v) ∉ binds) → bindL kindOf binds m x = m x
  | [], _, _ => rfl
  | (n, v) :: r, m, h => by
    unfold bindL
    rw [bindL_out fun w hw => h w (List.mem_cons_of_mem _ hw)]
    split
    · have : x ≠ n := by rintro rfl; exact h v List.mem_cons_self
      simp [this]
    · rfl
theorem bindC_out {kindOf : Str → Option NameKind} {x : Str} : ∀ {binds : List (Str × Value)} {m : Str → Option Value}, (∀ v, (x, v) ∉ binds) → bindC kindOf binds m x = m x
  | [], _, _ => rfl
  | (n, v) :: r, m, h => by
    unfold bindC
    rw [bindC_out fun w hw => h w (List.mem_cons_of_mem _ hw)]
    split
    · rfl
    · have : x ≠ n := by rintro rfl; exact h v List.mem_cons_self
      simp [this]
theorem bindL_get {kindOf : Str → Option NameKind} {x : Str} {v : Value} : ∀ {P : List Str} {vs : List Value} {i : Nat} {m : Str → Option Value}, P.Nodup → P[i]? = some x → vs[i]? = some v → kindOf x = some .local →
    bindL kindOf (P.zip vs) m x = some v
  | [], _, _, _, _, h, _, _ => by simp at h
  | _ :: _, [], _, _, _, _, h, _ => by simp at h
  | p :: P, w :: vs, 0, m, nd, h1, h2, hk => by
    simp at h1 h2; subst h1; subst h2
    show bindL kindOf ((p, w) :: P.zip vs) m p = _
    unfold bindL
    rw [bindL_out fun v hv => (List.nodup_cons.mp nd).1 (List.of_mem_zip hv).1, if_pos hk]
    simp
  | p :: P, w :: vs, i + 1, m, nd, h1, h2, hk => by
    show bindL kindOf ((p, w) :: P.zip vs) m x = _
    unfold bindL
    exact bindL_get (i := i) (List.nodup_cons.mp nd).2 (by simpa using h1) (by simpa using h2) hk
theorem bindC_get {kindOf : Str → Option NameKind} {x : Str} {v : Value} : ∀ {P : List Str} {vs : List Value} {i : Nat} {m : Str → Option Value}, P.Nodup → P[i]? = some x → vs[i]? = some v → kindOf x ≠ some .local →
    bindC kindOf (P.zip vs) m x = some v
  | [], _, _, _, _, h, _, _ => by simp at h
  | _ :: _, [], _, _, _, _, h, _ => by simp at h
  | p :: P, w :: vs, 0, m, nd, h1, h2, hk => by
    simp at h1 h2; subst h1; subst h2
    show bindC kindOf ((p, w) :: P.zip vs) m p = _
    unfold bindC
    rw [bindC_out fun v hv => (List.nodup_cons.mp nd).1 (List.of_mem_zip hv).1, if_neg hk]
    simp
  | p :: P, w :: vs, i + 1, m, nd, h1, h2, hk => by
    show bindC kindOf ((p, w) :: P.zip vs) m x = _
    unfold bindC
    exact bindC_get (i := i) (List.nodup_cons.mp nd).2 (by simpa using h1) (by simpa using h2) hk

/-- the names' values at the entry -/
def start (N : List Str) (vs : List V) : St := vs.map some ++ List.replicate (N.length - vs.length) none

/-- the context of a def's body, at its entry; an exception leaves the frame, then lies as CX says -/
def cxOf (CX : CXT) (P : Program) (w : World) (K : PySem.W.Frag) (mg : Str → Option Value) (base : Heap) (N : List Str) (qual : Str) (scope : Scope) (f : Addr) (cd : Value) (A : Around) (outer : List Env) (s : Shared) (H : Hp) (E : XK) : Cx where
  prog := P
  w := w
  K := K
  mg := mg
  base := base
  A := A.deeper (envOfC qual scope s.heap.objs.size f cd)
  N := N
  s₀ := s
  H₀ := H
  env := envOfC qual scope s.heap.objs.size f cd
  outer := outer
  stack := envOfC qual scope s.heap.objs.size f cd :: outer
  ex := []
  calm := true
  fn := fun _ => true
  pn := []
  xe := fun e s' => wpAny (model P w) (A.deeper (envOfC qual scope s.heap.objs.size f cd)) (leaving (envOfC qual scope s.heap.objs.size f cd) e) (fun _ s'' => CX outer H s E e s'') (fun e' s'' => CX outer H s E e' s'') s'

theorem cell_has {sc : Scope} {n : Nat} {x : Str} (h : sc.names.lookup x = some .cell) : ∃ c, (cellsFrom n sc.names []).lookup x = some c := by
  have q := PySem.W.cellsFrom_some sc.names n [] (.inl h)
  exact Option.isSome_iff_exists.mp q

theorem inv_start {CX : CXT} {P : Program} {w : World} {K : PySem.W.Frag} {mg : Str → Option Value} {base : Heap} {N ps : List Str} {qual : Str} {scope : Scope} {f : Addr} {cd : Value} {A : Around} {outer : List Env} {s s1 : Shared} {H : Hp} {E : XK} {us : List Value} {vs : List V}
    (S : FnScope N ps scope) (hd : A.handled = none) (e0 : Env0 P w K mg base A outer s H) (hl : vs.length = ps.length) (r : Vals vs us)
    (x : InCallC s s.heap.objs.size (bindL (envOfC qual scope s.heap.objs.size f cd).kindOf (ps.zip us) fun _ => none) (cellsFrom (s.heap.objs.size + 1) scope.names []) (bindC (envOfC qual scope s.heap.objs.size f cd).kindOf (ps.zip us) fun _ => none) s1) :
    Inv (cxOf CX P w K mg base N qual scope f cd A outer s H E) [] (start N vs) H s1 := by
  have hpl : ps.length ≤ N.length := by have := congrArg List.length S.pre; rw [List.length_take] at this; omega
  obtain ⟨h1, tk, rfl, hk⟩ := x.done
  have noA : ∀ b : Addr, b ∉ (cxOf CX P w K mg base N qual scope f cd A outer s H E).ex := fun b z => absurd (show b ∈ ([] : List Addr) from z) (by simp)
  refine ⟨⟨e0.mod, S.kind, rfl, rfl, Nat.le_refl _, fun y z c h1 h2 => ?_, fun y hy => ?_, fun y c _ h => ?_, fun _ => hd, Around.frames_deeper e0.frames, .inr ⟨rfl, rfl⟩, fun b z => absurd z (noA b), e0.bs, e0.bsz, fun b _ _ => noA b, fun b z => absurd z (noA b), e0.funs, e0.frf⟩,
    rfl, e0.bare, Un.kept hk, ⟨_, x.toInCall.ns, fun i y v h1 h2 h3 => ?_⟩, fun y c h => ⟨_, x.cell y c h⟩, e0.hok.fresh (Nat.le_refl _), fun y c h => ?_, fun p hp => absurd (show p ∈ ([] : List (Addr × Obj)) from hp) (by simp), e0.hok.kept hk, ?_⟩
  · exact name_of_addr x.apart (PySem.mem_of_lookup h1) (PySem.mem_of_lookup h2)
  · have hy : scope.names.lookup y = some .cell ∨ scope.names.lookup y = some .free := hy
    rcases hy with hy | hy
    · exact cell_has hy
    · exact absurd rfl (S.nofree _ (PySem.mem_of_lookup hy))
  · exact Nat.le_of_lt (x.above y c (PySem.mem_of_lookup h))
  · have hi : i < vs.length := by
      unfold start at h2
      by_cases hi : i < vs.length
      · exact hi
      · rw [List.getElem?_append_right (by simpa using hi)] at h2
        rw [List.getElem?_replicate] at h2
        split at h2 <;> cases h2
    have ha : vs[i]? = some v := by
      unfold start at h2
      rw [List.getElem?_append_left (by simpa using hi), List.getElem?_map] at h2
      cases e : vs[i]? with
      | none => rw [e] at h2; cases h2
      | some a => rw [e] at h2; cases h2; rfl
    obtain ⟨u, hu, rv⟩ := r.get ha
    have hp : ps[i]? = some y := by
      rw [← S.pre, List.getElem?_take_of_lt (by omega)]; exact h1
    have ndP : ps.Nodup := by rw [← S.pre]; exact S.nd.sublist (List.take_sublist _ _)
    refine ⟨u, rv, ?_⟩
    rcases S.par y (List.mem_of_getElem? hp) with k | k
    · exact .inl ⟨k, bindL_get ndP hp hu k⟩
    · obtain ⟨c, e⟩ := cell_has (n := s.heap.objs.size + 1) k
      refine .inr ⟨.inl k, c, e, ?_⟩
      have q := x.cell y c e
      rw [bindC_get ndP hp hu (by show scope.names.lookup y ≠ _; rw [k]; decide)] at q
      exact q
  · exact e0.hok.fresh (Nat.le_of_lt (x.above y c (PySem.mem_of_lookup h)))
  · unfold start
    show _ = N.length
    rw [List.length_append, List.length_map, List.length_replicate]
    omega

/-- THE RULE: a def (or a method) of the text, by its body. The body's reading t is chosen for each entry; it is run at the parameters' values -/
theorem fn_of {CX : CXT} {P : Program} {w : World} {K : PySem.W.Frag} {mg : Str → Option Value} {base : Heap} {k : Nat} {f : Addr} {name qual : Str} {params : Arguments} {body : List Stmt} {scope : Scope} {dV kV doc pm cdv ct oc : Value} {an od : Option Addr}
    {osl : Array (Option Value)} {N ps : List Str} {sp : Sp} (lk : K.lookup f = some ⟨oc, od, .func (PySem.W.fnOf name qual params body scope dV kV doc pm an cdv ct), osl⟩) (hcd : PySem.W.codeIn K cdv qual = true) (S : FnScope N ps scope)
    (len : ∀ vs H Q E, sp vs H Q E → vs.length = ps.length)
    (hbody : ∀ (A : Around) (outer : List Env) (s : Shared) (H : Hp) (vs : List V) (Q : VK) (E : XK), Room k (A.deeper (envOfC qual scope s.heap.objs.size f cdv)) → sp vs H Q E →
      ∃ t, PSs (cxOf CX P w K mg base N qual scope f cdv A outer s H E) body t ∧ t { nx := fun _ H' => Q .non H', rt := Q } (start N vs) H) :
    FnOk P w K mg base CX (k + 1) f (PySem.W.fnOf name qual params body scope dV kV doc pm an cdv ct) ps sp := by
  refine ⟨len, fun A outer s H args us vs Q E hr e0 hb r hsp => ?_⟩
  have hl := len _ _ _ _ hsp
  have KX : K.In s.heap := e0.mod.kin.keeps fun b o e => (e0.bs b o e).1
  have lim : s.heap.NoLimit := e0.mod.nolimit.keeps fun b o e => (e0.bs b o e).1
  have hkind : ∀ y ∈ ps.zip us, scope.names.lookup y.1 = some .local ∨ (scope.names.lookup y.1 = some .cell ∧ ((cellsFrom (s.heap.objs.size + 1) scope.names []).lookup y.1).isSome = true) := fun ⟨n, v⟩ hy => by
    rcases S.par n (List.of_mem_zip hy).1 with q | q
    · exact .inl q
    · exact .inr ⟨q, PySem.W.cellsFrom_some _ _ _ (.inl q)⟩
  refine codeAny_call_function hr.depth (KX _ _ lk) rfl S.co S.gen rfl (PySem.W.codeRec_of KX hcd) (hb _ _ _ _ ?_)
  refine wpAny_newFunctionEnv_cells S.kind hkind fun env he s1 x => ?_
  subst he
  refine ⟨lim.keeps x.toInCall.keep, codeAny_func ?_⟩
  obtain ⟨t, ht, hq⟩ := hbody A outer s H vs Q E (hr.deeper _) hsp
  have I : Inv (cxOf CX P w K mg base N qual scope f cdv A outer s H E) [] (start N vs) H s1 := inv_start S hr.hd e0 hl r x
  refine wpAny_mono (ht [] s1 (start N vs) H _ I hq) (fun fl s' hs => ?_) fun e s' hs => hs
  have fin : ∀ {σ' : St} {H' : Hp} {v : V} {u : Value}, Inv (cxOf CX P w K mg base N qual scope f cdv A outer s H E) [] σ' H' s' → RelV v u → Q v H' → CE outer P w H s Q u s' :=
    fun {σ' H' v u} J rv q => ⟨v, H', J.os, J.bare, J.base, J.hok, rv, q⟩
  cases fl with
  | ret u =>
    obtain ⟨v, σ', H', J, rv, q⟩ := hs
    exact fin J rv q
  | next =>
    obtain ⟨σ', H', J, q⟩ := hs
    exact fin (v := V.non) (u := Value.none) J rfl q
  | brk =>
    obtain ⟨_, _, _, q⟩ := hs
    exact False.elim q
  | cont =>
    obtain ⟨_, _, _, q⟩ := hs
    exact False.elim q
end L2

namespace L2
open PySem PySem.Spec PyProof.Rows
section
variable {X : Cx} {x : Str} {p pos : Pos} {e : Expr} {es : List Expr} {t : TA} {id T : String} {r : List V → Hp → VK → Prop}

def tCB (r : List V → Hp → VK → Prop) (t : TA) : TE := fun σ H Q => t σ H fun vs H1 => r vs H1 Q
/-- f(e, ..), f a built-in function -/
theorem pe_callB (hc : CallR X (.builtin id) r) (hg : Gl X x) (hm : X.mg x = none) (hv : bootBuiltins x = some (.builtin id)) (ha : PA X (e :: es) t) (hn : x ≠ "__name__" := by decide) (hdb : (x == ("__debug__" : Str)) = false := by decide)
    (he : starEach (e :: es) X.env = (false, eval e X.env) :: starEach es X.env := by rfl) (hpl : (backTo pos (starEach es X.env)).any (·.1) = false := by rfl) : PE X (.Call (.Name x p) (e :: es) [] pos) (tCB r t) := by
  intro pins s σ H Q I h
  refine wpAny_Call_Name_kw (ld_blt I hg hm hv ?_ hn hdb)
  exact PyProof.Rows.callWith_builtin1 (thn (ha pos pins s σ H _ I h) fun us s1 ⟨vs, H1, I1, r1, q1⟩ => hc pins s1 σ H1 vs us Q I1 r1 q1) he hpl
/-- T(e, ..), T a built-in type -/
theorem pe_callTy (hc : CallR X (.type T) r) (hg : Gl X x) (hm : X.mg x = none) (hv : bootBuiltins x = some (.type T)) (ha : PA X (e :: es) t) (hn : x ≠ "__name__" := by decide) (hdb : (x == ("__debug__" : Str)) = false := by decide)
    (he : starEach (e :: es) X.env = (false, eval e X.env) :: starEach es X.env := by rfl) (hpl : (backTo pos (starEach es X.env)).any (·.1) = false := by rfl) : PE X (.Call (.Name x p) (e :: es) [] pos) (tCB r t) := by
  intro pins s σ H Q I h
  refine wpAny_Call_Name_kw (ld_blt I hg hm hv ?_ hn hdb)
  exact PyProof.Rows.callWith_type1 (thn (ha pos pins s σ H _ I h) fun us s1 ⟨vs, H1, I1, r1, q1⟩ => hc pins s1 σ H1 vs us Q I1 r1 q1) he hpl
/-- T() -/
theorem pe_callTy0 (hc : CallR X (.type T) r) (hg : Gl X x) (hm : X.mg x = none) (hv : bootBuiltins x = some (.type T)) (hn : x ≠ "__name__" := by decide) (hdb : (x == ("__debug__" : Str)) = false := by decide) :
    PE X (.Call (.Name x p) [] [] pos) (tCB r tNil) := by
  intro pins s σ H Q I h
  refine wpAny_Call_Name_kw (ld_blt I hg hm hv ?_ hn hdb)
  exact PyProof.Rows.callWith_type0 (hc pins s σ H [] [] Q I .nil h)
end
end L2

namespace HT
open PySem PyProof.Rows

/-- t < u of tuples of ints -/
def lexLt : List Int → List Int → Bool
  | [], [] => false
  | [], _ :: _ => true
  | _ :: _, [] => false
  | x :: xs, y :: ys => if x = y then lexLt xs ys else decide (x < y)
theorem lexLt_cons (x y : Int) (xs ys : List Int) : lexLt (x :: xs) (y :: ys) = if x = y then lexLt xs ys else decide (x < y) := rfl
theorem lexLt_nil_nil : lexLt [] [] = false := rfl
theorem lexLt_nil_cons (y : Int) (ys : List Int) : lexLt [] (y :: ys) = true := rfl
theorem lexLt_cons_nil (x : Int) (xs : List Int) : lexLt (x :: xs) [] = false := rfl

theorem eqAt_int (A : Around) (s : Shared) (a : Int) (t : Tok) (c : Int) (u : Tok) : ∃ e, SeqAt.EqAt A s (.int a t) (.int c u) e ∧ (e = true ↔ a = c) :=
  ⟨(a == c), SeqAt.EqAt.int_int a t c u, by simp⟩
theorem rcLt_int (A : Around) (s : Shared) (a : Int) (t : Tok) (c : Int) (u : Tok) (prog : Program) (w : World) (E : Value → Shared → Prop) (Q : Value → Shared → Prop) (h : Q (.bool (decide (a < c))) s) :
    wpAny (model prog w) A (richCompare .Lt (.int a t) (.int c u)) Q E s :=
  (PyProof.Rows.lt_int h : wpAny (model prog w) A (compareOp .Lt (.int a t) (.int c u)) Q E s)

section
open PySem.SeqAt
open PySem.AutoSeq1 (wpAny_loadPart')
open PySem.MeetsSeq PySem.MeetsSeq2 PySem.MeetsSeq3

theorem tuple_lt_ints (l b : Addr) (items items2 : Array Value) (n n2 : Nat) (dd dd2 : Option Addr) (sl sl2 : Array (Option Value)) (ns ms : List Int) (hi : IntsAre items.toList ns) (hj : IntsAre items2.toList ms) :
    Meets (Builtin.«tuple.__lt__» ⟨[.ref l, .ref b], []⟩)
      (fun _ R s => s.heap.get? l = some { cls := .type "tuple", dict := dd, data := .seq items n, slots := sl } ∧ s.heap.get? b = some { cls := .type "tuple", dict := dd2, data := .seq items2 n2, slots := sl2 } ∧
        R (.ok (.ret (.bool (lexLt ns ms)))) s) :=
  .of_wp fun prog w A R s h => by
    obtain ⟨hp, g, d, tk, os⟩ := s; obtain ⟨hl, hb, h⟩ := h
    have f2 := AutoSeq1.sub_tuple_tuple
    have z1 : items.size = ns.length := by rw [← hi.length]; simp
    have z2 : items2.size = ms.length := by rw [← hj.length]; simp
    wp_walk using wpAny_loadPart' hl, wpAny_loadPart' hb, wpAny_forIn_list _ (fun rest b s' => b.1 = none ∧ s' = ⟨hp, g, d, tk, os⟩ ∧ ∃ (vs ws : List Value) (ns' ms' : List Int), rest = vs.zip ws ∧
      IntsAre vs ns' ∧ IntsAre ws ms' ∧ ns'.length + items2.size = ms'.length + items.size ∧ R (.ok (.ret (.bool (lexLt ns' ms')))) ⟨hp, g, d, tk, os⟩) _
    case turn =>
      rintro ⟨y, x⟩ rest b s' ⟨hb', rfl, vs, ws, ns', ms', hz, hvi, hwi, hlen, hR⟩
      cases hvi with
      | nil => rw [List.zip_nil_left] at hz; cases hz
      | cons a t hvi' =>
        cases hwi with
        | nil => rw [List.zip_nil_right] at hz; cases hz
        | cons c u hwi' =>
          rw [List.zip_cons_cons] at hz
          injection hz with hyx hrest
          injection hyx with hy hx
          subst hy hx
          rw [lexLt_cons] at hR
          simp only [List.length_cons] at hlen
          obtain ⟨e, he, hiff⟩ := eqAt_int A.in1 ⟨hp, g, d, tk, os⟩ a t c u
          refine wpAny_bind (he prog w _ _ ?_)
          cases e with
          | true =>
            rw [if_pos (hiff.mp rfl)] at hR
            wp_walk
            exact ⟨rfl, rfl, _, _, _, _, hrest, hvi', hwi', by omega, hR⟩
          | false =>
            rw [if_neg (fun q => absurd (hiff.mpr q) Bool.false_ne_true)] at hR
            have hri := rcLt_int A.in1 ⟨hp, g, d, tk, os⟩ a t c u prog w
            wp_walk using hri
            exact ⟨_, rfl, by simpa using hR⟩
    case fin =>
      rintro ⟨b1, b2⟩ s' ⟨hb', rfl, vs, ws, ns', ms', hz, hvi, hwi, hlen, hR⟩
      simp only at hb'
      subst hb'
      have hv : lexLt ns' ms' = decide (items.size < items2.size) := by
        cases hvi with
        | nil =>
          cases hwi with
          | nil =>
            simp only [List.length_nil] at hlen
            rw [lexLt_nil_nil]
            exact (decide_eq_false (by omega)).symm
          | cons c u hw =>
            simp only [List.length_nil, List.length_cons] at hlen
            rw [lexLt_nil_cons]
            exact (decide_eq_true (by omega)).symm
        | cons a t hv =>
          cases hwi with
          | nil =>
            simp only [List.length_nil, List.length_cons] at hlen
            rw [lexLt_cons_nil]
            exact (decide_eq_false (by omega)).symm
          | cons c u hw =>
            rw [List.zip_cons_cons] at hz
            cases hz
      rw [hv] at hR
      wp_walk
      exact ⟨_, rfl, by simpa [Builtin.Tuple.tupleCompareSizes] using hR⟩
    case h =>
      exact ⟨rfl, rfl, items.toList, items2.toList, ns, ms, rfl, hi, hj, by omega, h⟩
end

section
variable {prog : Program} {w : World} {A : Around} {E : Value → Shared → Prop} {s : Shared}

theorem lt_tupInts {l b : Addr} {items items2 : Array Value} {ns ms : List Int} {Q : Value → Shared → Prop} (hl : IsTup s.heap l items) (hb : IsTup s.heap b items2) (hi : IntsAre items.toList ns) (hj : IntsAre items2.toList ms)
    (hu : A.units < cLine) (h : Q (.bool (lexLt ns ms)) s) : wpAny (model prog w) A (compareOp .Lt (.ref l) (.ref b)) Q E s := by
  obtain ⟨⟨cls, dd, data, sl⟩, ho, hc, n, hd⟩ := id hl
  obtain ⟨⟨cls2, dd2, data2, sl2⟩, ho2, hc2, n2, hd2⟩ := id hb
  simp only at hc hd hc2 hd2
  subst hc hd hc2 hd2
  exact richCompare_meets_room (op := .Lt) ⟨_, ho, rfl⟩ ⟨_, ho2, rfl⟩ PySem.F.slot_tuple_lt PySem.F.entry_tuple_lt (PySem.F.args_tuple_lt_2 _ _) (tuple_lt_ints l b items items2 n n2 dd dd2 sl sl2 ns ms hi hj)
    ⟨ho, ho2, show Value.bool (lexLt ns ms) ≠ Value.notImplemented ∧ Q (.bool (lexLt ns ms)) s from ⟨(fun x => nomatch x), h⟩⟩ hu

/-- t + u, t not empty -/
theorem cat_tup {t b : Addr} {vs ws : List Value} {Q : Value → Shared → Prop} (ht : IsTup s.heap t vs.toArray) (hb : IsTup s.heap b ws.toArray) (hv : vs ≠ [])
    (h1 : ws = [] → Q (.ref t) s) (h2 : ws ≠ [] → Q (.ref s.heap.objs.size) { s with heap := s.heap.push { cls := .type "tuple", data := .seq (vs ++ ws).toArray } })
    (hsz : vs.length + ws.length ≤ sizeLine) : wpAny (model prog w) A (binaryOp .Add (.ref t) (.ref b)) Q E s := by
  obtain ⟨⟨cls, dd, data, sl⟩, ho, hc, n, hd⟩ := id ht
  obtain ⟨⟨cls2, dd2, data2, sl2⟩, ho2, hc2, n2, hd2⟩ := id hb
  simp only at hc hd hc2 hd2
  subst hc hd hc2 hd2
  have e : vs.toArray ++ ws.toArray = (vs ++ ws).toArray := by simp
  by_cases hw : ws = []
  · exact concat_meets ⟨_, ho, rfl⟩ ⟨_, ho2, rfl⟩ noFill_tuple_add seq_tuple_add PySem.F.slot_tuple_add PySem.F.entry_tuple_add (PySem.F.args_tuple_add_2 _ _)
      (tuple_addW1 t b vs.toArray ws.toArray n n2 dd dd2 sl sl2 (by simpa using hv) (by simp [hw])) ⟨ho, ho2, h1 hw⟩
  · refine concat_meets ⟨_, ho, rfl⟩ ⟨_, ho2, rfl⟩ noFill_tuple_add seq_tuple_add PySem.F.slot_tuple_add PySem.F.entry_tuple_add (PySem.F.args_tuple_add_2 _ _)
      (tuple_addW2 t b vs.toArray ws.toArray n n2 dd dd2 sl sl2 (by simpa using hv) (by simpa using hw) (by rw [List.size_toArray, List.size_toArray]; exact hsz)) ⟨ho, ho2, ?_⟩
    rw [e]
    exact h2 hw

/-! ### t[a:b], not the whole -/
/-- a slice's bound as a place among n (d where it is left out) -/
def sIx (n d : Nat) : Option Int → Nat
  | none => d
  | some v => if v < 0 then (v + (n : Int)).toNat else min v.toNat n
theorem sIx_none (n d : Nat) : sIx n d none = d := rfl
theorem sIx_nat (n d k : Nat) : sIx n d (some (k : Int)) = min k n := by
  show (if (k : Int) < 0 then ((k : Int) + (n : Int)).toNat else min (k : Int).toNat n) = min k n
  rw [if_neg (by omega), Int.toNat_natCast]
theorem sIx_le (n d : Nat) (hd : d ≤ n) (o : Option Int) : sIx n d o ≤ n := by
  cases o with
  | none => exact hd
  | some v =>
    show (if v < 0 then (v + (n : Int)).toNat else min v.toNat n) ≤ n
    by_cases hv : v < 0
    · rw [if_pos hv]; omega
    · rw [if_neg hv]; exact Nat.min_le_right _ _
theorem clip_eq (v : Int) (n d : Nat) : (if v < 0 then max (v + (n : Int)) 0 else min v (n : Int)) = ((sIx n d (some v) : Nat) : Int) := by
  show (if v < 0 then max (v + (n : Int)) 0 else min v (n : Int)) = (((if v < 0 then (v + (n : Int)).toNat else min v.toNat n) : Nat) : Int)
  by_cases hv : v < 0
  · simp only [if_pos hv]; omega
  · simp only [if_neg hv]; omega
theorem adjust_gen (lo hi : Option Int) (n : Nat) : Builtin.Slice.sliceAdjust lo hi 1 (n : Int) = (((sIx n 0 lo : Nat) : Int), ((sIx n n hi : Nat) : Int)) := by
  have h1 : ¬ ((1 : Int) < 0) := by omega
  unfold Builtin.Slice.sliceAdjust
  simp only [h1, if_false]
  refine Prod.ext ?_ ?_
  · cases lo with
    | none => rfl
    | some v => exact clip_eq v n 0
  · cases hi with
    | none => rfl
    | some v => exact clip_eq v n n
theorem places_gen (i j : Nat) : Builtin.Slice.slicePlaces (i : Int) (j : Int) 1 = j - i := by
  unfold Builtin.Slice.slicePlaces
  have h1 : (1 : Int) > 0 := by omega
  simp only [h1, if_true, Int.ediv_one]
  split <;> omega
theorem slicePart_ {v : Value} {o : Option Int} {Q : Option Int → Shared → Prop} (p : IsPart v o) (h : Q o s) : wpAny (model prog w) A (Builtin.Slice.slicePartIndex v) Q E s := by
  cases p with
  | none => exact slicePart_none h
  | int i t => exact slicePart_int h
theorem sliceApplied_gen {sl : Addr} {vl vu : Value} {lo hi : Option Int} {n : Nat} {Q : Int × Int × Nat → Shared → Prop} (hs : s.heap.IsSliceOf sl vl vu .none) (pl : IsPart vl lo) (pu : IsPart vu hi)
    (h : Q (((sIx n 0 lo : Nat) : Int), 1, sIx n n hi - sIx n 0 lo) s) : wpAny (model prog w) A (Builtin.Slice.sliceApplied (.ref sl) (pure (n : Int))) Q E s := by
  obtain ⟨os, hos, hcs, hds⟩ := id hs
  unfold Builtin.Slice.sliceApplied Builtin.Slice.sliceFields
  refine wpAny_bind (wpAny_bind (wpAny_field hos hds (x := vl) rfl (wpAny_bind (wpAny_field hos hds (x := vu) rfl (wpAny_bind (wpAny_field hos hds (x := .none) rfl (wpAny_pure ?_)))))))
  refine wpAny_bind (slicePart_none ?_)
  show wpAny _ _ (if ((1 : Int) == 0) = true then _ else _) _ _ s
  rw [if_neg (by decide)]
  refine wpAny_bind (slicePart_ pl (wpAny_bind (slicePart_ pu (wpAny_bind (wpAny_pure ?_)))))
  show wpAny _ _ (match Builtin.Slice.sliceAdjust lo hi 1 (n : Int) with | (lo, hi) => pure (lo, (1 : Int), Builtin.Slice.slicePlaces lo hi 1)) _ _ s
  rw [adjust_gen lo hi n]
  show wpAny _ _ (pure (((sIx n 0 lo : Nat) : Int), (1 : Int), Builtin.Slice.slicePlaces ((sIx n 0 lo : Nat) : Int) ((sIx n n hi : Nat) : Int) 1)) _ _ s
  rw [places_gen]
  exact wpAny_pure h
theorem pick_gen (xs : Array Value) (i k : Nat) : ((List.range k).filterMap fun (m : Nat) => xs[((i : Int) + (m : Int) * 1).toNat]?).toArray = ((xs.toList.drop i).take k).toArray := by
  have e : (fun (m : Nat) => xs[((i : Int) + (m : Int) * 1).toNat]?) = fun m => xs[i + m]? := by
    funext m
    have : ((i : Int) + (m : Int) * 1).toNat = i + m := by omega
    rw [this]
  rw [e]
  have := pick_run xs i k
  rw [List.filterMap_map] at this
  have e2 : ((fun x => xs[x]?) ∘ fun x => i + x) = fun m => xs[i + m]? := rfl
  rw [e2] at this
  rw [this]

theorem getItem_tuple_cut {t sl : Addr} {items : Array Value} {vl vu : Value} {lo hi : Option Int} {Q : Value → Shared → Prop} (ht : IsTup s.heap t items) (hs : s.heap.IsSliceOf sl vl vu .none) (pl : IsPart vl lo) (pu : IsPart vu hi)
    (hw : ¬ (sIx items.size 0 lo = 0 ∧ sIx items.size items.size hi = items.size))
    (h : Q (.ref s.heap.objs.size) { s with heap := s.heap.push { cls := .type "tuple", data := .seq ((items.toList.drop (sIx items.size 0 lo)).take (sIx items.size items.size hi - sIx items.size 0 lo)).toArray } })
    (hsz : items.size ≤ sizeLine) : wpAny (model prog w) A (getItem (.ref t) (.ref sl)) Q E s := by
  have htake : sizeOk (.seq ((items.toList.drop (sIx items.size 0 lo)).take (sIx items.size items.size hi - sIx items.size 0 lo)).toArray) := by
    show ((items.toList.drop (sIx items.size 0 lo)).take (sIx items.size items.size hi - sIx items.size 0 lo)).toArray.size ≤ sizeLine
    rw [List.size_toArray, List.length_take, List.length_drop, Array.length_toList]
    omega
  have hj : sIx items.size items.size hi ≤ items.size := sIx_le _ _ (Nat.le_refl _) hi
  obtain ⟨os, hos, hcs, hds⟩ := id hs
  have hTs : s.TypeIs (.ref sl) "slice" := ⟨os, hos, hcs⟩
  unfold getItem
  try with_reducible refine wpAny_holding ?_
  first | refine wpAny_bind (wpAny_pure ?_) | skip
  refine wpAny_bind (wpAny_sequenceKey ht.typeIs (by decide) ?_)
  refine wpAny_bind (wpAny_callSpecial?_slot (name := Str.ofString "__getitem__") ht.typeIs PyProof.Rows.slot_tuple_getitem
    (wpAny_call_entry PyProof.Rows.slot_tuple_getitem ht.typeIs entry_tuple_getitem ?_ (args_tuple_getitem _ _)))
  show wpAny _ _ (Builtin.Tuple.tupleItemsOf (.ref t) >>= _) _ _ s
  refine wpAny_bind (tupleItemsOf_ ht ?_)
  refine wpAny_bind (wpAny_typeOf hTs ?_)
  rw [if_pos (by decide)]
  refine wpAny_bind (sliceApplied_gen hs pl pu ?_)
  have hno : ¬ ((((sIx items.size 0 lo : Nat) : Int) == 0 && (1 : Int) == 1 && (sIx items.size items.size hi - sIx items.size 0 lo) == items.size) = true) := by
    intro q
    rw [Bool.and_eq_true, Bool.and_eq_true] at q
    have q1 : ((sIx items.size 0 lo : Nat) : Int) = 0 := eq_of_beq q.1.1
    have q2 : sIx items.size items.size hi - sIx items.size 0 lo = items.size := eq_of_beq q.2
    exact hw ⟨by omega, by omega⟩
  show wpAny _ _ (if (((sIx items.size 0 lo : Nat) : Int) == 0 && (1 : Int) == 1 && (sIx items.size items.size hi - sIx items.size 0 lo) == items.size) = true then _ else _) _ _ s
  rw [if_neg hno, pick_gen]
  first
    | exact wpAny_bind (m := Builtin.Tuple.tupleExact _) (wpAny_newObj_type (wpAny_pure ⟨_, rfl, wpAny_pure h⟩) htake)
    | exact wpAny_bind (m := Builtin.Tuple.tupleExact _) (wpAny_newObj_type (wpAny_bind (wpAny_pure (wpAny_pure ⟨_, rfl, wpAny_pure h⟩))) htake)
    | exact wpAny_bind (wpAny_bind (m := Builtin.Tuple.tupleExact _) (wpAny_newObj_type (wpAny_pure (wpAny_pure ⟨_, rfl, wpAny_pure h⟩)) htake))
    | exact wpAny_bind (wpAny_bind (m := Builtin.Tuple.tupleExact _) (wpAny_newObj_type (wpAny_pure ⟨_, rfl, wpAny_pure h⟩) htake))
end
end HT

namespace L2
open PySem PySem.Spec PyProof.Rows

/-! ### the parts of a slice -/
abbrev TO := St → Hp → (Option Int → Hp → Prop) → Prop
/-- a slice's part (left out, or an int) -/
def PO (X : Cx) (e : Option Expr) (t : TO) : Prop :=
  ∀ (pins : List (Addr × Obj)) (s : Shared) (σ : St) (H : Hp) (Q : Option Int → Hp → Prop), Inv X pins σ H s → t σ H Q →
    wpAny (model X.prog X.w) X.A (evalPart e X.env) (fun u s' => ∃ o H', Inv X pins σ H' s' ∧ IsPart u o ∧ Q o H') X.xe s
def tNoPart : TO := fun _ H Q => Q none H
def tPart (t : TE) : TO := fun σ H Q => t σ H fun x H1 => ∃ i, x = .int i ∧ Q (some i) H1

theorem intsAre_of {ns : List Int} : ∀ {us : List Value}, Vals (ns.map V.int) us → IntsAre us ns := by
  induction ns with
  | nil => intro us r; rw [List.map_nil] at r; cases r; exact .nil
  | cons n ns ih =>
    intro us r
    rw [List.map_cons] at r
    cases r with
    | cons r1 r2 =>
      obtain ⟨t, e⟩ := r1
      subst e
      exact .cons n t (ih r2)

section
variable {X : Cx} {e : Expr} {te : TE} {lo hi : Option Expr} {tl th : TO} {pos p2 : Pos}

theorem po_none : PO X none tNoPart := by
  intro pins s σ H Q I h
  rw [evalPart_none]
  exact wpAny_pure ⟨none, H, I, .none, h⟩
theorem po_some (h : PE X e te) : PO X (some e) (tPart te) := by
  intro pins s σ H Q I hw
  rw [evalPart_some]
  refine thn (h pins s σ H _ I hw) fun u s1 ⟨x, H1, I1, r1, q1⟩ => ?_
  obtain ⟨i, rfl, q⟩ := q1
  obtain ⟨t, rfl⟩ := r1
  exact ⟨some i, H1, I1, .int i t, q⟩

/-- what a slice of a value is, by values: the slice object stands at sl -/
def SlR (X : Cx) (r : V → Option Int → Option Int → Hp → VK → Prop) : Prop :=
  ∀ (pins : List (Addr × Obj)) (s : Shared) (σ : St) (H : Hp) (x : V) (v vl vu : Value) (lo hi : Option Int) (sl : Addr) (Q : VK), Inv X pins σ H s → RelV x v → s.heap.IsSliceOf sl vl vu .none → IsPart vl lo → IsPart vu hi → r x lo hi H Q →
    ∃ T id, typeLookup (.type T) "__getitem__" = pure (some (.builtin id)) ∧ s.TypeIs v T ∧ wpAny (model X.prog X.w) X.A (getItem v (.ref sl)) (EP X pins σ Q) X.xe s
theorem SlR.or {r r' : V → Option Int → Option Int → Hp → VK → Prop} (h : SlR X r) (h' : SlR X r') : SlR X (fun x lo hi H Q => r x lo hi H Q ∨ r' x lo hi H Q) := by
  intro pins s σ H x v vl vu lo hi sl Q I rx hs pl pu q
  rcases q with q | q
  · exact h pins s σ H x v vl vu lo hi sl Q I rx hs pl pu q
  · exact h' pins s σ H x v vl vu lo hi sl Q I rx hs pl pu q
def tSl (r : V → Option Int → Option Int → Hp → VK → Prop) (te : TE) (tl th : TO) : TE := fun σ H Q => te σ H fun x H1 => tl σ H1 fun l H2 => th σ H2 fun u H3 => r x l u H3 Q
/-- a[lo:hi], any a -/
theorem pe_slice {r : V → Option Int → Option Int → Hp → VK → Prop} (hr : SlR X r) (he : PE X e te) (hl : PO X lo tl) (hu : PO X hi th) : PE X (.Subscript e (.Slice lo hi none p2) pos) (tSl r te tl th) := by
  intro pins s σ H Q I h
  refine Subscript_ (thn (he pins s σ H _ I h) fun v s1 ⟨x, H1, I1, r1, q1⟩ => ?_)
  refine wpAny_Slice (thn (hl pins s1 σ H1 _ I1 q1) fun vl s2 ⟨l, H2, I2, pl, q2⟩ => thn (hu pins s2 σ H2 _ I2 q2) fun vu s3 ⟨u, H3, I3, pu, q3⟩ => ?_)
  rw [evalPart_none]
  refine wpAny_pure ?_
  have I4 : Inv X pins σ H3 { s3 with heap := s3.heap.push { cls := .type "slice", data := .fields #[vl, vu, .none] } } := I3.kept (t' := s3.toks) fun b ob q => Heap.get?_push_of_some _ q
  obtain ⟨T, id, hT, ht, hg⟩ := hr pins { s3 with heap := s3.heap.push { cls := .type "slice", data := .fields #[vl, vu, .none] } } σ H3 x v vl vu l u s3.heap.objs.size Q I4 r1 (Heap.IsSliceOf.new ..) pl pu q3
  show wpAny (model X.prog X.w) X.A (subscriptTail e (.Slice lo hi none p2) v (.ref s3.heap.objs.size)) (EP X pins σ Q) X.xe { s3 with heap := s3.heap.push { cls := .type "slice", data := .fields #[vl, vu, .none] } }
  exact tail_any (ops := [.ref s3.heap.objs.size, v]) ht hT hg (by with_unfolding_all rfl)

/-- the items of xs[lo:hi] -/
def cutV (xs : List V) (lo hi : Option Int) : List V := (xs.drop (HT.sIx xs.length 0 lo)).take (HT.sIx xs.length xs.length hi - HT.sIx xs.length 0 lo)
theorem cutV_length (xs : List V) (lo hi : Option Int) : (cutV xs lo hi).length ≤ xs.length := by
  unfold cutV
  rw [List.length_take, List.length_drop]
  omega
/-- t[lo:hi], not the whole of it (the whole would be t itself) -/
def rSlT (K : PySem.W.Frag) : V → Option Int → Option Int → Hp → VK → Prop := fun x lo hi H Q => ∃ a xs, x = .ref a ∧ SqT K H a xs ∧
  ¬ (HT.sIx xs.length 0 lo = 0 ∧ HT.sIx xs.length xs.length hi = xs.length) ∧ ∀ p, H p = none → Q (.ref p) (upd H p (.tup (cutV xs lo hi)))
theorem sl_tup : SlR X (rSlT X.K) := by
  intro pins s σ H x v vl vu lo hi sl Q I rx hs pl pu h
  obtain ⟨a, xs, rfl, hx, hw, q⟩ := h
  cases rx
  obtain ⟨its, r, ht, hz⟩ := I.tuple hx
  have hlen : its.toArray.size = xs.length := by rw [List.size_toArray]; exact r.length.symm
  refine ⟨"tuple", _, PyProof.Rows.slot_tuple_getitem.lookup, ht.typeIs, ?_⟩
  refine HT.getItem_tuple_cut ht hs pl pu (by rw [hlen]; exact hw) ?_ (by rw [hlen]; exact hz)
  rw [hlen]
  refine ⟨.ref s.heap.objs.size, _, I.laid (t' := s.toks) (o := .tup (cutV xs lo hi)) (fun b ob q => Heap.get?_push_of_some _ q) (Nat.le_refl _) ?_, rfl, q _ (I.hok.fresh (Nat.le_refl _))⟩
  exact ⟨Nat.le_trans (cutV_length xs lo hi) hz, _, (r.drop (HT.sIx xs.length 0 lo)).take (HT.sIx xs.length xs.length hi - HT.sIx xs.length 0 lo), IsTup.new _ _⟩

/-! ### t < u, t + u -/
def rLtT (K : PySem.W.Frag) : R2 := fun x y H Q => ∃ a b ns ms, x = .ref a ∧ y = .ref b ∧ SqT K H a (ns.map V.int) ∧ SqT K H b (ms.map V.int) ∧ Q (.bl (HT.lexLt ns ms)) H
theorem op_ltT (hu : X.A.units < cLine) : OpR X (compareOp .Lt) (rLtT X.K) := by
  intro pins s σ H x y v u Q I rx ry h
  obtain ⟨a, b, ns, ms, rfl, rfl, ha, hb, q⟩ := h
  cases rx
  cases ry
  obtain ⟨its, r1, p1, _⟩ := I.tuple ha
  obtain ⟨its2, r2, p2, _⟩ := I.tuple hb
  have i1 : IntsAre its.toArray.toList ns := intsAre_of r1
  have i2 : IntsAre its2.toArray.toList ms := intsAre_of r2
  exact HT.lt_tupInts p1 p2 i1 i2 hu ⟨.bl (HT.lexLt ns ms), H, I, rfl, q⟩
/-- t + u, t not empty: u empty gives t itself -/
def rCatT (K : PySem.W.Frag) : R2 := fun x y H Q => ∃ a b xs ys, x = .ref a ∧ y = .ref b ∧ SqT K H a xs ∧ SqT K H b ys ∧ xs ≠ [] ∧ xs.length + ys.length ≤ sizeLine ∧
  (ys = [] → Q (.ref a) H) ∧ (ys ≠ [] → ∀ p, H p = none → Q (.ref p) (upd H p (.tup (xs ++ ys))))
theorem Vals.nil_iff {xs : List V} {us : List Value} (r : Vals xs us) : us = [] ↔ xs = [] := by
  cases r with
  | nil => simp
  | cons _ _ => simp
theorem op_catT : OpR X (binaryOp .Add) (rCatT X.K) := by
  intro pins s σ H x y v u Q I rx ry h
  obtain ⟨a, b, xs, ys, rfl, rfl, ha, hb, hx, hz, q1, q2⟩ := h
  cases rx
  cases ry
  obtain ⟨its, r1, p1, _⟩ := I.tuple ha
  obtain ⟨its2, r2, p2, _⟩ := I.tuple hb
  refine HT.cat_tup p1 p2 (fun z => hx (r1.nil_iff.mp z)) (fun z => ⟨.ref a, H, I, rfl, q1 (r2.nil_iff.mp z)⟩) (fun z => ?_) (by rw [← r1.length, ← r2.length]; exact hz)
  refine ⟨.ref s.heap.objs.size, _, I.laid (t' := s.toks) (o := .tup (xs ++ ys)) (fun b ob q => Heap.get?_push_of_some _ q) (Nat.le_refl _) ?_, rfl, q2 (fun w => z (r2.nil_iff.mpr w)) _ (I.hok.fresh (Nat.le_refl _))⟩
  exact ⟨by rw [List.length_append]; exact hz, _, r1.append r2, IsTup.new _ _⟩
/-- tuple(t) -/
theorem call_tupleT : CallR X (.type "tuple") (fun xs H Q => ∃ a ys, xs = [.ref a] ∧ SqT X.K H a ys ∧ Q (.ref a) H) := by
  intro pins s σ H xs us Q I r h
  obtain ⟨a, ys, rfl, ha, q⟩ := h
  obtain ⟨u, rfl, ru⟩ := vals1 r
  cases ru
  obtain ⟨its, _, p1, _⟩ := I.tuple ha
  exact call_tuple_same (items := its.toArray) p1 ⟨.ref a, H, I, rfl, q⟩
end
end L2

namespace L2
open PySem PySem.Spec PyProof.Rows

/-! ### places -/
/-- the place that an index of any sign means -/
def ixN (n : Nat) (i : Int) : Option Nat := if 0 ≤ i then (if i < n then some i.toNat else none) else if -(n : Int) ≤ i then some (i + n).toNat else none
def atI {α : Type} (xs : List α) (i : Int) : Option α := (ixN xs.length i).bind fun j => xs[j]?
theorem ixN_seq {n : Nat} {i : Int} {j : Nat} (h : ixN n i = some j) : seqIndex? i n = some j ∧ j < n ∧ -(n : Int) ≤ i ∧ i < n := by
  unfold ixN at h
  by_cases h0 : 0 ≤ i
  · rw [if_pos h0] at h
    by_cases h1 : i < n
    · rw [if_pos h1] at h
      have e : i.toNat = j := Option.some.inj h
      exact ⟨by rw [seqIndex_of h0 h1, e], by omega, by omega, h1⟩
    · rw [if_neg h1] at h; cases h
  · rw [if_neg h0] at h
    by_cases h1 : -(n : Int) ≤ i
    · rw [if_pos h1] at h
      have e : (i + n).toNat = j := Option.some.inj h
      exact ⟨by rw [seqIndex_neg (by omega) h1, e], by omega, h1, by omega⟩
    · rw [if_neg h1] at h; cases h
theorem atI_get {α : Type} {xs : List α} {i : Int} {v : α} (h : atI xs i = some v) : ∃ j, seqIndex? i xs.length = some j ∧ xs[j]? = some v ∧ j < xs.length ∧ -(xs.length : Int) ≤ i ∧ i < xs.length := by
  unfold atI at h
  cases e : ixN xs.length i with
  | none => rw [e] at h; cases h
  | some j =>
    rw [e] at h
    obtain ⟨h1, h2, h3, h4⟩ := ixN_seq e
    exact ⟨j, h1, h, h2, h3, h4⟩
theorem atI_nat {α : Type} {xs : List α} {j : Nat} {v : α} (h : xs[j]? = some v) : atI xs (j : Int) = some v := by
  have hj : j < xs.length := (List.getElem?_eq_some_iff.mp h).1
  have e : ixN xs.length (j : Int) = some j := by
    unfold ixN
    rw [if_pos (by omega), if_pos (by omega)]; simp
  unfold atI; rw [e]; exact h
theorem atI_last {α : Type} (xs : List α) (v : α) : atI (xs ++ [v]) (-1) = some v := by
  have hl : (xs ++ [v]).length = xs.length + 1 := by simp
  have e : ixN (xs ++ [v]).length (-1) = some xs.length := by
    unfold ixN
    rw [hl, if_neg (by decide), if_pos (by omega)]
    congr 1
    omega
  unfold atI
  rw [e]
  show (xs ++ [v])[xs.length]? = some v
  simp

/-! ### what may be subscripted -/
/-- what stands as an index of a plain subscript -/
def PlainIx (b : Expr) : Prop := ∀ o i, subscripted b false o i = operate [o, i] (getItem o i)
/-- a subscript by values -/
def IxR (X : Cx) (r : R2) : Prop :=
  ∀ (value slice : Expr) (pins : List (Addr × Obj)) (s : Shared) (σ : St) (H : Hp) (x y : V) (v u : Value) (Q : VK), Inv X pins σ H s → RelV x v → RelV y u → r x y H Q →
    subscripted slice false v u = operate [v, u] (getItem v u) → wpAny (model X.prog X.w) X.A (subscriptTail value slice v u) (EP X pins σ Q) X.xe s
/-- a call of a builtin's method by values: the receiver, the arguments -/
def MtR (X : Cx) (id : String) (r : V → List V → Hp → VK → Prop) : Prop :=
  ∀ (pins : List (Addr × Obj)) (s : Shared) (σ : St) (H : Hp) (x : V) (xs : List V) (v : Value) (us : List Value) (Q : VK), Inv X pins σ H s → RelV x v → Vals xs us → r x xs H Q →
    wpAny (model X.prog X.w) X.A (call (.builtin id) (v :: us)) (EP X pins σ Q) X.xe s
section
variable {X : Cx} {a b : Expr} {ta tb : TE} {pos : Pos}
theorem IxR.or {r r' : R2} (h : IxR X r) (h' : IxR X r') : IxR X (fun x y H Q => r x y H Q ∨ r' x y H Q) := by
  intro value slice pins s σ H x y v u Q I rx ry q hs
  rcases q with q | q
  · exact h value slice pins s σ H x y v u Q I rx ry q hs
  · exact h' value slice pins s σ H x y v u Q I rx ry q hs
theorem MtR.or {id : String} {r r' : V → List V → Hp → VK → Prop} (h : MtR X id r) (h' : MtR X id r') : MtR X id (fun x xs H Q => r x xs H Q ∨ r' x xs H Q) := by
  intro pins s σ H x xs v us Q I rx rs q
  rcases q with q | q
  · exact h pins s σ H x xs v us Q I rx rs q
  · exact h' pins s σ H x xs v us Q I rx rs q
/-- a[b] -/
theorem pe_ix {r : R2} (hr : IxR X r) (ha : PE X a ta) (hb : PE X b tb) (hs : PlainIx b) : PE X (.Subscript a b pos) (tOp r ta tb) := by
  intro pins s σ H Q I h
  exact Subscript_ (binT ha hb I h fun v u s2 x y H2 I2 rx ry q => hr a b pins s2 σ H2 x y v u Q I2 rx ry q (hs _ _))

def rIxL (K : PySem.W.Frag) : R2 := fun x y H Q => ∃ p xs i v, x = .ref p ∧ y = .int i ∧ SqL K H p xs ∧ atI xs i = some v ∧ Q v H
def rIxT (K : PySem.W.Frag) : R2 := fun x y H Q => ∃ p xs i v, x = .ref p ∧ y = .int i ∧ SqT K H p xs ∧ atI xs i = some v ∧ Q v H
def rIxS : R2 := fun x y H Q => ∃ z i c, x = .str z ∧ y = .int i ∧ z.length ≤ sizeLine ∧ atI z.cps.toList i = some c ∧ Q (.str ⟨#[c]⟩) H
theorem ix_list : IxR X (rIxL X.K) := by
  intro value slice pins s σ H x y v u Q I rx ry h hs
  obtain ⟨p, xs, i, z, rfl, rfl, hq, he, q⟩ := h
  cases rx
  obtain ⟨t, rfl⟩ := ry
  obtain ⟨its, r, pl, hz⟩ := I.list hq
  obtain ⟨j, h1, h2, h3, h4, h5⟩ := atI_get he
  obtain ⟨w, ew, rw'⟩ := r.get h2
  have hl := r.length
  have hn := line63
  have fin : EP X pins σ Q w s := ⟨z, H, I, rw', q⟩
  by_cases h0 : 0 ≤ i
  · have hj : i.toNat = j := by
      rw [seqIndex_of h0 h5] at h1
      exact Option.some.inj h1
    exact item_listR pl.isList h0 (by omega) (by rw [hj]; simpa using ew) fin hs
  · have hj : (i + (its.toArray.size : Int)).toNat = j := by
      rw [seqIndex_neg (by omega) h4] at h1
      rw [List.size_toArray, ← hl]
      exact Option.some.inj h1
    exact subscriptTail_builtinR (x := w) pl.isList.typeIs slot_list_getitem.lookup
      (wpAny_getItem_list_neg (Q := fun r s' => r = w ∧ EP X pins σ Q r s') pl.isList (by omega) (by rw [List.size_toArray] <;> omega) (by omega) (by rw [hj]; simpa using ew) ⟨rfl, fin⟩) hs
theorem ix_tup : IxR X (rIxT X.K) := by
  intro value slice pins s σ H x y v u Q I rx ry h hs
  obtain ⟨p, xs, i, z, rfl, rfl, hq, he, q⟩ := h
  cases rx
  obtain ⟨t, rfl⟩ := ry
  obtain ⟨its, r, pl, hz⟩ := I.tuple hq
  obtain ⟨j, h1, h2, h3, h4, h5⟩ := atI_get he
  obtain ⟨w, ew, rw'⟩ := r.get h2
  have hl := r.length
  have hn := line63
  have fin : EP X pins σ Q w s := ⟨z, H, I, rw', q⟩
  exact subscriptTail_builtinR (x := w) pl.typeIs slot_tuple_getitem.lookup
    (getItem_tuple (j := j) (Q := fun r s' => r = w ∧ EP X pins σ Q r s') pl (by omega) (by omega) (by rw [List.size_toArray, ← hl]; exact h1) (by simpa using ew) ⟨rfl, fin⟩) hs
theorem ix_str : IxR X rIxS := by
  intro value slice pins s σ H x y v u Q I rx ry h hs
  obtain ⟨z, i, c, rfl, rfl, hz, he, q⟩ := h
  obtain ⟨t, rfl⟩ := rx
  obtain ⟨t', rfl⟩ := ry
  obtain ⟨j, h1, h2, h3, h4, h5⟩ := atI_get he
  have hl : z.cps.toList.length = z.length := by simp [Str.length]
  rw [hl] at h1 h4 h5
  have hn := line63
  exact tail_any (typeIs_str s z t) slot_str_getitem.lookup (getItem_str (c := c) (by
    have e1 : decide (i < -(2 ^ 63 : Int)) = false := decide_eq_false (by omega)
    have e2 : decide (i ≥ 2 ^ 63) = false := decide_eq_false (by omega)
    rw [e1, e2, Bool.or_false]) (by rw [h1]; simpa using h2) ⟨.str ⟨#[c]⟩, H, I.tok _, ⟨_, rfl⟩, q⟩) hs
/-- list, tuple or str -/
def rIx (K : PySem.W.Frag) : R2 := fun x y H Q => rIxL K x y H Q ∨ rIxT K x y H Q ∨ rIxS x y H Q
theorem ix_seq : IxR X (rIx X.K) := ix_list.or (ix_tup.or ix_str)

/-! ### xs[i] = v, any sign -/
/-- the list's object behind a store -/
theorem mapSeq_set (its : List Value) (n j : Nat) (u : Value) : Obj.mapSeq (·.setIfInBounds j u) { cls := .type "list", data := .seq its.toArray n } = { cls := .type "list", data := .seq (its.set j u).toArray n } := by
  simp [Obj.mapSeq]
theorem Inv.lst {pins : List (Addr × Obj)} {σ : St} {H : Hp} {s : Shared} {p : Addr} {xs : List V} (I : Inv X pins σ H s) (h : H p = some (.lst xs)) :
    ∃ (its : List Value) (n : Nat), Vals xs its ∧ s.heap.get? p = some { cls := .type "list", data := .seq its.toArray n } ∧ xs.length ≤ sizeLine := by
  obtain ⟨z, its, n, r, e⟩ := I.hok p _ h
  exact ⟨its, n, r, e, z⟩
/-- the list at p is written by an update of its object -/
theorem Inv.lstUpd {pins : List (Addr × Obj)} {σ : St} {H : Hp} {s : Shared} {p : Addr} {xs ys : List V} {its its' : List Value} {n n' : Nat} {f : Obj → Obj} (I : Inv X pins σ H s) (h : H p = some (.lst xs))
    (ho : s.heap.get? p = some { cls := .type "list", data := .seq its.toArray n }) (hf : f { cls := .type "list", data := .seq its.toArray n } = { cls := .type "list", data := .seq its'.toArray n' }) (r : Vals ys its') (hz : ys.length ≤ sizeLine) (t : Nat) :
    Inv X pins σ (upd H p (.lst ys)) { s with heap := s.heap.update p f, toks := t } := by
  have e : (s.heap.update p f).get? p = some { cls := .type "list", data := .seq its'.toArray n' } := by
    rw [Heap.get?_update_self f ho (by rw [hf] <;> rfl), hf]
  refine I.write (x := p) (e := p) (by rw [h]; trivial) (.inl rfl) (fun b u hb q => (Heap.get?_update_other _ _ (Ne.symm hb)).trans q) ⟨_, e⟩ ?_
  exact ⟨hz, its', n', r, e⟩
def rSetL : V → V → V → Hp → (Hp → Prop) → Prop := fun o i v H Q => ∃ p xs k j, o = .ref p ∧ i = .int k ∧ H p = some (.lst xs) ∧ ixN xs.length k = some j ∧ Q (upd H p (.lst (xs.set j v)))
theorem set_list : PSet X rSetL := by
  intro pins s σ H o i v ov iv u Q I ro ri rv h
  obtain ⟨p, xs, k, j, rfl, rfl, hp, hj, q⟩ := h
  cases ro
  obtain ⟨t, rfl⟩ := ri
  obtain ⟨its, n, r, ho, hz⟩ := I.lst hp
  obtain ⟨h1, h2, h3, h4⟩ := ixN_seq hj
  have hl := r.length
  have hn := line63
  have I' : Inv X pins σ (upd H p (.lst (xs.set j v))) { s with heap := s.heap.update p (Obj.mapSeq (·.setIfInBounds j u)) } :=
    I.lstUpd hp ho (mapSeq_set its n j u) (r.set rv j) (by rw [List.length_set]; exact hz) s.toks
  by_cases h0 : 0 ≤ k
  · have hk : k.toNat = j := by
      rw [seqIndex_of h0 h4] at h1
      exact Option.some.inj h1
    exact PySem.W.ki_setAt ho h0 (by omega) (by rw [List.size_toArray, ← hl]; exact h4) (by rw [hk]; exact ⟨_, I', q⟩)
  · have hk : (k + (its.toArray.size : Int)).toNat = j := by
      rw [seqIndex_neg (by omega) h3] at h1
      rw [List.size_toArray, ← hl]
      exact Option.some.inj h1
    exact PySem.W.ki_setBack ho (by omega) (by rw [List.size_toArray, ← hl]; exact h3) (by omega) (by rw [hk]; exact ⟨_, I', q⟩)

/-! ### slices -/
theorem slice_bounds (lo hi : Option Int) (n : Nat) : (sliceBounds lo hi none n).1 = ((HT.sIx n 0 lo : Nat) : Int) ∧ (sliceBounds lo hi none n).2.1 = ((HT.sIx n n hi : Nat) : Int) ∧ (sliceBounds lo hi none n).2.2 = 1 := by
  refine ⟨?_, ?_, rfl⟩
  · cases lo with
    | none => simp [sliceBounds, HT.sIx]
    | some i =>
      simp only [sliceBounds, HT.sIx, Option.getD_none, show (1 : Int) > 0 by decide, if_true]
      by_cases h : i < 0
      · simp only [h, if_true] <;> omega
      · simp only [h, if_false] <;> omega
  · cases hi with
    | none => simp [sliceBounds, HT.sIx]
    | some i =>
      simp only [sliceBounds, HT.sIx, Option.getD_none, show (1 : Int) > 0 by decide, if_true]
      by_cases h : i < 0
      · simp only [h, if_true] <;> omega
      · simp only [h, if_false] <;> omega
theorem slicePick_cut (its : List Value) (lo hi : Option Int) : slicePick its.toArray lo hi none = ((its.drop (HT.sIx its.length 0 lo)).take (HT.sIx its.length its.length hi - HT.sIx its.length 0 lo)).toArray := by
  obtain ⟨h1, h2, h3⟩ := slice_bounds lo hi its.toArray.size
  unfold slicePick
  rw [h1, h2, h3]
  simp only [sliceRange_one, pick_run, List.size_toArray] <;> rfl
/-- xs[lo:hi] of a list: a new list -/
def rSlL (K : PySem.W.Frag) : V → Option Int → Option Int → Hp → VK → Prop := fun x lo hi H Q => ∃ a xs, x = .ref a ∧ SqL K H a xs ∧ ∀ p, H p = none → Q (.ref p) (upd H p (.lst (cutV xs lo hi)))
theorem sl_list : SlR X (rSlL X.K) := by
  intro pins s σ H x v vl vu lo hi sl Q I rx hs pl pu h
  obtain ⟨a, xs, rfl, hx, q⟩ := h
  cases rx
  obtain ⟨its, r, ht, hz⟩ := I.list hx
  have hlen := r.length
  refine ⟨"list", _, slot_list_getitem.lookup, ht.isList.typeIs, ?_⟩
  refine wpAny_getItem_list_slice ht.isList hs pl pu .none (by simp) ?_ (by rw [List.size_toArray] <;> omega)
  rw [slicePick_cut, ← hlen]
  refine ⟨.ref s.heap.objs.size, _, I.laid (t' := s.toks) (o := .lst (cutV xs lo hi)) (fun b ob q => Heap.get?_push_of_some _ q) (Nat.le_refl _) ?_, rfl, q _ (I.hok.fresh (Nat.le_refl _))⟩
  exact ⟨Nat.le_trans (cutV_length xs lo hi) hz, _, 0, (r.drop (HT.sIx xs.length 0 lo)).take (HT.sIx xs.length xs.length hi - HT.sIx xs.length 0 lo), Heap.get?_push_size _ rfl⟩

/-! ### in, not in: flat items -/
def flatV : V → Bool
  | .non => true
  | .bl _ => true
  | .int _ => true
  | .str _ => true
  | _ => false
/-- == of flat values -/
def eqV : V → V → Bool
  | .non, .non => true
  | .bl a, .bl b => a == b
  | .bl a, .int b => (if a then 1 else 0) == b
  | .int a, .bl b => a == (if b then 1 else 0)
  | .int a, .int b => a == b
  | .str a, .str b => a == b
  | _, _ => false
theorem eqAt_V {A : Around} {s : Shared} {y x : V} {u v : Value} (ry : RelV y u) (rx : RelV x v) (fy : flatV y = true) (fx : flatV x = true) : SeqAt.EqAt A s u v (eqV y x) := by
  cases y with
  | non =>
    cases ry
    cases x with
    | non => cases rx; exact SeqAt.EqAt.same _
    | bl b => cases rx; exact SeqAt.EqAt.none_bool b
    | int b => obtain ⟨t, rfl⟩ := rx; exact SeqAt.EqAt.none_int b t
    | str b => obtain ⟨t, rfl⟩ := rx; exact SeqAt.EqAt.none_str b t
    | _ => exact absurd (show false = true from fx) Bool.false_ne_true
  | bl a =>
    cases ry
    cases x with
    | non => cases rx; exact SeqAt.EqAt.bool_none a
    | bl b => cases rx; exact SeqAt.EqAt.bool_bool a b
    | int b => obtain ⟨t, rfl⟩ := rx; exact SeqAt.EqAt.bool_int a b t
    | str b => obtain ⟨t, rfl⟩ := rx; exact SeqAt.EqAt.bool_str a b t
    | _ => exact absurd (show false = true from fx) Bool.false_ne_true
  | int a =>
    obtain ⟨t', rfl⟩ := ry
    cases x with
    | non => cases rx; exact SeqAt.EqAt.int_none a t'
    | bl b => cases rx; exact SeqAt.EqAt.int_bool a t' b
    | int b => obtain ⟨t, rfl⟩ := rx; exact SeqAt.EqAt.int_int a t' b t
    | str b => obtain ⟨t, rfl⟩ := rx; exact SeqAt.EqAt.int_str a t' b t
    | _ => exact absurd (show false = true from fx) Bool.false_ne_true
  | str a =>
    obtain ⟨t', rfl⟩ := ry
    cases x with
    | non => cases rx; exact SeqAt.EqAt.str_none a t'
    | bl b => cases rx; exact SeqAt.EqAt.str_bool a t' b
    | int b => obtain ⟨t, rfl⟩ := rx; exact SeqAt.EqAt.str_int a t' b t
    | str b => obtain ⟨t, rfl⟩ := rx; exact SeqAt.EqAt.str_str a t' b t
    | _ => exact absurd (show false = true from fx) Bool.false_ne_true
  | _ => exact absurd (show false = true from fy) Bool.false_ne_true
/-- the items' answers, read off the values (a value's own answer does not lean on its token) -/
def eqU (x : V) (u : Value) : Bool := match u with
  | .none => eqV .non x
  | .bool b => eqV (.bl b) x
  | .int i _ => eqV (.int i) x
  | .str z _ => eqV (.str z) x
  | _ => false
theorem eqU_of {x y : V} {u : Value} (r : RelV y u) (f : flatV y = true) : eqU x u = eqV y x := by
  cases y with
  | non => cases r; rfl
  | bl b => cases r; rfl
  | int i => obtain ⟨t, rfl⟩ := r; rfl
  | str z => obtain ⟨t, rfl⟩ := r; rfl
  | _ => exact absurd (show false = true from f) Bool.false_ne_true
theorem any_eqU {x : V} : ∀ {xs : List V} {us : List Value}, Vals xs us → xs.all flatV = true → us.any (eqU x) = xs.any fun y => eqV y x
  | _, _, .nil, _ => rfl
  | y :: xs, u :: us, .cons r t, f => by
    rw [List.all_cons, Bool.and_eq_true] at f
    rw [List.any_cons, List.any_cons, eqU_of r f.1, any_eqU t f.2]
theorem mem_eqAt {A : Around} {s : Shared} {x : V} {v : Value} (rx : RelV x v) (fx : flatV x = true) : ∀ {xs : List V} {us : List Value}, Vals xs us → xs.all flatV = true → ∀ u ∈ us, SeqAt.EqAt A s u v (eqU x u)
  | _, _, .nil, _ => fun u hu => by cases hu
  | y :: xs, u :: us, .cons r t, f => fun u' hu => by
    rw [List.all_cons, Bool.and_eq_true] at f
    rcases List.mem_cons.mp hu with rfl | hu
    · rw [eqU_of r f.1]; exact eqAt_V r rx f.1 fx
    · exact mem_eqAt rx fx t f.2 u' hu
def inV (x : V) (xs : List V) : Bool := xs.any fun y => eqV y x
/-- x in a list or tuple of flat items -/
def rIn (K : PySem.W.Frag) (neg : Bool) : R2 := fun x y H Q => ∃ p xs, y = .ref p ∧ (SqL K H p xs ∨ SqT K H p xs) ∧ flatV x = true ∧ xs.all flatV = true ∧ Q (.bl (if neg then !inV x xs else inV x xs)) H
theorem op_in_seq : OpR X (compareOp .In) (rIn X.K false) := by
  intro pins s σ H x y v u Q I rx ry h
  obtain ⟨p, xs, rfl, hq, fx, fs, q⟩ := h
  cases ry
  rcases hq with hq | hq
  · obtain ⟨its, r, pl, hz⟩ := I.list hq
    refine SeqAt.in_listAt (eqU x) pl.isList (fun w hw => mem_eqAt rx fx r fs w (by simpa using hw)) ⟨.bl _, H, I, rfl, ?_⟩
    rw [show its.toArray.any (eqU x) = its.any (eqU x) by simp, any_eqU r fs]
    exact q
  · obtain ⟨its, r, pl, hz⟩ := I.tuple hq
    refine SeqAt.in_tupleAt (eqU x) pl (fun w hw => mem_eqAt rx fx r fs w (by simpa using hw)) ⟨.bl _, H, I, rfl, ?_⟩
    rw [show its.toArray.any (eqU x) = its.any (eqU x) by simp, any_eqU r fs]
    exact q
theorem op_notIn_seq : OpR X (compareOp .NotIn) (rIn X.K true) := by
  intro pins s σ H x y v u Q I rx ry h
  obtain ⟨p, xs, rfl, hq, fx, fs, q⟩ := h
  cases ry
  rcases hq with hq | hq
  · obtain ⟨its, r, pl, hz⟩ := I.list hq
    refine SeqAt.notIn_listAt (eqU x) pl.isList (fun w hw => mem_eqAt rx fx r fs w (by simpa using hw)) ⟨.bl _, H, I, rfl, ?_⟩
    rw [show its.toArray.any (eqU x) = its.any (eqU x) by simp, any_eqU r fs]
    exact q
  · obtain ⟨its, r, pl, hz⟩ := I.tuple hq
    refine SeqAt.notIn_tupleAt (eqU x) pl (fun w hw => mem_eqAt rx fx r fs w (by simpa using hw)) ⟨.bl _, H, I, rfl, ?_⟩
    rw [show its.toArray.any (eqU x) = its.any (eqU x) by simp, any_eqU r fs]
    exact q
theorem op_notIn_str : OpR X (compareOp .NotIn) (fun x y H Q => ∃ i j, x = .str i ∧ y = .str j ∧ Q (.bl (!(!(Builtin.Str.occurrences j i 0 j.length 1).isEmpty))) H) := by
  intro pins s σ H x y v u Q I rx ry h
  obtain ⟨i, j, rfl, rfl, q⟩ := h
  obtain ⟨t, rfl⟩ := rx
  obtain ⟨t', rfl⟩ := ry
  exact notIn_str ⟨.bl _, H, I, rfl, q⟩

/-! ### len, list(x), tuple(x) of any list or tuple that is read -/
theorem call_len_seq : CallR X (.builtin "len") (fun xs H Q => ∃ p ys, xs = [.ref p] ∧ (SqL X.K H p ys ∨ SqT X.K H p ys) ∧ Q (.int ys.length) H) := by
  intro pins s σ H xs us Q I r h
  obtain ⟨p, ys, rfl, hq, q⟩ := h
  obtain ⟨u, rfl, rx⟩ := vals1 r
  cases rx
  have hn := line63
  rcases hq with hq | hq
  · obtain ⟨its, r', pl, hz⟩ := I.list hq
    have hlen := r'.length
    exact Calls.call_len_list pl.isList (by simp only [List.size_toArray] <;> omega) ⟨.int ys.length, H, I.tok _, ⟨s.toks + 1, by rw [List.size_toArray, hlen]⟩, q⟩
  · obtain ⟨its, r', pl, hz⟩ := I.tuple hq
    have hlen := r'.length
    exact len_tuple pl (by simp only [List.size_toArray] <;> omega) ⟨.int ys.length, H, I.tok _, ⟨s.toks + 1, by rw [List.size_toArray, hlen]⟩, q⟩
theorem call_len_str : CallR X (.builtin "len") (fun xs H Q => ∃ z, xs = [.str z] ∧ z.length ≤ sizeLine ∧ Q (.int z.length) H) := by
  intro pins s σ H xs us Q I r h
  obtain ⟨z, rfl, hz, q⟩ := h
  obtain ⟨u, rfl, t, rfl⟩ := vals1 r
  have hn := line63
  exact len_str (by omega) ⟨.int z.length, H, I.tok _, ⟨_, rfl⟩, q⟩
theorem CallR.or {f : Value} {r r' : List V → Hp → VK → Prop} (h : CallR X f r) (h' : CallR X f r') : CallR X f (fun xs H Q => r xs H Q ∨ r' xs H Q) := by
  intro pins s σ H xs us Q I rs q
  rcases q with q | q
  · exact h pins s σ H xs us Q I rs q
  · exact h' pins s σ H xs us Q I rs q
theorem call_list_of : CallR X (.type "list") (fun xs H Q => ∃ p ys, xs = [.ref p] ∧ (SqL X.K H p ys ∨ SqT X.K H p ys) ∧ ∀ l, H l = none → Q (.ref l) (upd H l (.lst ys))) := by
  intro pins s σ H xs us Q I r h
  obtain ⟨p, ys, rfl, hq, q⟩ := h
  obtain ⟨u, rfl, rx⟩ := vals1 r
  cases rx
  have fin : ∀ (its : List Value), Vals ys its → ys.length ≤ sizeLine → ∀ (h' : Heap) (c' : Nat), (∀ b o', s.heap.get? b = some o' → h'.get? b = some o') →
      h'.get? s.heap.objs.size = some { cls := .type "list", dict := none, data := .seq its.toArray c', slots := #[] } → EP X pins σ Q (.ref s.heap.objs.size) { s with heap := h' } := fun its r' hz h' c' kp e =>
    ⟨.ref s.heap.objs.size, _, I.laid (t' := s.toks) kp (Nat.le_refl _) (show ObjOk X.prog X.w _ h' _ (.lst ys) from ⟨hz, its, c', r', e⟩), rfl, q _ (I.hok.fresh (Nat.le_refl _))⟩
  rcases hq with hq | hq
  · obtain ⟨its, r', pl, hz⟩ := I.list hq
    have hlen := r'.length
    obtain ⟨o, ho, hc, n, hd⟩ := pl.isList
    exact call_list_seq p (.inl rfl) ho hc hd (fun h' c' kp e => fin its r' hz h' c' kp e) (by simp only [List.size_toArray] <;> omega)
  · obtain ⟨its, r', pl, hz⟩ := I.tuple hq
    have hlen := r'.length
    obtain ⟨o, ho, hc, n, hd⟩ := pl
    exact call_list_seq p (.inr rfl) ho hc hd (fun h' c' kp e => fin its r' hz h' c' kp e) (by simp only [List.size_toArray] <;> omega)
theorem call_tuple_of : CallR X (.type "tuple") (fun xs H Q => ∃ p ys, xs = [.ref p] ∧ ((SqL X.K H p ys ∧ ∀ l, H l = none → Q (.ref l) (upd H l (.tup ys))) ∨ (SqT X.K H p ys ∧ Q (.ref p) H))) := by
  intro pins s σ H xs us Q I r h
  obtain ⟨p, ys, rfl, h⟩ := h
  obtain ⟨u, rfl, rx⟩ := vals1 r
  cases rx
  rcases h with ⟨hq, q⟩ | ⟨hq, q⟩
  · obtain ⟨its, r', pl, hz⟩ := I.list hq
    have hlen := r'.length
    refine call_tuple_list pl.isList (fun h' kp => ?_) (by simp only [List.size_toArray] <;> omega)
    have I1 : Inv X pins σ H { s with heap := h' } := I.kept (t' := s.toks) kp
    have I2 : Inv X pins σ (upd H h'.objs.size (.tup ys)) { s with heap := h'.push { cls := .type "tuple", data := .seq its.toArray } } :=
      I1.laid (t' := s.toks) (fun b o e => Heap.get?_push_of_some _ e) (Nat.le_refl _) (show ObjOk X.prog X.w _ _ _ (.tup ys) from ⟨hz, its, r', IsTup.new _ _⟩)
    exact ⟨.ref h'.objs.size, _, I2, rfl, q _ (I1.hok.fresh (Nat.le_refl _))⟩
  · obtain ⟨its, r', pl, hz⟩ := I.tuple hq
    exact call_tuple_same pl ⟨.ref p, H, I, rfl, q⟩

/-! ### the call of a builtin's method: o.m(..) -/
/-- the value is of that builtin type -/
def tyV (K : PySem.W.Frag) (T : String) (x : V) (H : Hp) : Prop := match x with
  | .str _ => T = "str"
  | .int _ => T = "int"
  | .ref p => (T = "list" ∧ ∃ xs, SqL K H p xs) ∨ (T = "tuple" ∧ ∃ o, K.lookup p = some o ∧ o.cls = .type "tuple" ∧ o.dict = none) ∨
      (T = "dict" ∧ ((∃ kvs, H p = some (.dK kvs)) ∨ ∃ kvs, H p = some (.dT kvs))) ∨ (T = "set" ∧ ∃ S n, H p = some (.set S n))
  | _ => False
theorem tyV_is {pins : List (Addr × Obj)} {σ : St} {H : Hp} {s : Shared} {T : String} {x : V} {v : Value} (I : Inv X pins σ H s) (r : RelV x v) (ty : tyV X.K T x H) :
    s.TypeIs v T ∧ ∀ a, v = .ref a → ∃ ob, s.heap.get? a = some ob ∧ ob.dict = none := by
  cases x with
  | str z =>
    obtain ⟨t, rfl⟩ := r
    cases (show T = "str" from ty)
    exact ⟨typeIs_str s z t, fun _ e => nomatch e⟩
  | int i =>
    obtain ⟨t, rfl⟩ := r
    cases (show T = "int" from ty)
    exact ⟨typeIs_int s i t, fun _ e => nomatch e⟩
  | ref p =>
    cases r
    rcases ty with ⟨rfl, xs, hq⟩ | ⟨rfl, o, hk, hc, hd⟩ | ⟨rfl, hk⟩ | ⟨rfl, S, n, hk⟩
    · obtain ⟨its, _, pl, _⟩ := I.list hq
      refine ⟨pl.isList.typeIs, fun a e => ?_⟩
      cases e
      obtain ⟨o, n, e, c, hd, _⟩ := pl
      exact ⟨o, e, hd⟩
    · refine ⟨⟨o, I.kIn p o hk, hc⟩, fun a e => ?_⟩
      cases e
      exact ⟨o, I.kIn _ o hk, hd⟩
    · have z : ∃ o, s.heap.get? p = some o ∧ o.ExactDict := by
        rcases hk with ⟨kvs, hk⟩ | ⟨kvs, hk⟩
        · obtain ⟨_, _, _, _, o, _, _, e, ex, _⟩ := I.hok p _ hk
          exact ⟨o, e, ex⟩
        · obtain ⟨_, _, _, _, o, _, _, e, ex, _⟩ := I.hok p _ hk
          exact ⟨o, e, ex⟩
      obtain ⟨o, e, ex⟩ := z
      refine ⟨⟨o, e, ex.1⟩, fun a e2 => ?_⟩
      cases e2
      exact ⟨o, e, ex.2.1⟩
    · obtain ⟨o, _, _, _, e, ex, _⟩ := I.hok p _ hk
      refine ⟨⟨o, e, ex.1⟩, fun a e2 => ?_⟩
      cases e2
      exact ⟨o, e, ex.2.1⟩
  | _ => exact False.elim ty
def tBM0 (K : PySem.W.Frag) (T : String) (r : V → List V → Hp → VK → Prop) (to : TE) : TE := fun σ H Q => to σ H fun x H1 => tyV K T x H1 ∧ r x [] H1 Q
def tBM (K : PySem.W.Frag) (T : String) (r : V → List V → Hp → VK → Prop) (to : TE) (t : TA) : TE := fun σ H Q => to σ H fun x H1 => tyV K T x H1 ∧ t σ H1 fun xs H2 => r x xs H2 Q
variable {o e : Expr} {es : List Expr} {to : TE} {t : TA} {name : Str} {apos cpos : Pos} {T id : String} {r : V → List V → Hp → VK → Prop}
theorem pe_bm0 (pa : PlainAttrs T) (slot : Slot T name id) (hty : typeOf (.builtin id) = pure (.type "method_descriptor")) (hm : MtR X id r) (ho : PE X o to)
    (hbase : attributeBase o name X.env (eval o X.env) = eval o X.env := by rfl) (hline : (apos.endLine == cpos.line) = true := by rfl) : PE X (.Call (.Attribute o name apos) [] [] cpos) (tBM0 X.K T r to) := by
  intro pins s σ H Q I h
  refine wpAny_Call_method0_late hbase hline (thn (ho pins s σ H _ I h) fun v s1 ⟨x, H1, I1, r1, ty, q1⟩ => ?_)
  obtain ⟨h1, h2⟩ := tyV_is I1 r1 ty
  exact ⟨T, id, pa, slot, hty, h1, h2, Calls.callWith_builtin rfl (PySem.evalArgs_none (hm pins s1 σ H1 x [] v [] Q I1 r1 .nil q1))⟩
theorem pe_bm (pa : PlainAttrs T) (slot : Slot T name id) (hty : typeOf (.builtin id) = pure (.type "method_descriptor")) (hm : MtR X id r) (ho : PE X o to) (ha : PA X (e :: es) t)
    (hbase : attributeBase o name X.env (eval o X.env) = eval o X.env := by rfl)
    (hfew : ((backTo cpos (starEach (e :: es) X.env)).all (fun x => !x.1) && (backToKw cpos (keywordEach [] X.env)).all (fun x => x.1.isSome)
      && decide ((e :: es).length + ([] : List Keyword).length + (if ([] : List Keyword).isEmpty then 0 else 1) < 30)) = true := by rfl)
    (hline : (apos.endLine == cpos.line) = true := by rfl) (hs : starEach (e :: es) X.env = (false, eval e X.env) :: starEach es X.env := by rfl) (hplain : (backTo cpos (starEach es X.env)).any (·.1) = false := by rfl) :
    PE X (.Call (.Attribute o name apos) (e :: es) [] cpos) (tBM X.K T r to t) := by
  intro pins s σ H Q I h
  refine wpAny_Call_method_late hbase hfew hline rfl (thn (ho pins s σ H _ I h) fun v s1 ⟨x, H1, I1, r1, ty, q1⟩ => ?_)
  obtain ⟨h1, h2⟩ := tyV_is I1 r1 ty
  refine ⟨T, id, pa, slot, hty, h1, h2, ?_⟩
  have hA := ha cpos pins s1 σ H1 _ I1 q1
  rw [hs] at hA ⊢
  refine Calls.callWith_builtin (by show (false || (backTo cpos (starEach es X.env)).any (·.1)) = false; rw [hplain] <;> rfl) (Calls.evalArgs_plain ?_)
  exact thn hA fun us s2 ⟨vs, H2, I2, r2, q2⟩ => hm pins s2 σ H2 x vs v us Q I2 r1 r2 q2
/- xs.append(e), list.index on a module's tuple .. are MtR facts of 06m -/
end
end L2

namespace L2
open PySem PySem.Spec PyProof.Rows

def MtM (X : Cx) (id : String) (r : V → List V → Hp → VK → Prop) : Prop :=
  ∀ (pins : List (Addr × Obj)) (s : Shared) (σ : St) (H : Hp) (x : V) (xs : List V) (v : Value) (us : List Value) (Q : VK), Inv X pins σ H s → RelV x v → Vals xs us → r x xs H Q →
    wpAny (model X.prog X.w) X.A (call (.builtin id) (v :: us)) (EP X pins σ Q) X.xe s

/-! ### lists of values -/
theorem Vals.one : ∀ {x : V} {us : List Value}, Vals [x] us → ∃ u, us = [u] ∧ RelV x u
  | _, _, .cons r .nil => ⟨_, rfl, r⟩
theorem Vals.two : ∀ {x y : V} {us : List Value}, Vals [x, y] us → ∃ u v, us = [u, v] ∧ RelV x u ∧ RelV y v
  | _, _, _, .cons r (.cons q .nil) => ⟨_, _, rfl, r, q⟩
theorem Vals.zero : ∀ {us : List Value}, Vals [] us → us = []
  | _, .nil => rfl
theorem Vals.dropLast {xs : List V} {us : List Value} (h : Vals xs us) : Vals xs.dropLast us.dropLast := by
  induction h with
  | nil => exact .nil
  | cons r t ih =>
    cases t with
    | nil => exact .nil
    | cons q t' => exact .cons r ih
theorem Vals.eraseIdx : ∀ {xs : List V} {us : List Value} (i : Nat), Vals xs us → Vals (xs.eraseIdx i) (us.eraseIdx i)
  | _, _, _, .nil => .nil
  | _, _, 0, .cons _ t => t
  | _, _, i + 1, .cons r t => .cons r (Vals.eraseIdx i t)
theorem Vals.reverse {xs : List V} {us : List Value} (h : Vals xs us) : Vals xs.reverse us.reverse := by
  induction h with
  | nil => exact .nil
  | cons r t ih => rw [List.reverse_cons, List.reverse_cons]; exact Vals.append ih (.cons r .nil)
theorem Vals.rep {xs : List V} {us : List Value} (h : Vals xs us) : ∀ k : Nat, Vals (List.replicate k xs).flatten (List.replicate k us).flatten
  | 0 => .nil
  | k + 1 => by
    rw [List.replicate_succ, List.replicate_succ, List.flatten_cons, List.flatten_cons]
    exact Vals.append h (Vals.rep h k)
theorem erase_last {α : Type} (l : List α) : l.eraseIdx (l.length - 1) = l.dropLast := by
  induction l with
  | nil => rfl
  | cons a r ih =>
    cases r with
    | nil => rfl
    | cons b r =>
      have e : (a :: b :: r).length - 1 = ((b :: r).length - 1) + 1 := by
        have h1 : (a :: b :: r).length = r.length + 2 := rfl
        have h2 : (b :: r).length = r.length + 1 := rfl
        omega
      rw [e, List.eraseIdx_cons_succ, ih]
      all_goals rfl
theorem len_erase {α : Type} : ∀ (l : List α) (i : Nat), (l.eraseIdx i).length ≤ l.length
  | [], _ => Nat.le_refl _
  | _ :: _, 0 => Nat.le_succ _
  | _ :: r, i + 1 => Nat.succ_le_succ (len_erase r i)
theorem foldl_rep (its : List Value) : ∀ (k : Nat) (acc : List Value),
    List.foldl (fun x1 x2 => x1 ++ x2) acc.toArray (List.replicate k its.toArray) = (acc ++ (List.replicate k its).flatten).toArray
  | 0, acc => by simp
  | k + 1, acc => by
    have e : acc.toArray ++ its.toArray = (acc ++ its).toArray := by simp
    have e2 : (acc ++ its) ++ (List.replicate k its).flatten = acc ++ (List.replicate (k + 1) its).flatten := by
      rw [List.replicate_succ, List.flatten_cons, List.append_assoc]
    rw [← e2, ← foldl_rep its k (acc ++ its), ← e, List.replicate_succ, List.foldl_cons]

section
variable {X : Cx} {pins : List (Addr × Obj)} {σ : St} {H : Hp} {s : Shared} {l b : Addr} {xs ys zs : List V}

/-! ### the two steps: a tracked list is rewritten, a new list is laid -/
theorem Inv.lset {its its' : List Value} {n : Nat} {f : Array Value → Array Value} {t' : Nat} (I : Inv X pins σ H s) (hH : H l = some (.lst xs))
    (e : s.heap.get? l = some { cls := .type "list", data := .seq its.toArray n }) (hf : f its.toArray = its'.toArray) (hv : Vals ys its') (hz : ys.length ≤ sizeLine) :
    Inv X pins σ (upd H l (.lst ys)) { s with heap := s.heap.update l (Obj.mapSeq f), toks := t' } := by
  have q := PySem.IsL.update e f
  rw [hf] at q
  refine I.write (x := l) (e := l) (by rw [hH]; exact trivial) (.inl rfl) (fun b' u hb hu => (Heap.get?_update_other s.heap (Obj.mapSeq f) (Ne.symm hb)).trans hu) ⟨_, q⟩ ?_
  exact ⟨hz, its', _, hv, q⟩
theorem Inv.lnew {its : List Value} {t' : Nat} (I : Inv X pins σ H s) (hv : Vals ys its) (hz : ys.length ≤ sizeLine) :
    Inv X pins σ (upd H s.heap.objs.size (.lst ys)) { s with heap := s.heap.push { cls := .type "list", data := .seq its.toArray }, toks := t' } :=
  I.laid (fun _ _ q => Heap.get?_push_of_some _ q) (Nat.le_refl _) ⟨hz, its, 0, hv, Heap.get?_push_size _ rfl⟩
theorem Inv.fresh (I : Inv X pins σ H s) : H s.heap.objs.size = none := I.hok.fresh (Nat.le_refl _)
theorem Inv.lstM (I : Inv X pins σ H s) (hH : H l = some (.lst xs)) : xs.length ≤ sizeLine ∧ ∃ (its : List Value) (n : Nat), Vals xs its ∧ xs.length = its.length ∧ s.heap.get? l = some { cls := .type "list", data := .seq its.toArray n } := by
  obtain ⟨z, its, n, r, e⟩ := I.hok l _ hH
  exact ⟨z, its, n, r, r.length, e⟩

theorem notLongL {n : Nat} (h : n ≤ sizeLine) : Builtin.List.listTooLong n = false := by
  unfold Builtin.List.listTooLong
  exact decide_eq_false (by omega)
end

section
variable {X : Cx}

/-! ### methods -/
def rAppend : V → List V → Hp → VK → Prop := fun x vs H Q => ∃ l xs y, x = .ref l ∧ vs = [y] ∧ H l = some (.lst xs) ∧ xs.length < sizeLine ∧ Q .non (upd H l (.lst (xs ++ [y])))
theorem mt_append : MtM X "list.append" rAppend := by
  intro pins s σ H x vs v us Q I rx rv h
  obtain ⟨l, xs, y, rfl, rfl, hH, hz, q⟩ := h
  cases rx
  obtain ⟨u, rfl, ru⟩ := rv.one
  obtain ⟨z, its, n, r, hl, e⟩ := I.lstM hH
  refine call_meets F.slot_list_append ⟨_, e, rfl⟩ F.entry_list_append (F.args_list_append_2 _ _) (PySem.list_append l its.toArray n u (by rw [List.size_toArray]; omega)) ⟨e, ?_⟩
  refine ⟨.non, _, I.lset (its' := its ++ [u]) hH e (by simp) (r.append (.cons ru .nil)) ?_, rfl, q⟩
  rw [List.length_append, List.length_singleton]
  omega

def rExtend : V → List V → Hp → VK → Prop := fun x vs H Q => ∃ l b xs zs, x = .ref l ∧ vs = [.ref b] ∧ H l = some (.lst xs) ∧ H b = some (.lst zs) ∧ xs.length + zs.length ≤ sizeLine ∧ Q .non (upd H l (.lst (xs ++ zs)))
theorem mt_extend : MtM X "list.extend" rExtend := by
  intro pins s σ H x vs v us Q I rx rv h
  obtain ⟨l, b, xs, zs, rfl, rfl, hH, hB, hz, q⟩ := h
  cases rx
  obtain ⟨u, rfl, ru⟩ := rv.one
  cases ru
  obtain ⟨z, its, n, r, hl, e⟩ := I.lstM hH
  obtain ⟨z2, its2, n2, r2, hl2, e2⟩ := I.lstM hB
  have hsz : its.toArray.size + its2.toArray.size ≤ sizeLine := by rw [List.size_toArray, List.size_toArray]; omega
  have hlong : ¬ (!its.toArray.isEmpty && Builtin.List.listTooLong (its.toArray.size + its2.toArray.size)) = true := by
    rw [notLongL hsz, Bool.and_false]
    exact Bool.false_ne_true
  refine call_meets F.slot_list_extend ⟨_, e, rfl⟩ F.entry_list_extend (F.args_list_extend_2 _ _)
    (AutoSeq1.list_extend_list_list_0 l its.toArray n b its2.toArray n2 hlong (by rw [List.size_toArray]; omega) (by omega)) ⟨e, e2, ?_⟩
  refine ⟨.non, _, I.lset (its' := its ++ its2) hH e (by simp) (r.append r2) ?_, rfl, q⟩
  rw [List.length_append]
  omega

def rPop : V → List V → Hp → VK → Prop := fun x vs H Q => ∃ l xs y, x = .ref l ∧ vs = [] ∧ H l = some (.lst xs) ∧ xs[xs.length - 1]? = some y ∧ Q y (upd H l (.lst xs.dropLast))
theorem mt_pop : MtM X "list.pop" rPop := by
  intro pins s σ H x vs v us Q I rx rv h
  obtain ⟨l, xs, y, rfl, rfl, hH, hy, q⟩ := h
  cases rx
  have hus := rv.zero
  subst hus
  obtain ⟨z, its, n, r, hl, e⟩ := I.lstM hH
  obtain ⟨u, hu, ru⟩ := r.get hy
  have hy' : its.toArray[its.toArray.size - 1]? = some u := by
    show its.toArray[its.length - 1]? = some u
    rw [← Array.getElem?_toList, ← hl]
    exact hu
  refine call_meets F.slot_list_pop ⟨_, e, rfl⟩ F.entry_list_pop (F.args_list_pop_1 _) (MeetsSeq.list_pop_last l its.toArray n u hy' (by rw [List.size_toArray]; omega)) ⟨e, ?_⟩
  refine ⟨y, _, I.lset (its' := its.dropLast) hH e ?_ r.dropLast ?_, ru, q⟩
  · show its.toArray.eraseIdxIfInBounds (its.toArray.size - 1) = its.dropLast.toArray
    rw [List.size_toArray, List.eraseIdxIfInBounds_toArray, erase_last]
  · rw [List.length_dropLast]
    omega

def rPopAt : V → List V → Hp → VK → Prop := fun x vs H Q => ∃ l xs i k y, x = .ref l ∧ vs = [.int i] ∧ H l = some (.lst xs) ∧ -(2 ^ 63) ≤ i ∧ i < 2 ^ 63 ∧ seqIndex? i xs.length = some k ∧ xs[k]? = some y ∧ Q y (upd H l (.lst (xs.eraseIdx k)))
theorem mt_popAt : MtM X "list.pop" rPopAt := by
  intro pins s σ H x vs v us Q I rx rv h
  obtain ⟨l, xs, i, k, y, rfl, rfl, hH, h1, h2, hk, hy, q⟩ := h
  cases rx
  obtain ⟨u, rfl, ru⟩ := rv.one
  obtain ⟨t, rfl⟩ := ru
  obtain ⟨z, its, n, r, hl, e⟩ := I.lstM hH
  obtain ⟨w, hw, rw'⟩ := r.get hy
  refine call_meets F.slot_list_pop ⟨_, e, rfl⟩ F.entry_list_pop (F.args_list_pop_2 _ _)
    (MeetsSeq.list_pop_at l its.toArray n i t k w (fitsIndex_both h1 h2) (by rw [List.size_toArray, ← hl]; exact hk) (by rw [← Array.getElem?_toList]; exact hw) (by rw [List.size_toArray]; omega)) ⟨e, ?_⟩
  refine ⟨y, _, I.lset (its' := its.eraseIdx k) hH e ?_ (r.eraseIdx k) ?_, rw', q⟩
  · show its.toArray.eraseIdxIfInBounds k = (its.eraseIdx k).toArray
    rw [List.eraseIdxIfInBounds_toArray]
  · have := len_erase xs k
    omega

def rReverse : V → List V → Hp → VK → Prop := fun x vs H Q => ∃ l xs, x = .ref l ∧ vs = [] ∧ H l = some (.lst xs) ∧ Q .non (upd H l (.lst xs.reverse))
theorem mt_reverse : MtM X "list.reverse" rReverse := by
  intro pins s σ H x vs v us Q I rx rv h
  obtain ⟨l, xs, rfl, rfl, hH, q⟩ := h
  cases rx
  have hus := rv.zero
  subst hus
  obtain ⟨z, its, n, r, hl, e⟩ := I.lstM hH
  refine call_meets F.slot_list_reverse ⟨_, e, rfl⟩ F.entry_list_reverse (F.args_list_reverse_1 _) (AutoSeq1.list_reverse_list_0 l its.toArray n (by rw [List.size_toArray]; omega)) ⟨e, ?_⟩
  refine ⟨.non, _, I.lset (its' := its.reverse) hH e (by simp) r.reverse ?_, rfl, q⟩
  rw [List.length_reverse]
  omega

def rClear : V → List V → Hp → VK → Prop := fun x vs H Q => ∃ l xs, x = .ref l ∧ vs = [] ∧ H l = some (.lst xs) ∧ Q .non (upd H l (.lst []))
theorem mt_clear : MtM X "list.clear" rClear := by
  intro pins s σ H x vs v us Q I rx rv h
  obtain ⟨l, xs, rfl, rfl, hH, q⟩ := h
  cases rx
  have hus := rv.zero
  subst hus
  obtain ⟨z, its, n, r, hl, e⟩ := I.lstM hH
  refine call_meets F.slot_list_clear ⟨_, e, rfl⟩ F.entry_list_clear (F.args_list_clear_1 _) (AutoSeq1.list_clear_list_0 l its.toArray n (by rw [List.size_toArray]; omega)) ⟨e, ?_⟩
  exact ⟨.non, _, I.lset (its' := []) (ys := []) hH e rfl .nil (Nat.zero_le _), rfl, q⟩

/-! ### list + list, list += list, list * int -/
def rCat : R2 := fun x y H Q => ∃ l b xs zs, x = .ref l ∧ y = .ref b ∧ H l = some (.lst xs) ∧ H b = some (.lst zs) ∧ xs.length + zs.length ≤ sizeLine ∧ ∀ p, H p = none → Q (.ref p) (upd H p (.lst (xs ++ zs)))
theorem op_cat : OpR X (binaryOp .Add) rCat := by
  intro pins s σ H x y v u Q I rx ry h
  obtain ⟨l, b, xs, zs, rfl, rfl, hH, hB, hz, q⟩ := h
  cases rx
  cases ry
  obtain ⟨z, its, n, r, hl, e⟩ := I.lstM hH
  obtain ⟨z2, its2, n2, r2, hl2, e2⟩ := I.lstM hB
  refine PySem.P.add_list e e2 ?_ (by rw [List.size_toArray, List.size_toArray]; omega)
  have ea : its.toArray ++ its2.toArray = (its ++ its2).toArray := by simp
  rw [ea]
  exact ⟨.ref _, _, I.lnew (t' := s.toks) (r.append r2) (by rw [List.length_append]; omega), rfl, q _ I.fresh⟩
/-- a list times an int (a negative one is nothing) -/
def rRep : R2 := fun x y H Q => ∃ l k xs, x = .ref l ∧ y = .int k ∧ H l = some (.lst xs) ∧ -(2 ^ 63) ≤ k ∧ k < 2 ^ 63 ∧ xs.length * k.toNat ≤ sizeLine ∧
  ∀ p, H p = none → Q (.ref p) (upd H p (.lst (List.replicate k.toNat xs).flatten))
theorem len_rep {α : Type} (xs : List α) (k : Nat) : (List.replicate k xs).flatten.length = k * xs.length := by
  induction k with
  | zero => simp
  | succ k ih => rw [List.replicate_succ, List.flatten_cons, List.length_append, ih, Nat.succ_mul, Nat.add_comm]
theorem op_rep : OpR X (binaryOp .Mult) rRep := by
  intro pins s σ H x y v u Q I rx ry h
  obtain ⟨l, k, xs, rfl, rfl, hH, h1, h2, hz, q⟩ := h
  cases rx
  obtain ⟨t, rfl⟩ := ry
  obtain ⟨z, its, n, r, hl, e⟩ := I.lstM hH
  have hlen : its.toArray.size * k.toNat ≤ sizeLine := by rw [List.size_toArray, ← hl]; exact hz
  have hcap : ¬ its.toArray.size * k.toNat > (2 ^ 63 - 1) / 8 := by
    have : (sizeLine : Nat) ≤ (2 ^ 63 - 1) / 8 := by decide
    omega
  have hfit : ¬ (!Builtin.List.listFitsIndex k) = true := by
    rw [fitsIndex_both h1 h2]
    exact Bool.false_ne_true
  have hlong : ¬ Builtin.List.listTooLong (its.toArray.size * k.toNat) = true := by
    rw [notLongL hlen]
    exact Bool.false_ne_true
  have hnew : List.foldl (fun x1 x2 => x1 ++ x2) #[] (List.replicate (if its.toArray.isEmpty = true then 0 else k.toNat) its.toArray) = (List.replicate k.toNat its).flatten.toArray := by
    have f0 : ∀ m : Nat, List.foldl (fun x1 x2 => x1 ++ x2) #[] (List.replicate m its.toArray) = (List.replicate m its).flatten.toArray := fun m => by
      have := foldl_rep its m []
      rw [List.nil_append] at this
      exact this
    rw [f0]
    cases its with
    | nil => simp
    | cons a r' => rw [if_neg (by simp)]
  refine wpAny_binaryOp_repeat_ref (T := "list") (U := "int") (by decide) ⟨_, e, rfl⟩ (fun s' => typeIs_int s' k t) noFill_list_mul F.fills_int_mul F.slot_int_rmul repeat_list F.slot_int_index.lookup
    (call_meets F.slot_int_rmul (typeIs_int s k t) F.entry_int_rmul (F.args_int_rmul_2 _ _) (int___rmul___int_list k t l its.toArray n)
      ⟨e, rfl, ⟨_, e, rfl⟩, call_meets F.slot_list_mul ⟨_, e, rfl⟩ F.entry_list_mul (F.args_list_mul_2 _ _) (AutoListH.list___mul___list_int_3 l its.toArray n k t hfit hcap hlong) ⟨e, ?_⟩⟩)
  rw [hnew]
  exact ⟨.ref _, _, I.lnew (t' := s.toks) (r.rep k.toNat) (by rw [len_rep, Nat.mul_comm]; exact hz), rfl, q _ I.fresh⟩

/-! ### del xs[i] -/
theorem del_list {pins : List (Addr × Obj)} {s : Shared} {σ : St} {H : Hp} {l : Addr} {xs : List V} {i : Int} {t : Tok} {k : Nat} {Q : Unit → Shared → Prop} (I : Inv X pins σ H s) (hH : H l = some (.lst xs))
    (h1 : -(2 ^ 63) ≤ i) (h2 : i < 2 ^ 63) (hk : seqIndex? i xs.length = some k) (h : ∀ s', Inv X pins σ (upd H l (.lst (xs.eraseIdx k))) s' → Q () s') :
    wpAny (model X.prog X.w) X.A (delItem (.ref l) (.int i t)) Q X.xe s := by
  obtain ⟨z, its, n, r, hl, e⟩ := I.lstM hH
  refine PySem.P.delItem_list (k := k) e (fitsIndex_both h1 h2) (by rw [List.size_toArray, ← hl]; exact hk) (h _ ?_) (by rw [List.size_toArray]; omega)
  refine I.lset (its' := its.eraseIdx k) (t' := s.toks) hH e ?_ (r.eraseIdx k) ?_
  · show its.toArray.eraseIdxIfInBounds k = (its.eraseIdx k).toArray
    rw [List.eraseIdxIfInBounds_toArray]
  · have := len_erase xs k
    omega
end

/-! ### xs[a:b] = ys -/
section
variable {prog : Program} {w : World} {A : Around} {E : Value → Shared → Prop} {s : Shared}
theorem splice_eq (its its2 : List Value) (a c : Nat) : its.toArray.extract 0 a ++ its2.toArray ++ its.toArray.extract c its.toArray.size = (its.take a ++ its2 ++ its.drop c).toArray := by
  apply Array.toList_inj.mp
  first
    | (simp
       exact List.take_of_length_le (by simp))
    | simp [List.take_of_length_le]
    | simp
theorem bounds_run {a c n : Nat} (hac : a ≤ c) (hc : c ≤ n) : sliceBounds (some (a : Int)) (some (c : Int)) none n = ((a : Int), (c : Int), 1) := by
  simp only [sliceBounds, Option.getD_none]
  have h1 : ¬ ((a : Int) < 0) := by omega
  have h2 : ¬ ((c : Int) < 0) := by omega
  simp only [h1, h2, if_false, show (1 : Int) > 0 by decide, if_true]
  congr 1
  · omega
  · congr 1; omega
set_option maxRecDepth 100000 in
/-- list.__setitem__ with a slice of step one and another list -/
theorem setItem_slice {l b sl : Addr} {items new : Array Value} {n n2 : Nat} {vl vu : Value} {a c : Nat} {Q : Unit → Shared → Prop}
    (e : s.heap.get? l = some { cls := .type "list", data := .seq items n }) (e2 : s.heap.get? b = some { cls := .type "list", data := .seq new n2 }) (hne : l ≠ b)
    (hs : s.heap.IsSliceOf sl vl vu .none) (pl : IsPart vl (some (a : Int))) (pu : IsPart vu (some (c : Int))) (hac : a ≤ c) (hc : c ≤ items.size)
    (hsz : items.size + new.size ≤ sizeLine) (h : Q () { s with heap := s.heap.update l (Obj.mapSeq fun xs => xs.extract 0 a ++ new ++ xs.extract c xs.size) }) :
    wpAny (model prog w) A (setItem (.ref l) (.ref sl) (.ref b)) Q E s := by
  have hl : s.heap.IsList l items := PySem.IsL.isList e
  have hb : s.heap.IsList b new := PySem.IsL.isList e2
  obtain ⟨os, hos, hcs, hds⟩ := id hs
  have hTs : s.TypeIs (.ref sl) "slice" := ⟨os, hos, hcs⟩
  have hstep : ¬ ((rawPart none == rawInt 0) = true) := Bool.false_ne_true
  have hsame : Builtin.List.listSameRef (.ref l) (.ref b) = false := by
    unfold Builtin.List.listSameRef
    exact beq_eq_false_iff_ne.mpr hne
  have hmax : (max (a : Int) (c : Int)).toNat = c := by omega
  have hz' : ((fun xs : Array Value => xs.extract 0 a ++ new ++ xs.extract c xs.size) items).size ≤ sizeLine + 1 := by
    simp only [Array.size_append, Array.size_extract]
    omega
  unfold setItem
  try with_reducible refine wpAny_holding ?_
  first | refine wpAny_bind (wpAny_pure ?_) | skip
  refine wpAny_bind (wpAny_sequenceKey hl.typeIs (by decide) ?_)
  refine wpAny_bind (wpAny_callSpecial?_slot (name := Str.ofString "__setitem__") hl.typeIs slot_list_setitem
    (wpAny_call_entry slot_list_setitem hl.typeIs entry_list_setitem ?_ (args_list_setitem _ _ _)))
  show wpAny _ _ (Builtin.List.listSubscript? (.ref sl) >>= _) _ _ s
  refine wpAny_bind ?_
  unfold Builtin.List.listSubscript?
  refine wpAny_bind (wpAny_specialOf hTs slice_no_index ?_)
  simp only [Option.isNone_none, if_true]
  refine wpAny_pure ?_
  show wpAny _ _ (typeOf (.ref sl) >>= _) _ _ s
  refine wpAny_bind (wpAny_typeOf hTs ?_)
  first
    | rw [if_neg (by decide)]
    | refine PySem.W.KFB.if_not (by decide) ?_
  rw [listSliceParts_eq]
  refine wpAny_bind (wpAny_bind (wpAny_field hos hds (x := .none) rfl (wpAny_bind (wpAny_listPart .none ?_))))
  rw [if_neg hstep]
  refine wpAny_bind (wpAny_field hos hds (x := vl) rfl (wpAny_bind (wpAny_listPart pl ?_)))
  refine wpAny_bind (wpAny_field hos hds (x := vu) rfl (wpAny_bind (wpAny_listPart pu (wpAny_pure ?_))))
  first
    | simp only [hsame, Bool.false_eq_true, if_false]
    | refine PySem.W.KFB.if_not hsame ?_
    | (dsimp only
       rw [if_neg (by rw [hsame]; exact Bool.false_ne_true)])
  refine wpAny_bind (m := Builtin.List.listAllItems (.ref b) "must assign iterable to extended slice") ?_
  unfold Builtin.List.listAllItems
  refine wpAny_bind (wpAny_typeOf hb.typeIs ?_)
  first
    | refine PySem.W.KFB.if_so (by decide) ?_
    | rw [if_pos (by decide)]
    | simp only [beq_self_eq_true, Bool.true_or, if_true]
  unfold Builtin.List.listItems
  refine wpAny_bind (wpAny_seqItems e2 rfl (wpAny_pure ?_))
  refine wpAny_bind (wpAny_bind (wpAny_seqItems e rfl (wpAny_pure ?_)))
  refine wpAny_bind (wpAny_of_eq ((sliceIndices_raw (some (a : Int)) (some (c : Int)) none items.size (by simp)).trans (congrArg (pure : Int × Int × Int → Sem (Int × Int × Int)) (bounds_run hac hc))) ?_)
  show wpAny _ _ (if ((1 : Int) == 1) = true then _ else _) _ _ s
  rw [if_pos (by decide)]
  refine wpAny_bind (wpAny_rule ?_)
  first
    | simp only [notLongL hsz, Bool.false_eq_true, if_false]
    | refine PySem.W.KFB.if_not (notLongL hsz) ?_
  first | refine wpAny_bind (wpAny_pure ?_) | skip
  show wpAny _ _ (updateSeq l (fun xs => xs.extract 0 ((a : Int)).toNat ++ new ++ xs.extract (max (a : Int) (c : Int)).toNat xs.size) >>= _) _ _ s
  rw [hmax, Int.toNat_natCast]
  refine wpAny_bind (wpAny_updateSeq (hz := Nat.le_trans (Nat.le_add_right _ _) hsz) (_hz' := hz') e rfl ?_)
  refine wpAny_bind (wpAny_letGo ?_)
  first
    | exact wpAny_bind (wpAny_pure (wpAny_pure ⟨.none, rfl, wpAny_pure h⟩))
    | exact wpAny_pure ⟨.none, rfl, wpAny_pure h⟩
end

section
variable {X : Cx}
/-- xs[a:c] = ys of another list, at the value level: sl is the slice object that was just made -/
theorem set_slice {pins : List (Addr × Obj)} {s : Shared} {σ : St} {H : Hp} {l b sl : Addr} {xs ys : List V} {a c : Int} {vl vu : Value} {Q : Unit → Shared → Prop} (I : Inv X pins σ H s)
    (hH : H l = some (.lst xs)) (hB : H b = some (.lst ys)) (hne : l ≠ b) (hs : s.heap.IsSliceOf sl vl vu .none) (ra : RelV (.int a) vl) (rc : RelV (.int c) vu) (h0 : 0 ≤ a) (hac : a ≤ c) (hc : c ≤ xs.length)
    (hz : xs.length + ys.length ≤ sizeLine) (h : ∀ s', Inv X pins σ (upd H l (.lst (xs.take a.toNat ++ ys ++ xs.drop c.toNat))) s' → Q () s') :
    wpAny (model X.prog X.w) X.A (setItem (.ref l) (.ref sl) (.ref b)) Q X.xe s := by
  obtain ⟨ta, rfl⟩ := ra
  obtain ⟨tc, rfl⟩ := rc
  obtain ⟨z, its, n, r, hl, e⟩ := I.lstM hH
  obtain ⟨z2, its2, n2, r2, hl2, e2⟩ := I.lstM hB
  obtain ⟨a', rfl⟩ := Int.eq_ofNat_of_zero_le h0
  obtain ⟨c', rfl⟩ := Int.eq_ofNat_of_zero_le (Int.le_trans h0 hac)
  simp only [Int.toNat_natCast] at h
  refine setItem_slice (a := a') (c := c') e e2 hne hs (.int _ _) (.int _ _) (by omega) (by rw [List.size_toArray]; omega) (by rw [List.size_toArray, List.size_toArray]; omega) (h _ ?_)
  refine I.lset (its' := its.take a' ++ its2 ++ its.drop c') (t' := s.toks) hH e ?_ (Vals.append (Vals.append (r.take _) r2) (r.drop _)) ?_
  · exact splice_eq its its2 a' c'
  · rw [List.length_append, List.length_append, List.length_take, List.length_drop]
    omega
end
end L2

namespace Att
open PySem PySem.W PySem.Calls PyProof.Rows

/-! ### the script -/
theorem ints_of_wellAll {P : Params} {h : Heap} : ∀ (ns : List Int) (vs : List Value), WellAll P h vs (ns.map WData.int) → IntsAre vs ns := by
  intro ns
  induction ns with
  | nil =>
    intro vs w
    rw [List.map_nil] at w
    cases w
    exact .nil
  | cons n ns ih =>
    intro vs w
    rw [List.map_cons] at w
    cases w with
    | cons a b =>
      cases a
      exact .cons _ _ (ih _ b)

theorem script_of {l : OpenLaw} {n : Nat} (hn : l.most = some n) {P : Params} {h : Heap} {args : List WData} {vals : List Value}
    (hpre : l.row.toRowW.claim.pre args = true) (hwl : WellAll P h vals args) :
    ∃ a vs ns, vals = [Value.ref a] ∧ args = [WData.list (ns.map WData.int)] ∧ h.get? a = some { cls := .type "list", data := .seq vs.toArray } ∧ IntsAre vs ns ∧ ns.length ≤ n := by
  have hsh : WShape.hasAll [] args [.list .int] = true := (pre_splitW hpre).1
  have hc : l.pre.holds [] { args := args } = true := (pre_splitW hpre).2
  obtain ⟨d, r, rfl, h1, h2⟩ := hasAllW_cons hsh
  obtain rfl := hasAllW_nil h2
  obtain ⟨xs, rfl, h3⟩ := hasW_list h1
  obtain ⟨ns, rfl⟩ := items_int h3
  have hlen : ns.length ≤ n := by
    unfold OpenLaw.pre at hc
    have h4 : (WTm.not (.lt (.lit (.int (n : Int))) (.len (.arg 0)))).holds [] { args := [.list (ns.map .int)] } = true := by
      have h4 := (holds_andW hc).1
      rw [hn] at h4
      exact h4
    have h5 := condW_of h4 (w_not (w_lt w_lit (w_len_list (w_arg rfl))))
    rw [List.length_map] at h5
    refine Nat.le_of_not_lt fun q => ?_
    have q' : (n : Int) < ((ns.length : Nat) : Int) := by omega
    first
      | (rw [decide_eq_true q'] at h5; exact absurd h5 (by decide))
      | (simp at h5; omega)
  cases hwl with
  | cons w1 w2 =>
    cases w2
    cases w1 with
    | list ho hall => exact ⟨_, _, ns, rfl, rfl, ho, ints_of_wellAll ns _ hall, hlen⟩

theorem post_true (l : OpenLaw) (args : List WData) : l.row.toRowW.claim.post args (.bool true) args = true :=
  postW_of (r := l.row.toRowW) (X := (true == true))
    (show WShape.has [] (.bool true) .bool = true by first | rfl | decide | simp [WShape.has, WShape.arms, WShape.armsAll])
    (show (WTm.eq .res (.lit (.bool true))).value [] { args := args, res := some (.bool true), after := args } = some (.bool (true == true)) from w_eq_bool (w_res rfl) w_lit) rfl

/-! ### the attachment: holds_open's last premise (the goal 'hc' behind k_head) from a wpAny of the law's body -/
theorem attach {l : OpenLaw} {n : Nat} {q : Program} {loose : List Str} {XP : (Str → Option Value) → Heap → Prop} {YP : World → Heap → Prop} {d : DefRec} {x : Str}
    (hn : l.most = some n) (hdf : d.params.defaults = [])
    (hbind : ∀ pm cd doc v : Value, bindArgs (docDef d.name d.params d.body d.scope pm cd doc) ⟨[v], []⟩ = pure [(x, v)])
    (hx : d.scope.names.lookup x = some .local ∨ d.scope.names.lookup x = some .cell)
    (hk : d.scope.kind = .function) (hco : d.scope.isCoroutine = false) (hgen : d.scope.isGenerator = false)
    (body : ∀ (w : World) (s₀ s₁ s : Shared) (mg mb : Str → Option Value) (fa : Addr) (o : Obj) (pm cd doc : Value) (a : Addr) (vs : List Value) (ns : List Int),
      Ground q loose [] XP w s₀ mg mb s₁.heap → YP w s₁.heap →
      s₁.heap.get? fa = some o → o.data = .func (docDef d.name d.params d.body d.scope pm cd doc) → s₁.heap.CodeRec cd d.name → mg d.name = some (.ref fa) →
      s₁.heap.get? a = some { cls := .type "list", data := .seq vs.toArray } → IntsAre vs ns → ns.length ≤ n →
      s.gens = #[] → s.os = s₁.os →
      Fr s₁.heap s₁.heap.objs.size s.heap (bindL (envOfC d.name d.scope s₁.heap.objs.size fa cd).kindOf [(x, .ref a)] fun _ => none) →
      Cl s₁.heap.objs.size (cellsFrom (s₁.heap.objs.size + 1) d.scope.names []) s.heap (bindC (envOfC d.name d.scope s₁.heap.objs.size fa cd).kindOf [(x, .ref a)] fun _ => none) →
      wpAny (model l.prog w) (callerA.deeper (envOfC d.name d.scope s₁.heap.objs.size fa cd)) (execs d.body (envOfC d.name d.scope s₁.heap.objs.size fa cd))
        (fun f s' => f = .ret (.bool true) ∧ OldK s₁.heap s'.heap ∧ s'.os = s₁.os ∧ AllBare s'.gens) (fun _ _ => False) s) :
    WalkO q loose XP YP l.row.toRowW d [] (fun f vs => PySem.call f vs) := by
  intro w s₀ s₁ mg mb G Y fa o pm cd doc dV kV ho hd hcd hD hmg hg args vals as hpre hlay hrd hwl hlo
  obtain rfl : dV = .none := Dflts.none hD hdf
  obtain rfl : kV = .none := Dflts.noKw hD
  obtain ⟨a, vs, ns, rfl, rfl, hobj, hints, hlen⟩ := script_of hn hpre hwl
  refine enter_call ?_
  refine call_cells_ret (o := o) (by rw [depth_caller]; decide) ho (fd_plain hd) G.T.nolimit hcd (hbind pm cd doc (.ref a)) (fun y hy => ?_) (fun h₁ tk F X => ?_) hco hgen hk
  · obtain rfl : y = (x, Value.ref a) := List.mem_singleton.mp hy
    rcases hx with e | e
    · exact .inl e
    · exact .inr ⟨e, cellsFrom_some _ _ _ (.inl e)⟩
  · refine wpAny_mono (body w s₀ s₁ { s₁ with heap := h₁, toks := tk } mg mb fa o pm cd doc a vs ns G Y ho (fd_plain hd) hcd hmg hobj hints hlen hg rfl F X) (fun f s' hq => ?_) (fun _ _ hq => hq)
    obtain ⟨rfl, h2, h3, h4⟩ := hq
    exact ⟨.inl ⟨.bool true, .bool true, [], rfl, fun _ => rfl, .bool true, post_true l _, fun _ => ⟨List.Pairwise.nil, fun _ hm => (nomatch hm)⟩⟩, h2, h3, h4⟩

/-- the same from a codeAny of the CALL (for a layer whose function contracts speak of calls) -/
theorem attach_call {l : OpenLaw} {n : Nat} {q : Program} {loose : List Str} {XP : (Str → Option Value) → Heap → Prop} {YP : World → Heap → Prop} {d : DefRec}
    (hn : l.most = some n) (hdf : d.params.defaults = [])
    (call : ∀ (w : World) (s₀ s₁ : Shared) (mg mb : Str → Option Value) (fa : Addr) (o : Obj) (pm cd doc : Value) (a : Addr) (vs : List Value) (ns : List Int),
      Ground q loose [] XP w s₀ mg mb s₁.heap → YP w s₁.heap →
      s₁.heap.get? fa = some o → o.data = .func (docDef d.name d.params d.body d.scope pm cd doc) → s₁.heap.CodeRec cd d.name → mg d.name = some (.ref fa) →
      s₁.heap.get? a = some { cls := .type "list", data := .seq vs.toArray } → IntsAre vs ns → ns.length ≤ n → s₁.gens = #[] →
      codeAny (model l.prog w) callerA (.call (.ref fa) ⟨[.ref a], []⟩) (fun r s' => r = .ok (.ret (.bool true)) ∧ OldK s₁.heap s'.heap ∧ s'.os = s₁.os ∧ AllBare s'.gens) s₁) :
    WalkO q loose XP YP l.row.toRowW d [] (fun f vs => PySem.call f vs) := by
  intro w s₀ s₁ mg mb G Y fa o pm cd doc dV kV ho hd hcd hD hmg hg args vals as hpre hlay hrd hwl hlo
  obtain rfl : dV = .none := Dflts.none hD hdf
  obtain rfl : kV = .none := Dflts.noKw hD
  obtain ⟨a, vs, ns, rfl, rfl, hobj, hints, hlen⟩ := script_of hn hpre hwl
  refine enter_call (codeAny_mono (call w s₀ s₁ mg mb fa o pm cd doc a vs ns G Y ho (fd_plain hd) hcd hmg hobj hints hlen hg) fun r s' hq => ?_)
  obtain ⟨rfl, h2, h3, h4⟩ := hq
  exact ⟨.inl ⟨.bool true, .bool true, [], rfl, fun _ => rfl, .bool true, post_true l _, fun _ => ⟨List.Pairwise.nil, fun _ hm => (nomatch hm)⟩⟩, h2, h3, h4⟩

/-- the same where the top left finished generators (o_head chose holds_openN): nothing may have changed at all and no generator may be left -/
theorem attachN {l : OpenLaw} {n : Nat} {q : Program} {loose : List Str} {XP : (Str → Option Value) → Heap → Prop} {YP : World → Heap → Prop} {d : DefRec} {x : Str}
    (hn : l.most = some n) (hdf : d.params.defaults = [])
    (hbind : ∀ pm cd doc v : Value, bindArgs (docDef d.name d.params d.body d.scope pm cd doc) ⟨[v], []⟩ = pure [(x, v)])
    (hx : d.scope.names.lookup x = some .local ∨ d.scope.names.lookup x = some .cell)
    (hk : d.scope.kind = .function) (hco : d.scope.isCoroutine = false) (hgen : d.scope.isGenerator = false)
    (body : ∀ (w : World) (s₀ s₁ s : Shared) (mg mb : Str → Option Value) (fa : Addr) (o : Obj) (pm cd doc : Value) (a : Addr) (vs : List Value) (ns : List Int),
      Ground q loose [] XP w s₀ mg mb s₁.heap → YP w s₁.heap →
      s₁.heap.get? fa = some o → o.data = .func (docDef d.name d.params d.body d.scope pm cd doc) → s₁.heap.CodeRec cd d.name → mg d.name = some (.ref fa) →
      s₁.heap.get? a = some { cls := .type "list", data := .seq vs.toArray } → IntsAre vs ns → ns.length ≤ n →
      s.gens = #[] → s.os = s₁.os →
      Fr s₁.heap s₁.heap.objs.size s.heap (bindL (envOfC d.name d.scope s₁.heap.objs.size fa cd).kindOf [(x, .ref a)] fun _ => none) →
      Cl s₁.heap.objs.size (cellsFrom (s₁.heap.objs.size + 1) d.scope.names []) s.heap (bindC (envOfC d.name d.scope s₁.heap.objs.size fa cd).kindOf [(x, .ref a)] fun _ => none) →
      wpAny (model l.prog w) (callerA.deeper (envOfC d.name d.scope s₁.heap.objs.size fa cd)) (execs d.body (envOfC d.name d.scope s₁.heap.objs.size fa cd))
        (fun f s' => f = .ret (.bool true) ∧ (∀ b o, s₁.heap.get? b = some o → s'.heap.get? b = some o) ∧ s'.os = s₁.os ∧ s'.gens = #[]) (fun _ _ => False) s) :
    WalkN q loose XP YP l.row.toRowW d [] (fun f vs => PySem.call f vs) := by
  intro w s₀ s₁ mg mb G Y fa o pm cd doc dV kV ho hd hcd hD hmg hg args vals as hpre hlay hrd hwl hlo
  obtain rfl : dV = .none := Dflts.none hD hdf
  obtain rfl : kV = .none := Dflts.noKw hD
  obtain ⟨a, vs, ns, rfl, rfl, hobj, hints, hlen⟩ := script_of hn hpre hwl
  refine enter_callW ?_
  refine call_cells_ret (o := o) (by rw [depth_caller]; decide) ho (fd_plain hd) G.T.nolimit hcd (hbind pm cd doc (.ref a)) (fun y hy => ?_) (fun h₁ tk F X => ?_) hco hgen hk
  · obtain rfl : y = (x, Value.ref a) := List.mem_singleton.mp hy
    rcases hx with e | e
    · exact .inl e
    · exact .inr ⟨e, cellsFrom_some _ _ _ (.inl e)⟩
  · refine wpAny_mono (body w s₀ s₁ { s₁ with heap := h₁, toks := tk } mg mb fa o pm cd doc a vs ns G Y ho (fd_plain hd) hcd hmg hobj hints hlen hg rfl F X) (fun f s' hq => ?_) (fun _ _ hq => hq)
    obtain ⟨rfl, h2, h3, h4⟩ := hq
    exact ⟨.inl ⟨.bool true, .bool true, [], rfl, fun _ => rfl, .bool true, post_true l _, fun _ => ⟨List.Pairwise.nil, fun _ hm => (nomatch hm)⟩⟩, h2, h3, h4⟩

/-! ### rules over ANY heap (no ledger) from facts about the written part K: the library's own take a ledger (News) for what they write -/
section
variable {prog : Program} {w : World} {A : Around} {E : Value → Shared → Prop} {s : Shared} {K : Frag}

/-- a def of the module, or a method (qual 'C.m'), entered: the frame is the next address; cells behind it -/
theorem call_fn {R : Result → Shared → Prop} {name qual : Str} {params : Arguments} {body : List Stmt} {scope : Scope} {dV kV doc pm cdv ct oc : Value} {an od : Option Addr} {osl : Array (Option Value)} {f : Addr} {args : Args} {binds : List (Str × Value)}
    (X : K.In s.heap) (hlim : s.heap.NoLimit) (ho : K.lookup f = some ⟨oc, od, .func (fnOf name qual params body scope dV kV doc pm an cdv ct), osl⟩) (hcd : codeIn K cdv qual = true) (hroom : A.depth < recursionLimit)
    (hbind : BindsTo s (fnOf name qual params body scope dV kV doc pm an cdv ct) args binds)
    (hkind : (binds.all fun y => scope.names.lookup y.1 == some .local || scope.names.lookup y.1 == some .cell) = true)
    (h : ∀ s₁, InCallC s s.heap.objs.size (bindL (envOfC qual scope s.heap.objs.size f cdv).kindOf binds fun _ => none) (cellsFrom (s.heap.objs.size + 1) scope.names [])
        (bindC (envOfC qual scope s.heap.objs.size f cdv).kindOf binds fun _ => none) s₁ →
      wpAny (model prog w) (A.deeper (envOfC qual scope s.heap.objs.size f cdv)) (execs body (envOfC qual scope s.heap.objs.size f cdv))
        (fun fl s' => R (.ok (.ret (match fl with | .ret v => v | _ => .none))) s')
        (fun e s' => wpAny (model prog w) (A.deeper (envOfC qual scope s.heap.objs.size f cdv)) (leaving (envOfC qual scope s.heap.objs.size f cdv) e) (fun _ s'' => R (.error e) s'') (fun e' s'' => R (.error e') s'') s') s₁)
    (hco : scope.isCoroutine = false) (hgen : scope.isGenerator = false) (hk : scope.kind = .function) : codeAny (model prog w) A (.call (.ref f) args) R s := by
  refine codeAny_call_function hroom (X _ _ ho) rfl hco hgen rfl (codeRec_of X hcd) (hbind _ _ _ _ ?_)
  refine wpAny_newFunctionEnv_cells hk (kindsX hkind _) fun env he s₁ x => ?_
  subst he
  exact ⟨hlim.keeps x.toInCall.keep, codeAny_func (h s₁ x)⟩

/-- C(..): dict at size, instance at size + 1, then __init__ -/
theorem make_obj {R : Result → Shared → Prop} {C fI : Addr} {rest : List Value} {kw : List (Str × Value)}
    (X : K.In s.heap) (hm : makesIn K C = true) (hi : findIn K (.ref C) "__init__" = some (some (.ref fI))) (hf : isFn K (.ref fI) = true)
    (h : codeAny (model prog w) (A.under (.builtin "type.__call__" ⟨.ref C :: rest, kw⟩)) (.call (.ref fI) ⟨.ref (s.heap.objs.size + 1) :: rest, kw⟩) (InitBack (s.heap.objs.size + 1) R)
      { s with heap := (s.heap.push emptyDict).push (instObj C s.heap.objs.size) }) : codeAny (model prog w) A (.call (.ref C) ⟨rest, kw⟩) R s := by
  obtain ⟨hh, g, d, t, os⟩ := s
  exact make_core (makes_of X hm) (looks_findIn X hi) (fun self => bind_fn X self (beq_iff_eq.mp hf)) (.inl rfl) h

/-- x.name where the instance's dict holds the name and the class does not -/
theorem get_field {x C : Addr} {ox : Obj} {es : List DictEntry} {n : Nat} {name : Str} {expr : Bool} {v : Value} {Q : Value → Shared → Prop}
    (X : K.In s.heap) (I : PySem.W.InstAt s.heap x ox C (some (dictOf es n))) (hg : plainGet K C name = true) (hh : hasDictIn K C = true) (ha : findIn K (.ref C) name = some none)
    (hl : getL name es = some (some v)) (hv : handedIn v = true) (h : Q v { s with toks := s.toks + 1 }) : wpAny (model prog w) A (getAttr (.ref x) name expr) Q E s :=
  get_value X I (plainGet_of hg).1 (findObj_own hh ha rfl hl) hv h

/-- x.m(..): the method found in the class -/
theorem get_method {x C f : Addr} {ox : Obj} {es : List DictEntry} {n : Nat} {name : Str} {pl : Sem Bool} {Q : Value × List Value → Shared → Prop}
    (X : K.In s.heap) (I : PySem.W.InstAt s.heap x ox C (some (dictOf es n))) (hg : plainGet K C name = true) (hf : findIn K (.ref C) name = some (some (.ref f))) (ht : isFn K (.ref f) = true)
    (hl : getL name es = some none) (h : Q (.ref f, [.ref x]) s) : wpAny (model prog w) A (getMethod (.ref x) name pl) Q E s :=
  method_fn X I (plainGet_of hg).1 (plainGet_of hg).2 hf (beq_iff_eq.mp ht) (by show (lookIn name (dictOf es n)).map _ = _; rw [lookIn_dict, hl]; rfl) h

/-! the whole heap as the ledger: makes every rule that writes through a ledger a rule over any heap -/
def noObjs (h : Heap) : Heap := { h with objs := #[] }
theorem noObjs_get (h : Heap) (b : Addr) : (noObjs h).get? b = none := by
  cases e : (noObjs h).get? b with
  | none => rfl
  | some o => exact absurd (Heap.lt_size e) (Nat.not_lt_zero _)
def ledger (h : Heap) (L d : Addr) : List (Addr × Obj) := (List.range h.objs.size).filterMap fun a => if a = L ∨ a = d then none else (h.get? a).map fun o => (a, o)
theorem mem_ledger {h : Heap} {L d a : Addr} {o : Obj} : (a, o) ∈ ledger h L d ↔ a ≠ L ∧ a ≠ d ∧ h.get? a = some o := by
  unfold ledger
  rw [List.mem_filterMap]
  constructor
  · rintro ⟨b, _, e⟩
    split at e
    · cases e
    · rename_i hb
      obtain ⟨o', ho, e'⟩ := Option.map_eq_some_iff.mp e
      cases e'
      exact ⟨fun q => hb (.inl q), fun q => hb (.inr q), ho⟩
  · rintro ⟨n1, n2, ho⟩
    refine ⟨a, List.mem_range.mpr (Heap.lt_size ho), ?_⟩
    rw [if_neg (show ¬ (a = L ∨ a = d) from fun q => q.elim n1 n2), ho] <;> rfl
theorem news_ledger {h : Heap} {L d : Addr} {od : Obj} (hne : d ≠ L) (ho : h.get? d = some od) : News (noObjs h) L h ([] ++ (d, od) :: ledger h L d) := by
  rintro ⟨a, o⟩ hp
  rcases List.mem_cons.mp hp with e | hp
  · cases e
    exact ⟨ho, hne, noObjs_get _ _⟩
  · obtain ⟨n1, n2, e⟩ := mem_ledger.mp hp
    exact ⟨e, n1, noObjs_get _ _⟩
theorem fr_all {h : Heap} {L : Addr} {m : Str → Option Value} (n : h.Ns L m) : Fr (noObjs h) L h m :=
  ⟨n, fun b o e => (by rw [noObjs_get] at e; cases e), Nat.zero_le _⟩
/-- Upd of the head entry (for append_K, setItem_K ..) -/
theorem upd_ledger {h : Heap} {L d : Addr} {o o' : Obj} : Upd d o o' ((d, o) :: ledger h L d) ((d, o') :: ledger h L d) :=
  .head fun ⟨_, _⟩ hp => (mem_ledger.mp hp).2.1

/-- x.name = v over any heap: L is any namespace of the heap (the frame's, say): its map stays, its object is not told; all else but the dict stays -/
theorem set_field {x C dx L : Addr} {ox : Obj} {m : Str → Option Value} {es es' : List DictEntry} {n n' : Nat} {name : Str} {v : Value} {Q : Unit → Shared → Prop}
    (X : K.In s.heap) (I : PySem.W.InstAt s.heap x ox C (some (dictOf es n))) (hd : ox.dict = some dx) (hL : s.heap.Ns L m) (hne : dx ≠ L)
    (hs : findIn K (.ref C) "__setattr__" = some (some (.builtin "object.__setattr__"))) (hp : plainOver K C = true) (ht : takerIn K C name = some none) (hh : hasDictIn K C = true) (hl : (getL name es).isSome = true)
    (e : (putL name (PyData.keyHash w.params name) (.str name (s.toks + 1)) v es, putN name es n) = (es', n')) (hz : es'.length ≤ 1000)
    (h : ∀ h' : Heap, h'.Ns L m → h'.get? dx = some (dictOf es' n') → (∀ b o, b ≠ dx → b ≠ L → s.heap.get? b = some o → h'.get? b = some o) → Q () { s with heap := h', toks := s.toks + 2 }) :
    wpAny (model prog w) A (setAttr (.ref x) name v) Q E s := by
  obtain ⟨e1, e2⟩ := Prod.mk.inj e
  have hdx : s.heap.get? dx = some (dictOf es n) := by
    have := I.dict
    rw [hd] at this
    exact this
  refine set_plain X I hs (osa_dict (s := { s with toks := s.toks + 1 }) (h₀ := noObjs s.heap) (L := L) (m := m) (od := dictOf es n) (od' := dictOf es' n') (es := es') (n := n') (pre := []) (post := ledger s.heap L dx)
    (fr_all hL) (news_ledger hne hdx) X I hd hp ht hh hl (fun _ q => nomatch q) (fun ⟨_, _⟩ q => (mem_ledger.mp q).2.1) (by rw [putName_dict, e1, e2]) rfl hz fun h' F' N' => ?_)
  exact h h' F'.ns (N'.get (List.Mem.head _)) fun b o n1 n2 ho => N'.get (List.Mem.tail _ (mem_ledger.mpr ⟨n2, n1, ho⟩))
end
end Att

namespace L2
open PySem PySem.Spec PyProof.Rows

theorem vals_ints : ∀ {vs : List Value} {ns : List Int}, IntsAre vs ns → Vals (ns.map V.int) vs
  | _, _, .nil => .nil
  | _, _, .cons n t h => .cons ⟨t, rfl⟩ (vals_ints h)

/-- nothing is tracked but the script, known to the object (or it is an object of the module) -/
def Only (H : Hp) : Prop := ∀ b, H b = none ∨ ∃ o xs, H b = some (.frz o (.lst xs))

/-- THE HEAD: the law's promise, at the heap behind the top. F, the promise of the law's def, may use that base is part of the heap (so K.In base, base.Ns mainGlobals mg stand in Mod) -/
theorem law_call {P : Program} {w : World} {K : PySem.W.Frag} {mg mb : Str → Option Value} {CX : CXT} {k : Nat} {fa a : Addr} {fd : FuncData} {x : Str} {sp : Sp} {s₁ : Shared} {vs : List Value} {ns : List Int}
    (KX : K.In s₁.heap) (hns : s₁.heap.Ns mainGlobals mg) (hb : s₁.heap.Ns builtinsNs mb) (hbb : ∀ x : Str, x ≠ "__name__" → mb x = bootBuiltins x) (hlim : s₁.heap.NoLimit) (hg : s₁.gens = #[])
    (ha : s₁.heap.get? a = some { cls := .type "list", data := .seq vs.toArray }) (hi : IntsAre vs ns) (hl : ns.length ≤ sizeLine) (hr : Room k callerA)
    (F : ∀ base : Heap, K.In base → base.Ns mainGlobals mg → FnOk P w K mg base CX k fa fd [x] sp) (hbind : ∀ (s : Shared) (u : Value), BindsTo s fd ⟨[u], []⟩ [(x, u)])
    (hsp : ∀ H : Hp, Only H → SqL K H a (ns.map V.int) → sp [.ref a] H (fun v _ => v = .bl true) fun _ _ _ => False)
    (hCX : ∀ H e s', CX [] H s₁ (fun _ _ _ => False) e s' → False) :
    codeAny (model P w) callerA (.call (.ref fa) ⟨[.ref a], []⟩) (fun r s' => r = .ok (.ret (.bool true)) ∧ OldK s₁.heap s'.heap ∧ s'.os = s₁.os ∧ AllBare s'.gens) s₁ := by
  have rv := vals_ints hi
  have lenV := hi.length
  -- from an abstract heap in which nothing but the script may be tracked
  have core : ∀ H : Hp, Only H → SqL K H a (ns.map V.int) → HOk P w H s₁.heap → (∀ b, H b ≠ none → b = a) → (H a ≠ none → K.lookup a = none) →
      codeAny (model P w) callerA (.call (.ref fa) ⟨[.ref a], []⟩) (fun r s' => r = .ok (.ret (.bool true)) ∧ OldK s₁.heap s'.heap ∧ s'.os = s₁.os ∧ AllBare s'.gens) s₁ := by
    intro H hO hS hok hA hK
    have base_of : ∀ {b : Addr} {o : Obj}, s₁.heap.get? b = some o → H b = none → (hidT s₁.heap H).get? b = some o := fun e n => hidT_get e n
    have noA : ∀ {b : Addr} {o : Obj} {es : Array DictEntry} {ep : Nat}, s₁.heap.get? b = some o → o.data = .dict es ep → H b = none := fun {b o es ep} e d => by
      cases q : H b with
      | none => rfl
      | some u =>
        have e' : b = a := hA b (by rw [q]; simp)
        subst e'
        rw [ha] at e; cases e
        have d' : Data.seq vs.toArray _ = Data.dict es ep := d
        cases d'
    have nsK : ∀ {b : Addr} {m : Str → Option Value}, s₁.heap.Ns b m → (hidT s₁.heap H).Ns b m := fun {b m} ⟨o, es, ep, e, d, r⟩ => ⟨o, es, ep, base_of e (noA e d), d, r⟩
    have hKb : K.In (hidT s₁.heap H) := fun b o e => base_of (KX b o e) (by
      cases q : H b with
      | none => rfl
      | some u =>
        have e' : b = a := hA b (by rw [q]; simp)
        subst e'
        rw [hK (by rw [q]; simp)] at e; cases e)
    have hM : Mod K mg (hidT s₁.heap H) := ⟨hKb, nsK hns, ⟨mb, nsK hb, hbb⟩, let ⟨mc, h1, h2⟩ := hlim; ⟨mc, nsK h1, h2⟩⟩
    have e0 : Env0 P w K mg (hidT s₁.heap H) callerA [] s₁ H := ⟨rfl, hM, fun b o e => of_hidT e, Nat.le_of_eq (hidT_size _ _), trivial, fun b hb => absurd (show b ∈ ([] : List Addr) from hb) (by simp), hok, .of_eq hg⟩
    refine codeAny_mono ((F _ hKb (nsK hns)).run callerA [] s₁ H ⟨[.ref a], []⟩ [.ref a] [.ref a] _ _ hr e0 (hbind s₁ (.ref a)) (.cons rfl .nil) (hsp H hO hS)) fun r s' h => ?_
    cases r with
    | error e => exact (hCX H e s' h).elim
    | ok fl =>
      cases fl with
      | next => exact False.elim h
      | brk => exact False.elim h
      | cont => exact False.elim h
      | ret u =>
        obtain ⟨v, H', os, bare, un, hok', r', q⟩ := h
        have q' : v = .bl true := q
        subst q'
        obtain rfl : u = Value.bool true := r'
        refine ⟨rfl, OldK.of_keep fun b o e => ?_, os, bare⟩
        cases q : H b with
        | none => exact un.keep b o e q (by intro z; exact absurd (show b ∈ ([] : List Addr) from z) (by simp)) (by simp)
        | some u =>
          rcases hO b with z | ⟨ob, xs, z⟩
          · rw [q] at z; cases z
          · have z2 := un.frzs b ob _ z
            obtain ⟨e1, _⟩ := hok b _ z
            obtain ⟨e2, _⟩ := hok' b _ z2
            rw [e] at e1; cases e1
            exact e2
  cases hk : K.lookup a with
  | some o =>
    -- the script is one of the module's own objects
    have e := KX a o hk
    rw [ha] at e
    cases e
    refine core (fun _ => none) (fun _ => .inl rfl) (.inr ⟨_, vs.toArray, _, hk, rfl, rfl, rfl, by rw [List.size_toArray, lenV]; exact hl, by simpa using rv⟩) (fun b u z => by have z' : (none : Option HO) = some u := z; cases z') (fun b z => absurd rfl z) fun z => absurd rfl z
  | none =>
    refine core (fun b => if b = a then some (.frz { cls := .type "list", data := .seq vs.toArray } (.lst (ns.map V.int))) else none) (fun b => ?_) (.inl (.inr ⟨{ cls := .type "list", data := .seq vs.toArray }, if_pos rfl⟩)) (fun b u z => ?_) (fun b z => ?_) fun _ => hk
    · by_cases hb : b = a
      · exact .inr ⟨_, _, if_pos hb⟩
      · exact .inl (if_neg hb)
    · by_cases hb : b = a
      · have z' := (if_pos hb).symm.trans z
        cases z'
        subst hb
        exact ⟨ha, by rw [List.length_map]; exact hl, vs, _, rv, ha⟩
      · have z' := (if_neg hb).symm.trans z
        cases z'
    · by_cases hb : b = a
      · exact hb
      · exact absurd (if_neg hb) z
end L2

namespace L2
open PySem PySem.Spec PyProof.Rows

abbrev KOf {K : PySem.W.Frag} {h : Heap} (_ : K.In h) : PySem.W.Frag := K

/-- the goal that k_head leaves (case hc), from the law's promise. F gives the function object fd (K's own) once, then the promise over every base -/
theorem walk_of {l : PySem.W.OpenLaw} {n k : Nat} {q : Program} {loose : List Str} {XP : (Str → Option Value) → Heap → Prop} {YP : World → Heap → Prop} {d : DefRec} {K : Params → PySem.W.Frag} {CX : World → CXT} {sp : World → Sp} {x : Str}
    (hn : l.most = some n) (hn2 : n ≤ sizeLine) (hdf : d.params.defaults = []) (hr : Room k callerA)
    (hY : ∀ (w : World) (h : Heap), YP w h → (K w.params).In h)
    (F : ∀ (w : World) (mg : Str → Option Value) (fa : Addr) (h : Heap), (K w.params).In h → h.Ns mainGlobals mg → mg d.name = some (.ref fa) →
      ∃ fd : FuncData, (∀ (s : Shared) (u : Value), BindsTo s fd ⟨[u], []⟩ [(x, u)]) ∧
        ∀ base : Heap, (K w.params).In base → base.Ns mainGlobals mg → FnOk l.prog w (K w.params) mg base (CX w) k fa fd [x] (sp w))
    (hsp : ∀ (w : World) (H : Hp) (a : Addr) (ns : List Int), ns.length ≤ n → Only H → SqL (K w.params) H a (ns.map V.int) → sp w [.ref a] H (fun v _ => v = .bl true) fun _ _ _ => False)
    (hCX : ∀ (w : World) (H : Hp) (s : Shared) (e : Value) (s' : Shared), CX w [] H s (fun _ _ _ => False) e s' → False) :
    PySem.W.WalkO q loose XP YP l.row.toRowW d [] (fun f vs => PySem.call f vs) := by
  refine Att.attach_call hn hdf fun w s₀ s₁ mg mb fa o pm cd doc a vs ns G Y ho hd hcd hmg hobj hints hlen hg => ?_
  have KX := hY w _ Y
  obtain ⟨fd, hb, hF⟩ := F w mg fa _ KX G.T.g hmg
  exact law_call KX G.T.g G.T.b G.T.builtins G.T.nolimit hg hobj hints (Nat.le_trans hlen hn2) hr hF hb (fun H hO hS => hsp w H a ns hlen hO hS) fun H e s' => hCX w H s₁ e s'
/-- the same where the promise hangs on the written part alone: (sp := My.sp_law), no hole under a binder -/
theorem walk_ofK {l : PySem.W.OpenLaw} {n k : Nat} {q : Program} {loose : List Str} {XP : (Str → Option Value) → Heap → Prop} {YP : World → Heap → Prop} {d : DefRec} {K : Params → PySem.W.Frag} {CX : CXT} {sp : PySem.W.Frag → Sp} {x : Str}
    (hn : l.most = some n) (hn2 : n ≤ sizeLine) (hdf : d.params.defaults = []) (hr : Room k callerA)
    (hY : ∀ (w : World) (h : Heap), YP w h → (K w.params).In h)
    (F : ∀ (w : World) (mg : Str → Option Value) (fa : Addr) (h : Heap), (K w.params).In h → h.Ns mainGlobals mg → mg d.name = some (.ref fa) →
      ∃ fd : FuncData, (∀ (s : Shared) (u : Value), BindsTo s fd ⟨[u], []⟩ [(x, u)]) ∧
        ∀ base : Heap, (K w.params).In base → base.Ns mainGlobals mg → FnOk l.prog w (K w.params) mg base CX k fa fd [x] (sp (K w.params)))
    (hsp : ∀ (K : PySem.W.Frag) (H : Hp) (a : Addr) (ns : List Int), ns.length ≤ n → Only H → SqL K H a (ns.map V.int) → sp K [.ref a] H (fun v _ => v = .bl true) fun _ _ _ => False)
    (hCX : ∀ (H : Hp) (s : Shared) (e : Value) (s' : Shared), CX [] H s (fun _ _ _ => False) e s' → False) :
    PySem.W.WalkO q loose XP YP l.row.toRowW d [] (fun f vs => PySem.call f vs) :=
  walk_of (K := K) (CX := fun _ => CX) (sp := fun w => sp (K w.params)) hn hn2 hdf hr hY F (fun w H a ns h1 h2 h3 => hsp (K w.params) H a ns h1 h2 h3) fun _ H s e s' => hCX H s e s'
end L2

/- THE LAST THEOREM (shape; LID, My.* are yours):
   My.Adr: a structure of the addresses that your layer names (classes, functions); My.Txt K t: a structure (Prop) of the equations over K;
   My.txt_mk : {K} {implicit addresses ..} (e1 : nsIn K mainGlobals "law" = some (some (.ref f))) (e2 : K.lookup f = some ⟨oc, od, .func (fnOf "law" "law" params body scope dV kV doc pm an cdv ct), sl⟩) (e3 : codeIn K cdv "law" = true) .. : ∃ t, My.Txt K t

set_option maxRecDepth 100000 in
set_option maxHeartbeats 0 in
theorem PySem.Challenge.cw_LID_holds : PySem.Challenge.rw_LID.Holds := by
  w_on; o_law; k_head; (case hw => w_witness2)
  k_fill
  refine L2.walk_of (l := PySem.Challenge.rw_LID) (n := 63) (k := 40) (x := "script") (CX := fun w => ..) (sp := fun _ => My.sp_law) rfl (by decide) rfl ⟨rfl, by decide, by decide⟩ (fun w h Y => PySem.W.kIn_of Y) ?F ?S ?C
  case F =>
    intro w mg fa h KX G hmg
    have T : ∃ t, My.Txt (L2.KOf KX) t := by
      dsimp only [L2.KOf]                          -- K must stand as «<heap const> w.params» for k_is
      refine' My.txt_mk ?e1 ?e2 ?e3 ..
      (case e1 => PySem.W.k_is)                    -- in the order: a name -> its address -> its object -> its parts
      (case e2 => PySem.W.k_is)
      ..
    obtain ⟨t, T⟩ := T
    have e0 := hmg.symm.trans (PySem.W.mg_of KX G T.law)
    cases e0                                       -- fa is the law's own address
    exact ⟨_, fun s u => .of_eq rfl, fun base kb nb => My.law_fn T kb nb⟩     -- if «.of_eq rfl» comes too early: refine' ⟨_, ?b, fun base kb nb => My.law_fn T kb nb⟩; exact fun s u => .of_eq rfl
  case S => exact fun w H a ns hl hO hS => ..
  case C => exact ..
(the tactic k_is has no namespace: write k_is) -/

/-! SHORT WORDS over the layer: a def of the text, its body, what a loop and a test want. -/
namespace L2
open PySem PySem.Spec PyProof.Rows

/-! ### the text by places -/
/-- the j-th statement of a class's body -/
def inClass (s : Stmt) (j : Nat) : Stmt := match s with
  | .ClassDef _ _ _ body _ _ _ _ _ _ _ => body.getD j (.Pass ⟨0, 0, 0, 0⟩)
  | _ => .Pass ⟨0, 0, 0, 0⟩
def defArgs (s : Stmt) : Arguments := match s with
  | .FunctionDef _ a _ _ _ _ _ _ _ _ => a
  | _ => { posonlyargs := [], args := [], vararg := none, kwonlyargs := [], kw_defaults := [], kwarg := none, defaults := [] }
def defBody (s : Stmt) : List Stmt := match s with
  | .FunctionDef _ _ b _ _ _ _ _ _ _ => b
  | _ => []
def defScope (s : Stmt) : Scope := match s with
  | .FunctionDef _ _ _ _ _ _ sc _ _ _ => sc
  | _ => { kind := .function, names := [], isGenerator := false, isCoroutine := false }

/-! ### no exception leaves a def -/
abbrev CX0 : CXT := fun _ _ _ _ _ _ => False
abbrev E0 : XK := fun _ _ _ => False
theorem pass0 {X : Cx} : Passes CX0 X E0 := fun _ _ _ _ _ _ _ h => h.elim

/-! ### a def (or method) of the text as it stands behind the top -/
structure Fun (K : PySem.W.Frag) (x qual : Str) (st : Stmt) (f : Addr) (fd : FuncData) : Prop where
  ex : ∃ (oc : Value) (od : Option Addr) (kV doc pm : Value) (an : Option Addr) (cdv ct : Value) (osl : Array (Option Value)),
    fd = PySem.W.fnOf x qual (defArgs st) (defBody st) (defScope st) .none kV doc pm an cdv ct ∧ K.lookup f = some ⟨oc, od, .func fd, osl⟩ ∧ PySem.W.codeIn K cdv qual = true
  kp : PySem.W.keepIn K (.ref f) = true
section
variable {P : Program} {w : World} {K : PySem.W.Frag} {mg : Str → Option Value} {base : Heap}
/-- THE RULE for a def: its body as a term of rules, and the reading of that term -/
theorem Fun.ok {x qual : Str} {st : Stmt} {f : Addr} {fd : FuncData} {N ps : List Str} {k : Nat} {sp : Sp} (F : Fun K x qual st f fd) (S : FnScope N ps (defScope st)) (len : ∀ vs H Q E, sp vs H Q E → vs.length = ps.length)
    (hbody : ∀ (cdv : Value) (A : Around) (outer : List Env) (s : Shared) (H : Hp) (vs : List V) (Q : VK) (E : XK), Room k (A.deeper (envOfC qual (defScope st) s.heap.objs.size f cdv)) → sp vs H Q E →
      ∃ t, PSs (cxOf CX0 P w K mg base N qual (defScope st) f cdv A outer s H E).nox (defBody st) t ∧ t { nx := fun _ H' => Q .non H', rt := Q } (start N vs) H) : FnOk P w K mg base CX0 (k + 1) f fd ps sp := by
  obtain ⟨oc, od, kV, doc, pm, an, cdv, ct, osl, rfl, lk, hcd⟩ := F.ex
  refine fn_of lk hcd S len fun A outer s H vs Q E hr hsp => ?_
  obtain ⟨t, h, q⟩ := hbody cdv A outer s H vs Q E hr hsp
  exact ⟨t, h.nox, q⟩
/-- how its arguments bind (no defaults): h is «fun _ _ _ _ _ _ us hl => match us, hl with | [_, _], _ => rfl», one _ a parameter -/
theorem Fun.binds {x qual : Str} {st : Stmt} {f : Addr} {fd : FuncData} {ps : List Str} (F : Fun K x qual st f fd)
    (h : ∀ (kV doc pm : Value) (an : Option Addr) (cdv ct : Value) (us : List Value), us.length = ps.length → bindArgs (PySem.W.fnOf x qual (defArgs st) (defBody st) (defScope st) .none kV doc pm an cdv ct) ⟨us, []⟩ = pure (ps.zip us)) : Binds K fd ps [] := by
  obtain ⟨oc, od, kV, doc, pm, an, cdv, ct, osl, rfl, lk, hcd⟩ := F.ex
  exact .all (h kV doc pm an cdv ct)
theorem fun_mk {x qual : Str} {st : Stmt} {f : Addr} {oc : Value} {od an : Option Addr} {osl : Array (Option Value)} {kV doc pm cdv ct : Value} (l : K.lookup f = some ⟨oc, od, .func (PySem.W.fnOf x qual (defArgs st) (defBody st) (defScope st) .none kV doc pm an cdv ct), osl⟩)
    (c : PySem.W.codeIn K cdv qual = true) (k : PySem.W.keepIn K (.ref f) = true) : Fun K x qual st f (PySem.W.fnOf x qual (defArgs st) (defBody st) (defScope st) .none kV doc pm an cdv ct) := ⟨⟨oc, od, kV, doc, pm, an, cdv, ct, osl, rfl, l, c⟩, k⟩
end
theorem hu_of {A : Around} {k : Nat} (hr : Room k A) : A.units + 1 < cLine := Nat.lt_of_le_of_lt (Nat.add_le_add_left (by decide : 1 ≤ 64) _) hr.units
theorem small1000 {n : Nat} (h : n ≤ 1000) : n < sizeLine := Nat.lt_of_le_of_lt h (by decide)

/-! ### expressions in short: the name that stands in the i-th slot -/
section
variable {X : Cx}
theorem pv (i : Nat) {x : Str} {pos : Pos} (hN : X.N[i]? = some x := by rfl) (hv : Vis X.env.scope x := by first | exact Or.inl rfl | exact Or.inr (Or.inl rfl) | exact Or.inr (Or.inr rfl)) (hd : (x == ("__debug__" : Str)) = false := by decide)
    (hcd : (x == ("__classdict__" : Str)) = false := by decide) : PE X (.Name x pos) (tVar i) := pe_var hN hv hd hcd
end

/-! ### tests -/
theorem iteF {A B : Prop} (h : B) : if false = true then A else B := by
  rw [if_neg Bool.false_ne_true]
  exact h
theorem iteT {A B : Prop} (h : A) : if true = true then A else B := by
  rw [if_pos rfl]
  exact h
theorem ite2 {c A B : Prop} [Decidable c] (h1 : c → A) (h2 : ¬ c → B) : if c then A else B := by
  by_cases h : c
  · rw [if_pos h]
    exact h1 h
  · rw [if_neg h]
    exact h2 h
theorem iteNS {c A B : Prop} [Decidable c] (hc : c) (h : B) : if (!decide c) = true then A else B := by
  rw [decide_eq_true hc]
  exact iteF h

/-! ### heaps -/
/-- all that was tracked is as it was -/
def Same (H H' : Hp) : Prop := ∀ b o, H b = some o → H' b = some o
theorem Same.refl (H : Hp) : Same H H := fun _ _ h => h
theorem Same.trans {H H1 H2 : Hp} (a : Same H H1) (b : Same H1 H2) : Same H H2 := fun c o h => b c o (a c o h)
theorem Same.free {H H' : Hp} (e : Same H H') {l : Addr} (h : H' l = Option.none) : H l = Option.none := by
  cases q : H l with
  | none => rfl
  | some o =>
    rw [e l o q] at h
    cases h
theorem Same.seq {K : PySem.W.Frag} {H H' : Hp} {a : Addr} {xs : List V} (e : Same H H') (h : SqL K H a xs) : SqL K H' a xs := by
  rcases h with (h | ⟨o, h⟩) | h
  · exact .inl (.inl (e _ _ h))
  · exact .inl (.inr ⟨o, e _ _ h⟩)
  · exact .inr h

end L2

namespace L2
open PySem PySem.Spec PyProof.Rows

/-! ### lists of pairs as tables -/
section
variable {κ : Type} [DecidableEq κ]
def valV (kvs : List (κ × V)) (k : κ) : Option V := (kvs.find? fun kv => decide (kv.1 = k)).map (·.2)
/-- in its place, or at the end -/
def putK (kvs : List (κ × V)) (k : κ) (v : V) : List (κ × V) :=
  if (kvs.any fun kv => decide (kv.1 = k)) = true then kvs.map (fun kv => if kv.1 = k then (kv.1, v) else kv) else kvs ++ [(k, v)]
def dropK (kvs : List (κ × V)) (k : κ) : List (κ × V) := kvs.filter fun kv => decide (kv.1 ≠ k)

theorem valV_nil {k : κ} : valV ([] : List (κ × V)) k = none := rfl
theorem valV_pos {p : κ × V} {r : List (κ × V)} {k : κ} (e : p.1 = k) : valV (p :: r) k = some p.2 := by simp [valV, List.find?_cons, e]
theorem valV_neg {p : κ × V} {r : List (κ × V)} {k : κ} (e : ¬ p.1 = k) : valV (p :: r) k = valV r k := by simp [valV, List.find?_cons, e]
theorem valV_any (k : κ) : ∀ kvs : List (κ × V), (kvs.any fun kv => decide (kv.1 = k)) = (valV kvs k).isSome
  | [] => rfl
  | p :: r => by
    rw [List.any_cons]
    by_cases e : p.1 = k
    · simp only [valV_pos e, decide_eq_true e, Bool.true_or, Option.isSome_some]
    · rw [valV_neg e, decide_eq_false e, Bool.false_or]; exact valV_any k r
theorem valV_map (k j : κ) (y : V) : ∀ kvs : List (κ × V), valV (kvs.map fun kv => if kv.1 = k then (kv.1, y) else kv) j = (valV kvs j).map fun x => if j = k then y else x
  | [] => rfl
  | p :: r => by
    have ih := valV_map k j y r
    rw [List.map_cons]
    by_cases h : p.1 = k
    · rw [if_pos h]
      by_cases e : p.1 = j
      · rw [valV_pos (p := (p.1, y)) e, valV_pos e, Option.map_some, if_pos (e.symm.trans h)]
      · rw [valV_neg (p := (p.1, y)) e, valV_neg e, ih]
    · rw [if_neg h]
      by_cases e : p.1 = j
      · rw [valV_pos (p := p) e, valV_pos e, Option.map_some, if_neg (fun z => h (e.trans z))]
      · rw [valV_neg (p := p) e, valV_neg e, ih]
theorem valV_snoc (k j : κ) (y : V) : ∀ kvs : List (κ × V), valV kvs k = none → valV (kvs ++ [(k, y)]) j = if j = k then some y else valV kvs j
  | [], _ => by
    by_cases e : k = j
    · rw [if_pos e.symm]; exact valV_pos (p := (k, y)) e
    · rw [if_neg (fun z => e z.symm)]; exact valV_neg (p := (k, y)) e
  | p :: r, hn => by
    rw [List.cons_append]
    have hk : ¬ p.1 = k := fun z => by rw [valV_pos z] at hn; cases hn
    rw [valV_neg hk] at hn
    have ih := valV_snoc k j y r hn
    by_cases e : p.1 = j
    · rw [valV_pos e, valV_pos e, if_neg (fun z => hk (e.trans z))]
    · rw [valV_neg e, valV_neg e, ih]
theorem valV_put (kvs : List (κ × V)) (k j : κ) (y : V) : valV (putK kvs k y) j = if j = k then some y else valV kvs j := by
  unfold putK
  by_cases a : (kvs.any fun kv => decide (kv.1 = k)) = true
  · rw [if_pos a, valV_map]
    rw [valV_any] at a
    by_cases e : j = k
    · obtain ⟨x, hx⟩ := Option.isSome_iff_exists.mp a
      rw [if_pos e, e, hx, Option.map_some, if_pos rfl]
    · rw [if_neg e]
      cases valV kvs j with
      | none => rfl
      | some x => rw [Option.map_some, if_neg e]
  · rw [if_neg a]
    refine valV_snoc k j y kvs ?_
    rw [valV_any] at a
    cases q : valV kvs k with
    | none => rfl
    | some x => rw [q] at a; exact (a rfl).elim
theorem length_putK (kvs : List (κ × V)) (k : κ) (v : V) : (putK kvs k v).length ≤ kvs.length + 1 := by
  unfold putK
  split
  · rw [List.length_map]; omega
  · rw [List.length_append, List.length_cons, List.length_nil]; omega
theorem putK_new {kvs : List (κ × V)} {k : κ} (v : V) (h : valV kvs k = none) : putK kvs k v = kvs ++ [(k, v)] := by
  unfold putK
  rw [valV_any, h]
  exact if_neg (by decide)

theorem RelO.isSome_eq {o : Option V} {u : Option Value} (r : RelO o u) : o.isSome = u.isSome := by
  cases o with
  | none => cases u with
    | none => rfl
    | some _ => exact (show False from r).elim
  | some _ => cases u with
    | none => exact (show False from r).elim
    | some _ => rfl
theorem RelO.getD {o : Option V} {u : Option Value} {d : V} {d' : Value} (r : RelO o u) (rd : RelV d d') : RelV (o.getD d) (u.getD d') := by
  cases o with
  | none => cases u with
    | none => exact rd
    | some _ => exact (show False from r).elim
  | some _ => cases u with
    | none => exact (show False from r).elim
    | some _ => exact r

/-- raw tables of the same keys -/
theorem KV.val {kvs : List (κ × V)} {vs : List (κ × Value)} (r : KV kvs vs) (k : κ) : RelO (valV kvs k) (valueAt vs k) := by
  unfold KV at r
  induction r with
  | nil => exact True.intro
  | @cons p q ps qs h t ih =>
    obtain ⟨h1, h2⟩ := h
    by_cases e : p.1 = k
    · have e' : q.1 = k := h1.symm.trans e
      have b : valueAt (q :: qs) k = some q.2 := by simp [valueAt, List.find?_cons, e']
      rw [valV_pos e, b]; exact h2
    · have e' : ¬ q.1 = k := fun z => e (h1.trans z)
      have b : valueAt (q :: qs) k = valueAt qs k := by simp [valueAt, List.find?_cons, e']
      rw [valV_neg e, b]; exact ih
theorem KV.any {kvs : List (κ × V)} {vs : List (κ × Value)} (r : KV kvs vs) (k : κ) : (kvs.any fun kv => decide (kv.1 = k)) = vs.any fun kv => decide (kv.1 = k) := by
  unfold KV at r
  induction r with
  | nil => rfl
  | cons h t ih => rw [List.any_cons, List.any_cons, ih, h.1]
theorem KV.repl {kvs : List (κ × V)} {vs : List (κ × Value)} (r : KV kvs vs) (k : κ) {y : V} {u : Value} (ry : RelV y u) :
    KV (kvs.map fun kv => if kv.1 = k then (kv.1, y) else kv) (vs.map fun kv => if kv.1 = k then (kv.1, u) else kv) := by
  unfold KV at r ⊢
  induction r with
  | nil => exact .nil
  | @cons p q ps qs h t ih =>
    rw [List.map_cons, List.map_cons]
    refine .cons ?_ ih
    obtain ⟨h1, h2⟩ := h
    by_cases e : p.1 = k
    · rw [if_pos e, if_pos (h1.symm.trans e)]; exact ⟨h1, ry⟩
    · rw [if_neg e, if_neg (fun z => e (h1.trans z))]; exact ⟨h1, h2⟩
theorem KV.put {kvs : List (κ × V)} {vs : List (κ × Value)} (r : KV kvs vs) (k : κ) {y : V} {u : Value} (ry : RelV y u) : KV (putK kvs k y) (stored vs k u) := by
  unfold putK stored
  rw [r.any k]
  by_cases e : (vs.any fun kv => decide (kv.1 = k)) = true
  · rw [if_pos e, if_pos e]; exact r.repl k ry
  · rw [if_neg e, if_neg e]; exact Paired.snoc r ⟨rfl, ry⟩
theorem KV.drop {kvs : List (κ × V)} {vs : List (κ × Value)} (r : KV kvs vs) (k : κ) : KV (dropK kvs k) (without vs k) := by
  unfold KV at r ⊢
  unfold dropK without
  induction r with
  | nil => exact .nil
  | @cons p q ps qs h t ih =>
    obtain ⟨h1, h2⟩ := h
    rw [List.filter_cons, List.filter_cons]
    by_cases e : p.1 = k
    · have a : ¬ decide (p.1 ≠ k) = true := by simp [e]
      have b : ¬ decide (q.1 ≠ k) = true := by simp [h1.symm.trans e]
      rw [if_neg a, if_neg b]; exact ih
    · have e' : ¬ q.1 = k := fun z => e (h1.trans z)
      have a : decide (p.1 ≠ k) = true := by simp [e]
      have b : decide (q.1 ≠ k) = true := by simp [e']
      rw [if_pos a, if_pos b]; exact .cons ⟨h1, h2⟩ ih
theorem KV.keys {kvs : List (κ × V)} {vs : List (κ × Value)} (r : KV kvs vs) : kvs.map (·.1) = vs.map (·.1) := by
  unfold KV at r
  induction r with
  | nil => rfl
  | cons h t ih => rw [List.map_cons, List.map_cons, ih, h.1]
theorem KV.length {kvs : List (κ × V)} {vs : List (κ × Value)} (r : KV kvs vs) : kvs.length = vs.length := Paired.length r
theorem dropK_le (kvs : List (κ × V)) (k : κ) : (dropK kvs k).length ≤ kvs.length := List.length_filter_le _ _
end


/-! ### a tracked dict, its keys ints and texts or tuples of these -/
theorem kV_is {P : Program} {w : World} {k : Key} {u : Value} (r : RelV (kV k) u) : (mixKind P w).is k u = true := by
  cases k with
  | inl i => obtain ⟨t, e⟩ := (show ∃ t, u = Value.int i t from r); subst e; exact mixKind_int P w i t
  | inr x => obtain ⟨t, e⟩ := (show ∃ t, u = Value.str x t from r); subst e; exact mixKind_str P w x t
theorem kV_inj {a b : Key} (e : kV a = kV b) : a = b := by
  cases a with
  | inl i => cases b with
    | inl j => have e' : V.int i = V.int j := e; injection e' with e'; rw [e']
    | inr y => exact nomatch (show V.int i = V.str y from e)
  | inr x => cases b with
    | inl j => exact nomatch (show V.str x = V.int j from e)
    | inr y => have e' : V.str x = V.str y := e; injection e' with e'; rw [e']
theorem kVs_inj : ∀ {a b : List Key}, a.map kV = b.map kV → a = b
  | [], [], _ => rfl
  | [], _ :: _, e => by simp at e
  | _ :: _, [], e => by simp at e
  | x :: xs, y :: ys, e => by
    rw [List.map_cons, List.map_cons] at e
    injection e with e1 e2
    rw [kV_inj e1, kVs_inj e2]
theorem items_are {P : Program} {w : World} : ∀ {ks : List Key} {us : List Value}, Vals (ks.map kV) us → ItemsAre (mixKind P w) ks us
  | [], _, r => by rw [List.map_nil] at r; cases r; exact .nil
  | k :: ks, _, r => by
    rw [List.map_cons] at r
    cases r with
    | cons h t => exact .cons (kV_is h) (items_are t)

/-- raw entries of a dict with tuple keys -/
abbrev KT (H : Hp) : List (List Key × V) → List (List Key × Addr × Value) → Prop := Paired fun p q => p.1 = q.1 ∧ H q.2.1 = some (.tup (p.1.map kV)) ∧ RelV p.2 q.2.2
theorem KT.val {H : Hp} {kvs : List (List Key × V)} {xs : List (List Key × Addr × Value)} (r : KT H kvs xs) (k : List Key) : RelO (valV kvs k) ((atKey xs k).map (·.2)) := by
  induction r with
  | nil => exact True.intro
  | @cons p q ps qs h t ih =>
    obtain ⟨h1, _, h2⟩ := h
    by_cases e : p.1 = k
    · have e' : q.1 = k := h1.symm.trans e
      have b : atKey (q :: qs) k = some q.2 := by simp [atKey, List.find?_cons, e']
      rw [valV_pos e, b]; exact h2
    · have e' : ¬ q.1 = k := fun z => e (h1.trans z)
      have b : atKey (q :: qs) k = atKey qs k := by simp [atKey, List.find?_cons, e']
      rw [valV_neg e, b]; exact ih
theorem KT.repl {H : Hp} {kvs : List (List Key × V)} {xs : List (List Key × Addr × Value)} (r : KT H kvs xs) (k : List Key) {y : V} {u : Value} (ry : RelV y u) :
    KT H (kvs.map fun kv => if kv.1 = k then (kv.1, y) else kv) (xs.map (putAt k u)) := by
  induction r with
  | nil => exact .nil
  | @cons p q ps qs h t ih =>
    rw [List.map_cons, List.map_cons]
    refine .cons ?_ ih
    obtain ⟨h1, h2, h3⟩ := h
    unfold putAt
    by_cases e : p.1 = k
    · rw [if_pos e, if_pos (h1.symm.trans e)]; exact ⟨h1, h2, ry⟩
    · rw [if_neg e, if_neg (fun z => e (h1.trans z))]; exact ⟨h1, h2, h3⟩
theorem KT.put {H : Hp} {kvs : List (List Key × V)} {xs : List (List Key × Addr × Value)} (r : KT H kvs xs) (k : List Key) {b : Addr} {y : V} {u : Value} (hb : H b = some (.tup (k.map kV))) (ry : RelV y u) :
    KT H (putK kvs k y) (storedH xs k b u) := by
  have e : (kvs.any fun kv => decide (kv.1 = k)) = (atKey xs k).isSome := by
    rw [valV_any, (r.val k).isSome_eq, Option.isSome_map]
  unfold putK storedH
  rw [e]
  by_cases q : (atKey xs k).isSome = true
  · rw [if_pos q, if_pos q]; exact r.repl k ry
  · rw [if_neg q, if_neg q]; exact Paired.snoc r ⟨rfl, hb, ry⟩
theorem KT.keeps {H H' : Hp} {kvs : List (List Key × V)} {xs : List (List Key × Addr × Value)} (r : KT H kvs xs) (ht : ∀ b ys, H b = some (.tup ys) → H' b = some (.tup ys)) : KT H' kvs xs :=
  Paired.mapP r fun _ _ z => ⟨z.1, ht _ _ z.2.1, z.2.2⟩

section
variable {P : Program} {w : World} {H : Hp} {h : Heap} {a : Addr}
theorem rd_of {u : HO} (ok : HOk P w H h) (e : Rd H a u) : ObjOk P w H h a u := e.ok ok
theorem dk_rd {kvs : List (Key × V)} (ok : HOk P w H h) (e : Rd H a (.dK kvs)) : kvs.length ≤ sizeLine ∧ (a == sysModules) = false ∧ ∃ vs, KV kvs vs ∧ h.DictOf (mixKind P w) a vs :=
  show ObjOk P w H h a (.dK kvs) from rd_of ok e
theorem dk_of {kvs : List (Key × V)} (ok : HOk P w H h) (e : H a = some (.dK kvs)) : kvs.length ≤ sizeLine ∧ (a == sysModules) = false ∧ ∃ vs, KV kvs vs ∧ h.DictOf (mixKind P w) a vs := dk_rd ok (.inl e)
/-- a tracked tuple of ints and texts is a key -/
theorem key_of {ks : List Key} (ok : HOk P w H h) (e : H a = some (.tup (ks.map kV))) : (tupleKind (mixKind P w)).is h ks a := by
  obtain ⟨_, its, r, o, h1, h2, n, h3⟩ := (show ObjOk P w H h a (.tup (ks.map kV)) from ok a _ e)
  exact ⟨o, its.toArray, n, h1, h2, h3, by simpa using items_are r⟩
theorem dt_rd {kvs : List (List Key × V)} (ok : HOk P w H h) (e : Rd H a (.dT kvs)) : kvs.length ≤ sizeLine ∧ (a == sysModules) = false ∧
    ∃ xs, KT H kvs xs ∧ h.DictOfH (tupleKind (mixKind P w)) a xs := by
  obtain ⟨z, y, xs, r, o, es, ep, h1, h2, h3, h4, h5⟩ := (show ObjOk P w H h a (.dT kvs) from rd_of ok e)
  refine ⟨z, y, xs, r, o, es, ep, h1, h2, h3, h4, fun x hx => ?_, h5⟩
  have all : ∀ {l : List (List Key × V)} {m : List (List Key × Addr × Value)}, KT H l m → ∀ x ∈ m, (tupleKind (mixKind P w)).is h x.1 x.2.1 := by
    intro l m q
    induction q with
    | nil => intro x hx; exact nomatch hx
    | @cons p q ps qs hq t ih =>
      intro x hx
      rcases List.mem_cons.mp hx with e | hx
      · subst e
        exact key_of ok (by rw [← hq.1]; exact hq.2.1)
      · exact ih x hx
  exact all r x hx
theorem dt_of {kvs : List (List Key × V)} (ok : HOk P w H h) (e : H a = some (.dT kvs)) : kvs.length ≤ sizeLine ∧ (a == sysModules) = false ∧
    ∃ xs, KT H kvs xs ∧ h.DictOfH (tupleKind (mixKind P w)) a xs := dt_rd ok (.inl e)
end

/-- what the dict at a holds at the key y -/
def DGet (H : Hp) (a : Addr) (y : V) (r : Option V) : Prop :=
  (∃ kvs k, Rd H a (.dK kvs) ∧ y = kV k ∧ r = valV kvs k) ∨ ∃ kvs k b, Rd H a (.dT kvs) ∧ y = .ref b ∧ H b = some (.tup (k.map kV)) ∧ r = valV kvs k
/-- the heap behind a[y] = v -/
def DPut (H : Hp) (a : Addr) (y v : V) (H' : Hp) : Prop :=
  (∃ kvs k, H a = some (.dK kvs) ∧ y = kV k ∧ kvs.length < sizeLine ∧ H' = upd H a (.dK (putK kvs k v))) ∨
  ∃ kvs k b, H a = some (.dT kvs) ∧ y = .ref b ∧ H b = some (.tup (k.map kV)) ∧ kvs.length < sizeLine ∧ H' = upd H a (.dT (putK kvs k v))
theorem DGet.k {H : Hp} {a : Addr} {kvs : List (Key × V)} {k : Key} (e : H a = some (.dK kvs)) : DGet H a (kV k) (valV kvs k) := .inl ⟨kvs, k, .inl e, rfl, rfl⟩
theorem DGet.t {H : Hp} {a b : Addr} {kvs : List (List Key × V)} {k : List Key} (e : H a = some (.dT kvs)) (eb : H b = some (.tup (k.map kV))) : DGet H a (.ref b) (valV kvs k) := .inr ⟨kvs, k, b, .inl e, rfl, eb, rfl⟩
theorem DPut.k {H : Hp} {a : Addr} {kvs : List (Key × V)} {k : Key} {v : V} (e : H a = some (.dK kvs)) (hl : kvs.length < sizeLine) : DPut H a (kV k) v (upd H a (.dK (putK kvs k v))) := .inl ⟨kvs, k, e, rfl, hl, rfl⟩
theorem DPut.t {H : Hp} {a b : Addr} {kvs : List (List Key × V)} {k : List Key} {v : V} (e : H a = some (.dT kvs)) (eb : H b = some (.tup (k.map kV))) (hl : kvs.length < sizeLine) :
    DPut H a (.ref b) v (upd H a (.dT (putK kvs k v))) := .inr ⟨kvs, k, b, e, rfl, eb, hl, rfl⟩


section
variable {X : Cx} {pins : List (Addr × Obj)} {σ : St} {H : Hp} {s : Shared} {a : Addr} {y v : V} {u r : Value} {o : Option V} {A : Around} {E : Value → Shared → Prop}

theorem Inv.big (I : Inv X pins σ H s) : sysModules < s.heap.objs.size := by
  have h : mainGlobals < s.heap.objs.size := (I.mod.glob.keeps I.bk).lt
  exact Nat.lt_trans (by decide) h

/-- d[y], there -/
theorem d_getItem {Q : Value → Shared → Prop} (hu : A.units + 1 < cLine) (I : Inv X pins σ H s) (g : DGet H a y (some v)) (ry : RelV y u) (h : ∀ w' s', Inv X pins σ H s' → RelV v w' → Q w' s') :
    wpAny (model X.prog X.w) A (getItem (.ref a) u) Q E s := by
  rcases g with ⟨kvs, k, e, ey, l⟩ | ⟨kvs, k, b, e, ey, eb, l⟩
  · subst ey
    obtain ⟨z, hd, vs, rel, dd⟩ := dk_rd I.hok e
    obtain ⟨w', hw, rw'⟩ := RelO.some_of (v := v) (o := valueAt vs k) (by rw [l]; exact rel.val k)
    exact wpAny_getItem_of (kV_is ry) dd.mapOf hw (h w' _ (I.tok _) rw')
  · subst ey
    cases (show u = Value.ref b from ry)
    obtain ⟨z, hd, xs, rel, dd⟩ := dt_rd I.hok e
    obtain ⟨w', hw, rw'⟩ := RelO.some_of (v := v) (o := (atKey xs k).map (·.2)) (by rw [l]; exact rel.val k)
    obtain ⟨p, hp, hp2⟩ := Option.map_eq_some_iff.mp hw
    refine wpAny_getItem_heap (tupleKind_room_in1 hu) (key_of I.hok eb) dd hp ?_
    rw [hp2]
    exact h w' _ (I.tok _) rw'
/-- y in d -/
theorem d_in {Q : Value → Shared → Prop} (hu : A.units + 1 < cLine) (I : Inv X pins σ H s) (g : DGet H a y o) (ry : RelV y u) (h : ∀ s', Inv X pins σ H s' → Q (.bool o.isSome) s') :
    wpAny (model X.prog X.w) A (compareOp .In u (.ref a)) Q E s := by
  rcases g with ⟨kvs, k, e, ey, l⟩ | ⟨kvs, k, b, e, ey, eb, l⟩
  · subst ey
    obtain ⟨z, hd, vs, rel, dd⟩ := dk_rd I.hok e
    refine wpAny_in_of (kV_is ry) hd dd.mapOf ?_
    rw [← (rel.val k).isSome_eq, ← l]
    exact h _ (I.tok _)
  · subst ey
    cases (show u = Value.ref b from ry)
    obtain ⟨z, hd, xs, rel, dd⟩ := dt_rd I.hok e
    refine wpAny_in_heap (tupleKind_room_in1 hu) (key_of I.hok eb) hd dd ?_
    have q := (rel.val k).isSome_eq
    rw [Option.isSome_map] at q
    rw [← q, ← l]
    exact h _ (I.tok _)
theorem d_notIn {Q : Value → Shared → Prop} (hu : A.units + 1 < cLine) (I : Inv X pins σ H s) (g : DGet H a y o) (ry : RelV y u) (h : ∀ s', Inv X pins σ H s' → Q (.bool (!o.isSome)) s') :
    wpAny (model X.prog X.w) A (compareOp .NotIn u (.ref a)) Q E s := by
  rcases g with ⟨kvs, k, e, ey, l⟩ | ⟨kvs, k, b, e, ey, eb, l⟩
  · subst ey
    obtain ⟨z, hd, vs, rel, dd⟩ := dk_rd I.hok e
    refine wpAny_notIn_of (kV_is ry) hd dd.mapOf ?_
    rw [← (rel.val k).isSome_eq, ← l]
    exact h _ (I.tok _)
  · subst ey
    cases (show u = Value.ref b from ry)
    obtain ⟨z, hd, xs, rel, dd⟩ := dt_rd I.hok e
    refine wpAny_notIn_heap (tupleKind_room_in1 hu) (key_of I.hok eb) hd dd ?_
    have q := (rel.val k).isSome_eq
    rw [Option.isSome_map] at q
    rw [← q, ← l]
    exact h _ (I.tok _)
/-- a dict's object is replaced -/
theorem d_write {h' : Heap} {t' : Nat} {ob : HO} (I : Inv X pins σ H s) (mu : Mut (H a)) (hs : Heap.SameBut a s.heap h') (he : ∃ q, h'.get? a = some q) (new : ObjOk X.prog X.w (upd H a ob) h' a ob) :
    Inv X pins σ (upd H a ob) { s with heap := h', toks := t' } :=
  I.write (x := a) (e := a) mu (.inl rfl) (fun b q hb z => (hs.2 b hb).trans z) he new
theorem dk_new {P : Program} {w : World} {H' : Hp} {h' : Heap} {kvs : List (Key × V)} {vs : List (Key × Value)} (z : kvs.length ≤ sizeLine) (hd : (a == sysModules) = false) (rel : KV kvs vs) (dd : h'.DictOf (mixKind P w) a vs) :
    ObjOk P w H' h' a (.dK kvs) := ⟨z, hd, vs, rel, dd⟩
/-- d[y] = v -/
theorem d_setItem {H' : Hp} {Q : Unit → Shared → Prop} (hu : A.units + 1 < cLine) (I : Inv X pins σ H s) (g : DPut H a y v H') (ry : RelV y u) (rv : RelV v r) (h : ∀ s', Inv X pins σ H' s' → Q () s') :
    wpAny (model X.prog X.w) A (setItem (.ref a) u r) Q E s := by
  rcases g with ⟨kvs, k, e, ey, l, eH⟩ | ⟨kvs, k, b, e, ey, eb, l, eH⟩
  · subst ey eH
    obtain ⟨z, hd, vs, rel, dd⟩ := dk_of I.hok e
    have hz : vs.length ≤ sizeLine := by rw [← rel.length]; exact z
    have hl : (putK kvs k v).length ≤ sizeLine := by have := length_putK kvs k v; omega
    refine wpAny_setItem_pairs (hsz := hz) (kV_is ry) dd fun h' dd' hs => h _ ?_
    have he : ∃ q, h'.get? a = some q := let ⟨q, _, _, hq, _⟩ := dd'; ⟨q, hq⟩
    exact d_write I (by rw [e]; exact True.intro) hs he (dk_new hl hd (rel.put k rv) dd')
  · subst ey eH
    cases (show u = Value.ref b from ry)
    obtain ⟨z, hd, xs, rel, dd⟩ := dt_of I.hok e
    have hz : xs.length ≤ sizeLine := by rw [← Paired.length rel]; exact z
    have hl : (putK kvs k v).length ≤ sizeLine := by have := length_putK kvs k v; omega
    refine wpAny_setItem_heap (hsz := hz) (tupleKind_room_in1 hu) (key_of I.hok eb) dd fun h' dd' hs => h _ ?_
    obtain ⟨q, es, ep, hq, h2, h3, h4, _, h5⟩ := dd'
    refine d_write I (by rw [e]; exact True.intro) hs ⟨q, hq⟩ ⟨hl, hd, _, (rel.put k eb rv).keeps fun c ys ec => ?_, q, es, ep, hq, h2, h3, h4, h5⟩
    rw [upd_ne (ne_of ec e (fun z => nomatch z))]
    exact ec
end

section
variable {X : Cx} {pins : List (Addr × Obj)} {σ : St} {H : Hp} {s : Shared} {a : Addr} {kvs : List (Key × V)} {k : Key} {u : Value} {A : Around} {E : Value → Shared → Prop}
/-- del d[k] -/
theorem d_delItem {Q : Unit → Shared → Prop} (I : Inv X pins σ H s) (e : H a = some (.dK kvs)) (ry : RelV (kV k) u) (l : (valV kvs k).isSome = true) (h : ∀ s', Inv X pins σ (upd H a (.dK (dropK kvs k))) s' → Q () s') :
    wpAny (model X.prog X.w) A (delItem (.ref a) u) Q E s := by
  obtain ⟨z, hd, vs, rel, dd⟩ := dk_of I.hok e
  refine wpAny_delItem_slot dd.typeIs (by decide) PySem.F.slot_dict_delitem
    (call_meetsIn PySem.F.slot_dict_delitem dd.typeIs PySem.F.entry_dict_delitem (PySem.F.args_dict_delitem_2 _ _) (meets_dict_delitem_pairs (mixKind X.prog X.w) a (kV_is ry)) ⟨vs, dd, by rw [← rel.length]; exact z, by rw [← (rel.val k).isSome_eq]; exact l, fun h' dd' hs => h _ ?_⟩)
  have he : ∃ q, h'.get? a = some q := let ⟨q, _, _, hq, _⟩ := dd'; ⟨q, hq⟩
  exact d_write I (by rw [e]; exact True.intro) hs he (dk_new (Nat.le_trans (dropK_le kvs k) z) hd (rel.drop k) dd')
/-- d.pop(k[, x]), there -/
theorem d_pop {v : V} {more : List Value} {Q : Value → Shared → Prop} (I : Inv X pins σ H s) (e : H a = some (.dK kvs)) (ry : RelV (kV k) u) (l : valV kvs k = some v) (hm : more = [] ∨ ∃ x, more = [x])
    (h : ∀ w' s', Inv X pins σ (upd H a (.dK (dropK kvs k))) s' → RelV v w' → Q w' s') : wpAny (model X.prog X.w) A (call (.builtin "dict.pop") (.ref a :: u :: more)) Q E s := by
  obtain ⟨z, hd, vs, rel, dd⟩ := dk_of I.hok e
  obtain ⟨w', hw, rw'⟩ := RelO.some_of (v := v) (o := valueAt vs k) (by rw [← l]; exact rel.val k)
  have hp : (keyPart u).isSome = true := by
    cases k with
    | inl i => obtain ⟨t, q⟩ := (show ∃ t, u = Value.int i t from ry); subst q; rfl
    | inr x => obtain ⟨t, q⟩ := (show ∃ t, u = Value.str x t from ry); subst q; rfl
  have ha : argsOk "dict.pop" ⟨.ref a :: u :: more, []⟩ := by
    rcases hm with q | ⟨x, q⟩
    · subst q; exact PySem.F.args_dict_pop_2 _ _
    · subst q; exact PySem.F.args_dict_pop_3 _ _ _
  refine call_meetsIn PySem.F.slot_dict_pop dd.typeIs PySem.F.entry_dict_pop ha (meets_dict_pop_there (mixKind X.prog X.w) a (kV_is ry) more hm hp)
    ⟨vs, w', dd, by rw [← rel.length]; exact z, hw, fun h' dd' hs => h w' _ ?_ rw'⟩
  have he : ∃ q, h'.get? a = some q := let ⟨q, _, _, hq, _⟩ := dd'; ⟨q, hq⟩
  exact d_write I (by rw [e]; exact True.intro) hs he (dk_new (Nat.le_trans (dropK_le kvs k) z) hd (rel.drop k) dd')
/-- d.pop(k, x), not there -/
theorem d_popD {r : Value} {Q : Value → Shared → Prop} (I : Inv X pins σ H s) (e : H a = some (.dK kvs)) (ry : RelV (kV k) u) (l : valV kvs k = none) (h : ∀ s', Inv X pins σ H s' → Q r s') :
    wpAny (model X.prog X.w) A (call (.builtin "dict.pop") [.ref a, u, r]) Q E s := by
  obtain ⟨z, hd, vs, rel, dd⟩ := dk_of I.hok e
  have hn : valueAt vs k = none := RelO.none_of (by rw [← l]; exact rel.val k)
  have hp : (keyPart u).isSome = true := by
    cases k with
    | inl i => obtain ⟨t, q⟩ := (show ∃ t, u = Value.int i t from ry); subst q; rfl
    | inr x => obtain ⟨t, q⟩ := (show ∃ t, u = Value.str x t from ry); subst q; rfl
  exact call_meetsIn PySem.F.slot_dict_pop dd.typeIs PySem.F.entry_dict_pop (PySem.F.args_dict_pop_3 _ _ _) (meets_dict_pop_default (mixKind X.prog X.w) a (kV_is ry) hd hp r) ⟨vs, dd, hn, h _ (I.tok _)⟩
/-- d.clear() -/
theorem d_clear {Q : Value → Shared → Prop} (I : Inv X pins σ H s) (e : H a = some (.dK kvs)) (h : ∀ s', Inv X pins σ (upd H a (.dK [])) s' → Q .none s') : wpAny (model X.prog X.w) A (call (.builtin "dict.clear") [.ref a]) Q E s := by
  obtain ⟨z, hd, vs, rel, dd⟩ := dk_of I.hok e
  refine call_meetsIn PySem.F.slot_dict_clear dd.typeIs PySem.F.entry_dict_clear (PySem.F.args_dict_clear_1 _) (meets_dict_clear (mixKind X.prog X.w) a) ⟨vs, dd, by rw [← rel.length]; exact z, fun h' dd' hs => h _ ?_⟩
  have he : ∃ q, h'.get? a = some q := let ⟨q, _, _, hq, _⟩ := dd'; ⟨q, hq⟩
  exact d_write (t' := s.toks) I (by rw [e]; exact True.intro) hs he (dk_new (Nat.zero_le _) hd .nil dd')
/-- len(d) -/
theorem d_len {Q : Value → Shared → Prop} (I : Inv X pins σ H s) (e : Rd H a (.dK kvs)) (h : ∀ t s', Inv X pins σ H s' → Q (.int kvs.length t) s') : wpAny (model X.prog X.w) A (call (.builtin "len") [.ref a]) Q E s := by
  obtain ⟨z, hd, vs, rel, dd⟩ := dk_rd I.hok e
  refine call_len_dict hd dd (by rw [← rel.length]; rw [sizeLine_eq] at z; omega) ?_
  rw [← rel.length]
  exact h _ _ (I.tok _)
/-- if d -/
theorem d_truth {Q : Bool → Shared → Prop} (I : Inv X pins σ H s) (e : Rd H a (.dK kvs)) (h : ∀ s', Inv X pins σ H s' → Q (!kvs.isEmpty) s') : wpAny (model X.prog X.w) A (truthy (.ref a)) Q E s := by
  obtain ⟨z, hd, vs, rel, dd⟩ := dk_rd I.hok e
  refine wpAny_truthy_dict hd dd (by rw [← rel.length]; rw [sizeLine_eq] at z; omega) ?_
  have q : kvs.isEmpty = vs.isEmpty := by cases rel <;> rfl
  rw [← q]
  exact h _ (I.tok _)
end


/-! ### readings and rules -/
/-- the element of a subscription, not a slice -/
def NoSl (i : Expr) : Prop := ∀ ov iv, subscripted i false ov iv = operate [ov, iv] (getItem ov iv)
theorem subD_of {prog : Program} {w : World} {A : Around} {E : Value → Shared → Prop} {s : Shared} {env : Env} {value slice : Expr} {pos : Pos} {T id : String} {Q : Value → Shared → Prop}
    (hl : typeLookup (.type T) "__getitem__" = pure (some (.builtin id))) (hs : NoSl slice)
    (h : wpAny (model prog w) A (eval value env) (fun o s₁ => wpAny (model prog w) A (eval slice env) (fun i s₂ => s₂.TypeIs o T ∧ wpAny (model prog w) A (getItem o i) Q E s₂) E s₁) E s) :
    wpAny (model prog w) A (eval (.Subscript value slice pos) env) Q E s := by
  refine Subscript_ (wpAny_mono h (fun o s₁ h₁ => wpAny_mono h₁ (fun i s₂ h₂ => ?_) fun _ _ x => x) fun _ _ x => x)
  obtain ⟨hT, h₂⟩ := h₂
  unfold subscriptTail
  refine wpAny_bind ?_
  rw [getitemInPython_of_ne hT.not_modules]
  refine wpAny_bind (wpAny_specialOf hT hl ?_)
  have fin : wpAny (model prog w) A (subscripted slice false o i) (fun r s₃ => wpAny (model prog w) A (letTemporaryGo value o r >>= fun _ => pure r) Q E s₃) E s₂ := by
    rw [hs o i]
    exact wpAny_operating (wpAny_mono h₂ (fun r s₃ h₃ => wpAny_bind (wpAny_letTemporaryGo (wpAny_pure h₃))) fun _ _ x => x)
  first
    | exact wpAny_pure (wpAny_bind fin)
    | exact wpAny_bind (wpAny_pure (wpAny_bind fin))
    | exact wpAny_bind fin

theorem dict_typeIs {X : Cx} {pins : List (Addr × Obj)} {σ : St} {H : Hp} {s : Shared} {a : Addr} {y : V} {o : Option V} (I : Inv X pins σ H s) (g : DGet H a y o) : s.TypeIs (.ref a) "dict" := by
  rcases g with ⟨kvs, k, e, _, _⟩ | ⟨kvs, k, b, e, _, _, _⟩
  · obtain ⟨_, _, vs, _, dd⟩ := dk_rd I.hok e
    exact dd.typeIs
  · obtain ⟨_, _, xs, _, dd⟩ := dt_rd I.hok e
    exact dd.typeIs
theorem dict_noDict {X : Cx} {pins : List (Addr × Obj)} {σ : St} {H : Hp} {s : Shared} {a : Addr} {y : V} {o : Option V} (I : Inv X pins σ H s) (g : DGet H a y o) :
    ∀ b, Value.ref a = .ref b → ∃ ob, s.heap.get? b = some ob ∧ ob.dict = none := fun b q => by
  cases q
  rcases g with ⟨kvs, k, e, _, _⟩ | ⟨kvs, k, b, e, _, _, _⟩
  · obtain ⟨_, _, vs, _, ob, _, _, h1, h2, _⟩ := dk_rd I.hok e
    exact ⟨ob, h1, h2.2.1⟩
  · obtain ⟨_, _, xs, _, ob, _, _, h1, h2, _⟩ := dt_rd I.hok e
    exact ⟨ob, h1, h2.2.1⟩

/-- d[y] -/
def tDGet (td ty : TE) : TE := fun σ H Q => td σ H fun x H1 => ty σ H1 fun y H2 => ∃ a v, x = .ref a ∧ DGet H2 a y (some v) ∧ Q v H2
/-- y in d, y not in d -/
def tDIn (ty td : TE) : TE := fun σ H Q => ty σ H fun y H1 => td σ H1 fun x H2 => ∃ a o, x = .ref a ∧ DGet H2 a y o ∧ Q (.bl o.isSome) H2
def tDNotIn (ty td : TE) : TE := fun σ H Q => ty σ H fun y H1 => td σ H1 fun x H2 => ∃ a o, x = .ref a ∧ DGet H2 a y o ∧ Q (.bl (!o.isSome)) H2
/-- d[y] = v -/
def sDPut (td ty tv : TE) : TS := fun D σ H => tv σ H fun v H1 => td σ H1 fun x H2 => ty σ H2 fun y H3 => ∃ a H4, x = .ref a ∧ DPut H3 a y v H4 ∧ D.nx σ H4
/-- d[y] op= v -/
def sDAug (td ty tv : TE) (rd : V → V → Hp → VK → Prop) : TS := fun D σ H => td σ H fun x H1 => ty σ H1 fun y H2 => ∃ a v, x = .ref a ∧ DGet H2 a y (some v) ∧
  tv σ H2 fun y2 H3 => rd v y2 H3 fun z H4 => ∃ H5, DPut H4 a y z H5 ∧ D.nx σ H5
/-- del d[y] -/
def sDDel (td ty : TE) : TS := fun D σ H => td σ H fun x H1 => ty σ H1 fun y H2 => ∃ a kvs k, x = .ref a ∧ H2 a = some (.dK kvs) ∧ y = kV k ∧ (valV kvs k).isSome = true ∧ D.nx σ (upd H2 a (.dK (dropK kvs k)))

section
variable {X : Cx} {o i e value : Expr} {pos pos' tpos : Pos} {td ty tv : TE}
theorem pe_dget (hu : X.A.units + 1 < cLine) (ho : PE X o td) (hi : PE X i ty) (hs : NoSl i) : PE X (.Subscript o i pos) (tDGet td ty) := by
  intro pins s σ H Q I h
  refine subD_of PySem.F.slot_dict_getitem.lookup hs (thn (ho pins s σ H _ I h) fun u s1 ⟨x, H1, I1, rx, q1⟩ => thn (hi pins s1 σ H1 _ I1 q1) fun iv s2 ⟨y, H2, I2, ry, a, v, ex, g, q2⟩ => ?_)
  subst ex
  obtain rfl : u = Value.ref a := rx
  exact ⟨dict_typeIs I2 g, d_getItem hu I2 g ry fun w' s3 I3 rw' => ⟨v, H2, I3, rw', q2⟩⟩
theorem pc_din (hu : X.A.units + 1 < cLine) (hi : PE X i ty) (ho : PE X o td) : PC X .In i o (tDIn ty td) := by
  intro pins s σ H Q I h
  refine thn (hi pins s σ H _ I h) fun iv s1 ⟨y, H1, I1, ry, q1⟩ => thn (ho pins s1 σ H1 _ I1 q1) fun u s2 ⟨x, H2, I2, rx, a, ov, ex, g, q2⟩ => ?_
  subst ex
  obtain rfl : u = Value.ref a := rx
  exact d_in hu I2 g ry fun s3 I3 => ⟨.bl ov.isSome, H2, I3, rfl, q2⟩
theorem pc_dnotin (hu : X.A.units + 1 < cLine) (hi : PE X i ty) (ho : PE X o td) : PC X .NotIn i o (tDNotIn ty td) := by
  intro pins s σ H Q I h
  refine thn (hi pins s σ H _ I h) fun iv s1 ⟨y, H1, I1, ry, q1⟩ => thn (ho pins s1 σ H1 _ I1 q1) fun u s2 ⟨x, H2, I2, rx, a, ov, ex, g, q2⟩ => ?_
  subst ex
  obtain rfl : u = Value.ref a := rx
  exact d_notIn hu I2 g ry fun s3 I3 => ⟨.bl (!ov.isSome), H2, I3, rfl, q2⟩
theorem ps_dput (hu : X.A.units + 1 < cLine) (ho : PE X o td) (hi : PE X i ty) (hv : PE X value tv) (hs : swapsWith value (some (.Subscript o i pos')) pos.line X.env = pure false) :
    PS X (.Assign [.Subscript o i pos'] value pos) (sDPut td ty tv) := by
  intro pins s σ H D I h
  refine wpAny_Assign_Subscript (thn (hv pins s σ H _ I h) fun r s1 ⟨v, H1, I1, rv, q1⟩ => thn (ho pins s1 σ H1 _ I1 q1) fun u s2 ⟨x, H2, I2, rx, q2⟩ => thn (hi pins s2 σ H2 _ I2 q2) fun iv s3 ⟨y, H3, I3, ry, a, H4, ex, g, q3⟩ => ?_) hs
  subst ex
  obtain rfl : u = Value.ref a := rx
  exact d_setItem hu I3 g ry rv fun s4 I4 => ⟨σ, H4, I4, q3⟩
theorem ps_daug {op : Operator} {rd : V → V → Hp → VK → Prop} (hu : X.A.units + 1 < cLine) (ho : PE X o td) (hi : PE X i ty) (hv : PE X value tv) (hop : InOp X op rd)
    (ha : ∀ ov iv new, augStore i ov iv new = (do holding [new, ov, iv] (setItem ov iv new); release [new, ov, iv] []; pure .next)) : PS X (.AugAssign (.Subscript o i tpos) op value pos) (sDAug td ty tv rd) := by
  intro pins s σ H D I h
  refine wpAny_AugAssign_SubscriptAny (thn (ho pins s σ H _ I h) fun u s1 ⟨x, H1, I1, rx, q1⟩ => thn (hi pins s1 σ H1 _ I1 q1) fun iv s2 ⟨y, H2, I2, ry, a, v, ex, g, q2⟩ => ?_) ha
  subst ex
  obtain rfl : u = Value.ref a := rx
  refine d_getItem hu I2 g ry fun w' s3 I3 rw' => thn (hv pins s3 σ H2 _ I3 q2) fun w2 s4 ⟨y2, H3, I4, ry2, q3⟩ => thn (hop pins s4 σ H3 v y2 w' w2 _ I4 rw' ry2 q3) fun w3 s5 ⟨z, H4, I5, rz, H5, g5, q4⟩ => ?_
  exact d_setItem hu I5 g5 ry rz fun s6 I6 => ⟨σ, H5, I6, q4⟩
theorem ps_ddel (ho : PE X o td) (hi : PE X i ty) : PS X (.Delete [.Subscript o i tpos] pos) (sDDel td ty) := by
  intro pins s σ H D I h
  refine wpAny_Delete (wpAny_deleteEach_cons (wpAny_delete_Subscript (thn (ho pins s σ H _ I h) fun u s1 ⟨x, H1, I1, rx, q1⟩ => thn (hi pins s1 σ H1 _ I1 q1) fun iv s2 ⟨y, H2, I2, ry, a, kvs, k, ex, e, ey, l, q2⟩ => ?_)))
  subst ex ey
  obtain rfl : u = Value.ref a := rx
  exact d_delItem I2 e ry l fun s3 I3 => wpAny_deleteEach_nil ⟨σ, _, I3, q2⟩
end


/-! ### displays -/
theorem dk_empty {P : Program} {w : World} {H : Hp} (h : Heap) (hb : sysModules < h.objs.size) : ObjOk P w H (h.push { cls := .type "dict", data := .dict #[] }) h.objs.size (.dK []) :=
  ⟨Nat.zero_le _, beq_eq_false_iff_ne.mpr (Ne.symm (Nat.ne_of_lt hb)), [], .nil, Heap.DictOf.new h⟩
theorem dt_empty {P : Program} {w : World} {H : Hp} (h : Heap) (hb : sysModules < h.objs.size) : ObjOk P w H (h.push { cls := .type "dict", data := .dict #[] }) h.objs.size (.dT []) :=
  ⟨Nat.zero_le _, beq_eq_false_iff_ne.mpr (Ne.symm (Nat.ne_of_lt hb)), [], .nil, _, #[], 0, Heap.get?_push_size _ rfl, ⟨rfl, rfl, rfl⟩, rfl, rfl, List.nodup_nil⟩
/-- {}, to be a dict of the kind that is wanted -/
def tDNewK : TE := fun _ H Q => ∀ p, H p = none → Q (.ref p) (upd H p (.dK []))
def tDNewT : TE := fun _ H Q => ∀ p, H p = none → Q (.ref p) (upd H p (.dT []))
section
variable {X : Cx} {pos : Pos}
theorem pe_dnewK : PE X (.Dict [] [] pos) tDNewK := fun pins s σ H Q I h =>
  wpAny_Dict_empty ⟨.ref s.heap.objs.size, _, I.laid (a := s.heap.objs.size) (o := .dK []) (t' := s.toks) (fun _ _ q => Heap.get?_push_of_some _ q) (Nat.le_refl _) (dk_empty s.heap I.big), rfl, h _ (I.hok.fresh (Nat.le_refl _))⟩
theorem pe_dnewT : PE X (.Dict [] [] pos) tDNewT := fun pins s σ H Q I h =>
  wpAny_Dict_empty ⟨.ref s.heap.objs.size, _, I.laid (a := s.heap.objs.size) (o := .dT []) (t' := s.toks) (fun _ _ q => Heap.get?_push_of_some _ q) (Nat.le_refl _) (dt_empty s.heap I.big), rfl, h _ (I.hok.fresh (Nat.le_refl _))⟩
end

/-- the pairs of a display, from the left -/
def tPairs : List (TE × TE) → St → Hp → (List (V × V) → Hp → Prop) → Prop
  | [], _, H, Q => Q [] H
  | (tk, tv) :: r, σ, H, Q => tk σ H fun x H1 => tv σ H1 fun y H2 => tPairs r σ H2 fun ps H3 => Q ((x, y) :: ps) H3
abbrev VV : List (V × V) → List (Value × Value) → Prop := Paired fun p q => RelV p.1 q.1 ∧ RelV p.2 q.2
def PPs (X : Cx) (pos : Pos) (keys : List (Option Expr)) (values : List Expr) (trs : List (TE × TE)) : Prop :=
  ∀ (pins : List (Addr × Obj)) (s : Shared) (σ : St) (H : Hp) (Q : List (V × V) → Hp → Prop), Inv X pins σ H s → tPairs trs σ H Q →
    wpAny (model X.prog X.w) X.A (evalPairs (pairTrees keys values X.env pos)) (fun vs s' => ∃ ps H', Inv X pins σ H' s' ∧ VV ps vs ∧ Q ps H') X.xe s
theorem pps_nil {X : Cx} {pos : Pos} : PPs X pos [] [] [] := fun pins s σ H Q I h => pairTrees_nil_walk ⟨[], H, I, .nil, h⟩
theorem pps_cons {X : Cx} {pos : Pos} {k v : Expr} {ks : List (Option Expr)} {vs : List Expr} {tk tv : TE} {trs : List (TE × TE)} (hk : PE X k tk) (hv : PE X v tv) (hr : PPs X pos ks vs trs) :
    PPs X pos (some k :: ks) (v :: vs) ((tk, tv) :: trs) := fun pins s σ H Q I h =>
  pairTrees_cons_walk (thn (hk pins s σ H _ I h) fun u s1 ⟨x, H1, I1, rx, q1⟩ => thn (hv pins s1 σ H1 _ I1 q1) fun w2 s2 ⟨y, H2, I2, ry, q2⟩ =>
    thn (hr pins s2 σ H2 _ I2 q2) fun ws s3 ⟨ps, H3, I3, rel, q3⟩ => ⟨(x, y) :: ps, H3, I3, .cons ⟨rx, ry⟩ rel, q3⟩)

def mergeK (kvs more : List (Key × V)) : List (Key × V) := more.foldl (fun acc kv => putK acc kv.1 kv.2) kvs
theorem KV.merge : ∀ {more : List (Key × V)} {rs : List (Key × Value)} {kvs : List (Key × V)} {vs : List (Key × Value)}, KV more rs → KV kvs vs → KV (mergeK kvs more) (merged vs rs) := by
  intro more rs kvs vs r
  unfold KV at r
  induction r generalizing kvs vs with
  | nil => intro q; exact q
  | @cons p q ps qs h t ih =>
    intro r0
    have e : KV (putK kvs p.1 p.2) (stored vs q.1 q.2) := by
      have := r0.put p.1 h.2
      rw [← h.1]; exact this
    exact ih e
theorem length_mergeK : ∀ (more kvs : List (Key × V)), (mergeK kvs more).length ≤ kvs.length + more.length
  | [], kvs => by show kvs.length ≤ kvs.length + 0; omega
  | p :: r, kvs => by
    have h1 := length_mergeK r (putK kvs p.1 p.2)
    have h2 := length_putK kvs p.1 p.2
    show (mergeK (putK kvs p.1 p.2) r).length ≤ _
    rw [List.length_cons]; omega
theorem carries_of {P : Program} {w : World} : ∀ {kvs : List (Key × V)} {ws : List (Value × Value)}, VV (kvs.map fun kv => (kV kv.1, kv.2)) ws → ∃ rs, Carries (mixKind P w) ws rs ∧ KV kvs rs
  | [], _, r => by rw [List.map_nil] at r; cases r; exact ⟨[], True.intro, .nil⟩
  | p :: kvs, _, r => by
    rw [List.map_cons] at r
    cases r with
    | @cons a b as bs h t =>
      obtain ⟨rs, c, q⟩ := carries_of (P := P) (w := w) t
      obtain ⟨b1, b2⟩ := b
      exact ⟨(p.1, b2) :: rs, ⟨kV_is h.1, rfl, c⟩, .cons ⟨rfl, h.2⟩ q⟩
/-- {k: v, ..} with keys ints and texts; the new dict stands empty while the pairs are made -/
def tDisp (trs : List (TE × TE)) : TE := fun σ H Q => ∀ p, H p = none → tPairs trs σ (upd H p (.dK [])) fun ps H2 => H2 p = some (.dK []) ∧ ∃ kvs : List (Key × V), ps = kvs.map (fun kv => (kV kv.1, kv.2)) ∧ kvs.length ≤ 15 ∧ Q (.ref p) (upd H2 p (.dK (mergeK [] kvs)))
theorem pe_disp {X : Cx} {pos : Pos} {keys : List (Option Expr)} {values : List Expr} {trs : List (TE × TE)} (h : PPs X pos keys values trs) (hall : keys.all (·.isSome) = true) (hl : keys.length = values.length) (h0 : keys ≠ [])
    (h15 : keys.length ≤ 15) : PE X (.Dict keys values pos) (tDisp trs) := by
  intro pins s σ H Q I q
  have hn := I.hok.fresh (Nat.le_refl s.heap.objs.size)
  have I1 := I.laid (a := s.heap.objs.size) (o := .dK []) (h' := s.heap.push { cls := .type "dict", data := .dict #[] }) (t' := s.toks) (fun _ _ q => Heap.get?_push_of_some _ q) (Nat.le_refl _) (dk_empty s.heap I.big)
  refine wpAny_Dict_walk (knd := mixKind X.prog X.w) hall hl h0 h15 (thn (h pins _ σ _ _ I1 (q _ hn)) fun ws s2 ⟨ps, H2, I2, rel, e, kvs, ep, lk, q2⟩ => ?_)
  subst ep
  obtain ⟨rs, c, rk⟩ := carries_of (P := X.prog) (w := X.w) rel
  obtain ⟨z, hd, vs0, r0, dd⟩ := dk_of I2.hok e
  cases r0
  refine ⟨rs, c, dd, fun h' dd' hs => ⟨.ref s.heap.objs.size, _, ?_, rfl, q2⟩⟩
  have hz : (mergeK [] kvs).length ≤ sizeLine := by
    have h1 := length_mergeK kvs []
    rw [List.length_nil] at h1
    rw [sizeLine_eq]; omega
  have he : ∃ q, h'.get? s.heap.objs.size = some q := let ⟨q, _, _, hq, _⟩ := dd'; ⟨q, hq⟩
  exact d_write I2 (by rw [e]; exact True.intro) hs he (dk_new hz hd (rk.merge .nil) dd')


/-! ### methods -/
/-- a method call o.m(e) of a built-in, with one argument: what must be seen of the text -/
structure M1 (X : Cx) (o : Expr) (m : Str) (apos : Pos) (e : Expr) (cpos : Pos) : Prop where
  base : attributeBase o m X.env (eval o X.env) = eval o X.env
  few : ((backTo cpos (starEach [e] X.env)).all (fun x => !x.1) && (backToKw cpos (keywordEach [] X.env)).all (fun x => x.1.isSome)
    && decide (([e] : List Expr).length + ([] : List Keyword).length + (if ([] : List Keyword).isEmpty then 0 else 1) < 30)) = true
  line : (apos.endLine == cpos.line) = true
  trees : backTo cpos (starEach [e] X.env) = [(false, eval e X.env)]
structure M2 (X : Cx) (o : Expr) (m : Str) (apos : Pos) (e f : Expr) (cpos : Pos) : Prop where
  base : attributeBase o m X.env (eval o X.env) = eval o X.env
  few : ((backTo cpos (starEach [e, f] X.env)).all (fun x => !x.1) && (backToKw cpos (keywordEach [] X.env)).all (fun x => x.1.isSome)
    && decide (([e, f] : List Expr).length + ([] : List Keyword).length + (if ([] : List Keyword).isEmpty then 0 else 1) < 30)) = true
  line : (apos.endLine == cpos.line) = true
  trees : backTo cpos (starEach [e, f] X.env) = [(false, eval e X.env), (false, eval f X.env)]

/-- a is a dict, whatever its keys -/
def IsD (H : Hp) (a : Addr) : Prop := (∃ kvs, Rd H a (.dK kvs)) ∨ ∃ kvs, Rd H a (.dT kvs)
theorem isD_at {X : Cx} {pins : List (Addr × Obj)} {σ : St} {H : Hp} {s : Shared} {a : Addr} (I : Inv X pins σ H s) (d : IsD H a) :
    s.TypeIs (.ref a) "dict" ∧ (∀ b, Value.ref a = .ref b → ∃ ob, s.heap.get? b = some ob ∧ ob.dict = none) ∧ (a == sysModules) = false := by
  rcases d with ⟨kvs, e⟩ | ⟨kvs, e⟩
  · obtain ⟨_, hd, vs, _, dd⟩ := dk_rd I.hok e
    refine ⟨dd.typeIs, fun b q => ?_, hd⟩
    cases q
    obtain ⟨ob, _, _, h1, h2, _⟩ := dd
    exact ⟨ob, h1, h2.2.1⟩
  · obtain ⟨_, hd, xs, _, dd⟩ := dt_rd I.hok e
    refine ⟨dd.typeIs, fun b q => ?_, hd⟩
    cases q
    obtain ⟨ob, _, _, h1, h2, _⟩ := dd
    exact ⟨ob, h1, h2.2.1⟩

section
variable {X : Cx} {pins : List (Addr × Obj)} {σ : St} {H : Hp} {s : Shared} {a : Addr} {y d : V} {u r : Value} {o : Option V} {A : Around} {E : Value → Shared → Prop}
/-- d.get(y) -/
theorem d_get1 {Q : Value → Shared → Prop} (hu : A.units + 1 < cLine) (I : Inv X pins σ H s) (g : DGet H a y o) (ry : RelV y u) (h : ∀ w' s', Inv X pins σ H s' → RelV (o.getD .non) w' → Q w' s') :
    wpAny (model X.prog X.w) A (call (.builtin "dict.get") [.ref a, u]) Q E s := by
  rcases g with ⟨kvs, k, e, ey, l⟩ | ⟨kvs, k, b, e, ey, eb, l⟩
  · subst ey
    obtain ⟨z, hd, vs, rel, dd⟩ := dk_rd I.hok e
    refine call_meetsIn PySem.F.slot_dict_get dd.typeIs PySem.F.entry_dict_get (PySem.F.args_dict_get_2 _ _) (meets_dict_get (mixKind X.prog X.w) a (kV_is ry) hd) ⟨_, dd.mapOf, h _ _ (I.tok _) ?_⟩
    rw [l]
    exact (rel.val k).getD rfl
  · subst ey
    cases (show u = Value.ref b from ry)
    obtain ⟨z, hd, xs, rel, dd⟩ := dt_rd I.hok e
    refine call_meetsIn PySem.F.slot_dict_get dd.typeIs PySem.F.entry_dict_get (PySem.F.args_dict_get_2 _ _) (meetsH_dict_get (tupleKind (mixKind X.prog X.w)) a b hd) ⟨tupleKind_room_in1 hu, k, xs, key_of I.hok eb, dd, h _ _ (I.tok _) ?_⟩
    rw [l]
    exact (rel.val k).getD rfl
/-- d.get(y, x) -/
theorem d_get2 {Q : Value → Shared → Prop} (hu : A.units + 1 < cLine) (I : Inv X pins σ H s) (g : DGet H a y o) (ry : RelV y u) (rd : RelV d r) (h : ∀ w' s', Inv X pins σ H s' → RelV (o.getD d) w' → Q w' s') :
    wpAny (model X.prog X.w) A (call (.builtin "dict.get") [.ref a, u, r]) Q E s := by
  rcases g with ⟨kvs, k, e, ey, l⟩ | ⟨kvs, k, b, e, ey, eb, l⟩
  · subst ey
    obtain ⟨z, hd, vs, rel, dd⟩ := dk_rd I.hok e
    refine call_meetsIn PySem.F.slot_dict_get dd.typeIs PySem.F.entry_dict_get (PySem.F.args_dict_get_3 _ _ _) (meets_dict_get_default (mixKind X.prog X.w) a (kV_is ry) hd r) ⟨_, dd.mapOf, h _ _ (I.tok _) ?_⟩
    rw [l]
    exact (rel.val k).getD rd
  · subst ey
    cases (show u = Value.ref b from ry)
    obtain ⟨z, hd, xs, rel, dd⟩ := dt_rd I.hok e
    refine call_meetsIn PySem.F.slot_dict_get dd.typeIs PySem.F.entry_dict_get (PySem.F.args_dict_get_3 _ _ _) (meetsH_dict_get_default (tupleKind (mixKind X.prog X.w)) a b hd r) ⟨tupleKind_room_in1 hu, k, xs, key_of I.hok eb, dd, h _ _ (I.tok _) ?_⟩
    rw [l]
    exact (rel.val k).getD rd
end

def tDGet1 (td ty : TE) : TE := fun σ H Q => td σ H fun x H1 => ∃ a, x = .ref a ∧ IsD H1 a ∧ ty σ H1 fun y H2 => ∃ o, DGet H2 a y o ∧ Q (o.getD .non) H2
def tDGet2 (td ty tx : TE) : TE := fun σ H Q => td σ H fun x H1 => ∃ a, x = .ref a ∧ IsD H1 a ∧ ty σ H1 fun y H2 => tx σ H2 fun z H3 => ∃ o, DGet H3 a y o ∧ Q (o.getD z) H3
/-- d.pop(k): there; d.pop(k, x): there or not -/
def tDPop1 (td ty : TE) : TE := fun σ H Q => td σ H fun x H1 => ∃ a, x = .ref a ∧ IsD H1 a ∧ ty σ H1 fun y H2 => ∃ kvs k v, H2 a = some (.dK kvs) ∧ y = kV k ∧ valV kvs k = some v ∧ Q v (upd H2 a (.dK (dropK kvs k)))
def tDPop2 (td ty tx : TE) : TE := fun σ H Q => td σ H fun x H1 => ∃ a, x = .ref a ∧ IsD H1 a ∧ ty σ H1 fun y H2 => tx σ H2 fun z H3 => ∃ kvs k, H3 a = some (.dK kvs) ∧ y = kV k ∧
  (∀ v, valV kvs k = some v → Q v (upd H3 a (.dK (dropK kvs k)))) ∧ (valV kvs k = none → Q z H3)
section
variable {X : Cx} {o e f : Expr} {apos cpos : Pos} {td ty tx : TE}
theorem pe_dget1 (hu : X.A.units + 1 < cLine) (ho : PE X o td) (he : PE X e ty) (m : M1 X o "get" apos e cpos) : PE X (.Call (.Attribute o "get" apos) [e] [] cpos) (tDGet1 td ty) := by
  intro pins s σ H Q I h
  refine wpAny_Call_method m.base m.few m.line PySem.F.plainAttrs_dict PySem.F.slot_dict_get PySem.F.type_dict_get (thn (ho pins s σ H _ I h) fun u s1 ⟨x, H1, I1, rx, a, ex, d, q1⟩ => ?_)
  subst ex
  obtain rfl : u = Value.ref a := rx
  obtain ⟨t1, t2, _⟩ := isD_at I1 d
  refine ⟨t1, t2, ?_⟩
  rw [m.trees]
  refine Calls.callWith_builtin rfl (Calls.evalArgs_plain (Calls.spliced_cons (thn (he pins s1 σ H1 _ I1 q1) fun iv s2 ⟨y, H2, I2, ry, ov, g, q2⟩ => Calls.spliced_nil ?_)))
  exact d_get1 hu I2 g ry fun w' s3 I3 rw' => ⟨_, H2, I3, rw', q2⟩
theorem pe_dget2 (hu : X.A.units + 1 < cLine) (ho : PE X o td) (he : PE X e ty) (hf : PE X f tx) (m : M2 X o "get" apos e f cpos) : PE X (.Call (.Attribute o "get" apos) [e, f] [] cpos) (tDGet2 td ty tx) := by
  intro pins s σ H Q I h
  refine wpAny_Call_method m.base m.few m.line PySem.F.plainAttrs_dict PySem.F.slot_dict_get PySem.F.type_dict_get (thn (ho pins s σ H _ I h) fun u s1 ⟨x, H1, I1, rx, a, ex, d, q1⟩ => ?_)
  subst ex
  obtain rfl : u = Value.ref a := rx
  obtain ⟨t1, t2, _⟩ := isD_at I1 d
  refine ⟨t1, t2, ?_⟩
  rw [m.trees]
  refine Calls.callWith_builtin rfl (Calls.evalArgs_plain (Calls.spliced_cons (thn (he pins s1 σ H1 _ I1 q1) fun iv s2 ⟨y, H2, I2, ry, q2⟩ =>
    Calls.spliced_cons (thn (hf pins s2 σ H2 _ I2 q2) fun fv s3 ⟨z, H3, I3, rz, ov, g, q3⟩ => Calls.spliced_nil ?_))))
  exact d_get2 hu I3 g ry rz fun w' s4 I4 rw' => ⟨_, H3, I4, rw', q3⟩
theorem pe_dpop1 (ho : PE X o td) (he : PE X e ty) (m : M1 X o "pop" apos e cpos) : PE X (.Call (.Attribute o "pop" apos) [e] [] cpos) (tDPop1 td ty) := by
  intro pins s σ H Q I h
  refine wpAny_Call_method m.base m.few m.line PySem.F.plainAttrs_dict PySem.F.slot_dict_pop PySem.F.type_dict_pop (thn (ho pins s σ H _ I h) fun u s1 ⟨x, H1, I1, rx, a, ex, d, q1⟩ => ?_)
  subst ex
  obtain rfl : u = Value.ref a := rx
  obtain ⟨t1, t2, _⟩ := isD_at I1 d
  refine ⟨t1, t2, ?_⟩
  rw [m.trees]
  refine Calls.callWith_builtin rfl (Calls.evalArgs_plain (Calls.spliced_cons (thn (he pins s1 σ H1 _ I1 q1) fun iv s2 ⟨y, H2, I2, ry, kvs, k, v, ea, ey, l, q2⟩ => Calls.spliced_nil ?_)))
  subst ey
  exact d_pop I2 ea ry l (.inl rfl) fun w' s3 I3 rw' => ⟨v, _, I3, rw', q2⟩
theorem pe_dpop2 (ho : PE X o td) (he : PE X e ty) (hf : PE X f tx) (m : M2 X o "pop" apos e f cpos) : PE X (.Call (.Attribute o "pop" apos) [e, f] [] cpos) (tDPop2 td ty tx) := by
  intro pins s σ H Q I h
  refine wpAny_Call_method m.base m.few m.line PySem.F.plainAttrs_dict PySem.F.slot_dict_pop PySem.F.type_dict_pop (thn (ho pins s σ H _ I h) fun u s1 ⟨x, H1, I1, rx, a, ex, d, q1⟩ => ?_)
  subst ex
  obtain rfl : u = Value.ref a := rx
  obtain ⟨t1, t2, _⟩ := isD_at I1 d
  refine ⟨t1, t2, ?_⟩
  rw [m.trees]
  refine Calls.callWith_builtin rfl (Calls.evalArgs_plain (Calls.spliced_cons (thn (he pins s1 σ H1 _ I1 q1) fun iv s2 ⟨y, H2, I2, ry, q2⟩ =>
    Calls.spliced_cons (thn (hf pins s2 σ H2 _ I2 q2) fun fv s3 ⟨z, H3, I3, rz, kvs, k, ea, ey, q3, q4⟩ => Calls.spliced_nil ?_))))
  subst ey
  cases l : valV kvs k with
  | some v => exact d_pop I3 ea ry l (.inr ⟨fv, rfl⟩) fun w' s4 I4 rw' => ⟨v, _, I4, rw', q3 v l⟩
  | none => exact d_popD I3 ea ry l fun s4 I4 => ⟨z, H3, I4, rz, q4 l⟩
end

/-! ### dict(d): a copy -/
section
variable {X : Cx} {pins : List (Addr × Obj)} {σ : St} {H : Hp} {s : Shared} {a : Addr} {kvs : List (Key × V)} {A : Around} {E : Value → Shared → Prop}
theorem d_copyOf {Q : Value → Shared → Prop} (I : Inv X pins σ H s) (e : Rd H a (.dK kvs)) (h : ∀ p s', H p = none → Inv X pins σ (upd H p (.dK kvs)) s' → Q (.ref p) s') : wpAny (model X.prog X.w) A (call (.type "dict") [.ref a]) Q E s := by
  obtain ⟨z, hd, vs, rel, dd⟩ := dk_rd I.hok e
  refine kt_call_dict hd dd (by rw [← rel.length]; exact z) fun h' dd' hs => ?_
  refine h _ _ (I.hok.fresh (Nat.le_refl _)) (I.laid (a := s.heap.objs.size) (o := .dK kvs) (t' := s.toks) (fun b q hq => ?_) (Nat.le_refl _) (dk_new z (beq_eq_false_iff_ne.mpr (Ne.symm (Nat.ne_of_lt I.big))) rel dd'))
  exact (hs.2 b (Nat.ne_of_lt (Heap.lt_size hq))).trans (Heap.get?_push_of_some _ hq)
end


section
variable {X : Cx} {pins : List (Addr × Obj)} {σ : St} {H : Hp} {s : Shared} {a : Addr} {y : V} {u : Value} {A : Around} {E : Value → Shared → Prop}
/-- d[y], not there: a KeyError -/
theorem d_missing {Q : Value → Shared → Prop} (hu : A.units + 1 < cLine) (hh : A.handled = none) (I : Inv X pins σ H s) (g : DGet H a y none) (ry : RelV y u)
    (h : ∀ h' e t', Heap.NewExc s.heap h' e "KeyError" → E (.ref e) { s with heap := h', toks := t' }) : wpAny (model X.prog X.w) A (getItem (.ref a) u) Q E s := by
  rcases g with ⟨kvs, k, e, ey, l⟩ | ⟨kvs, k, b, e, ey, eb, l⟩
  · subst ey
    obtain ⟨z, hd, vs, rel, dd⟩ := dk_rd I.hok e
    have hn : valueAt vs k = none := RelO.none_of (by rw [l]; exact rel.val k)
    exact wpAny_getItem_missing_of (kV_is ry) hd hh dd.mapOf hn fun h' ex ne => h h' ex _ ne
  · subst ey
    cases (show u = Value.ref b from ry)
    obtain ⟨z, hd, xs, rel, dd⟩ := dt_rd I.hok e
    have hn : (atKey xs k).map (·.2) = none := RelO.none_of (by rw [l]; exact rel.val k)
    exact wpAny_getItem_missing_heap (tupleKind_room_in1 hu) (key_of I.hok eb) hd hh dd (Option.map_eq_none_iff.mp hn) fun h' ex ne => h h' ex _ ne
end
end L2

namespace L2
open PySem PySem.Spec PyProof.Rows
section
variable {X : Cx}
/-- len of a dict -/
theorem call_lenD : CallR X (.builtin "len") (fun xs H Q => ∃ a kvs, xs = [V.ref a] ∧ H a = some (.dK kvs) ∧ Q (.int kvs.length) H) := by
  intro pins s σ H xs us Q I r h
  obtain ⟨a, kvs, rfl, ha, q⟩ := h
  obtain ⟨u, rfl, ru⟩ := vals1 r
  cases ru
  exact d_len I (.inl ha) fun t s' I' => ⟨.int kvs.length, H, I', ⟨t, rfl⟩, q⟩
end
/-! ### a dict's pairs: keys that differ -/
section
variable {κ : Type} [DecidableEq κ]
theorem valV_not {kvs : List (κ × V)} {k : κ} (h : valV kvs k = none) : ¬ k ∈ kvs.map (·.1) := by
  intro m
  obtain ⟨p, hp, e⟩ := List.mem_map.mp m
  have q : (kvs.any fun kv => decide (kv.1 = k)) = true := List.any_eq_true.mpr ⟨p, hp, decide_eq_true e⟩
  rw [valV_any, h] at q
  exact absurd q (by simp)
theorem valV_in {kvs : List (κ × V)} {k : κ} {v : V} (h : valV kvs k = some v) : k ∈ kvs.map (·.1) := by
  have q : (kvs.any fun kv => decide (kv.1 = k)) = true := by
    rw [valV_any, h]
    all_goals rfl
  obtain ⟨p, hp, e⟩ := List.any_eq_true.mp q
  exact List.mem_map.mpr ⟨p, hp, of_decide_eq_true e⟩
theorem nd_snoc : ∀ {l : List κ} {k : κ}, l.Nodup → ¬ k ∈ l → (l ++ [k]).Nodup
  | [], k, _, _ => by simp
  | a :: r, k, h, hk => by
    obtain ⟨h1, h2⟩ := List.nodup_cons.mp h
    show (a :: (r ++ [k])).Nodup
    refine List.nodup_cons.mpr ⟨fun m => ?_, nd_snoc h2 fun m => hk (List.mem_cons.mpr (Or.inr m))⟩
    rcases List.mem_append.mp m with q | q
    · exact h1 q
    · exact hk (List.mem_cons.mpr (Or.inl (List.mem_singleton.mp q).symm))
theorem nd_putK {kvs : List (κ × V)} {k : κ} (v : V) (hn : (kvs.map (·.1)).Nodup) (h : valV kvs k = none) : ((putK kvs k v).map (·.1)).Nodup := by
  rw [putK_new v h, List.map_append]
  exact nd_snoc hn (valV_not h)
theorem dropK_pos {p : κ × V} {r : List (κ × V)} {k : κ} (e : p.1 = k) : dropK (p :: r) k = dropK r k := by
  unfold dropK
  rw [List.filter_cons, if_neg (by simp [e])]
theorem dropK_neg {p : κ × V} {r : List (κ × V)} {k : κ} (e : ¬ p.1 = k) : dropK (p :: r) k = p :: dropK r k := by
  unfold dropK
  rw [List.filter_cons, if_pos (by simp [e])]
theorem dropK_no : ∀ {kvs : List (κ × V)} {k : κ}, ¬ k ∈ kvs.map (·.1) → dropK kvs k = kvs
  | [], _, _ => rfl
  | p :: r, k, h => by
    have h' : ¬ k ∈ r.map (·.1) := fun m => by
      obtain ⟨q, hq, e⟩ := List.mem_map.mp m
      exact h (List.mem_map.mpr ⟨q, List.mem_cons.mpr (Or.inr hq), e⟩)
    rw [dropK_neg fun e => h (List.mem_map.mpr ⟨p, List.mem_cons.mpr (Or.inl rfl), e⟩), dropK_no h']
theorem dropK_mem {kvs : List (κ × V)} {k : κ} {p : κ × V} (h : p ∈ dropK kvs k) : p ∈ kvs := (List.mem_filter.mp h).1
theorem nd_dropK : ∀ {kvs : List (κ × V)} {k : κ}, (kvs.map (·.1)).Nodup → ((dropK kvs k).map (·.1)).Nodup
  | [], _, _ => List.nodup_nil
  | p :: r, k, h => by
    have h : (p.1 :: r.map (·.1)).Nodup := h
    obtain ⟨h1, h2⟩ := List.nodup_cons.mp h
    by_cases e : p.1 = k
    · rw [dropK_pos e]
      exact nd_dropK h2
    · rw [dropK_neg e]
      show (p.1 :: (dropK r k).map (·.1)).Nodup
      refine List.nodup_cons.mpr ⟨fun m => h1 ?_, nd_dropK h2⟩
      obtain ⟨q, hq, eq⟩ := List.mem_map.mp m
      exact List.mem_map.mpr ⟨q, dropK_mem hq, eq⟩
theorem dropK_len : ∀ {kvs : List (κ × V)} {k : κ}, (kvs.map (·.1)).Nodup → k ∈ kvs.map (·.1) → (dropK kvs k).length + 1 = kvs.length
  | [], _, _, m => by simp at m
  | p :: r, k, h, m => by
    have h : (p.1 :: r.map (·.1)).Nodup := h
    have m : k = p.1 ∨ k ∈ r.map (·.1) := List.mem_cons.mp m
    obtain ⟨h1, h2⟩ := List.nodup_cons.mp h
    by_cases e : p.1 = k
    · subst e
      rw [dropK_pos rfl, dropK_no h1]
      all_goals rfl
    · have m' : k ∈ r.map (·.1) := m.resolve_left fun z => e z.symm
      have q := dropK_len h2 m'
      rw [dropK_neg e, List.length_cons, List.length_cons]
      omega
end
end L2

set_option maxHeartbeats 4000000
/-! The layer of pure data over the hand layer: tuples are data, lists and instances stand in a heap of data. -/
namespace DL
open PySem PySem.Spec PyProof.Rows L2
abbrev St := L2.St

/-- a value with its tuples opened -/
inductive D where
  | non | bl (b : Bool) | int (i : Int) | str (x : Str) | ref (a : Addr) | ty (n : String) | tup (ds : List D) | rol (ds : List D)

/-- a list that never changes: the script -/
def SqF (K : PySem.W.Frag) (H : Hp) (a : Addr) (xs : List V) : Prop :=
  (∃ o, H a = some (.frz o (.lst xs))) ∨
    ∃ (o : Obj) (its : Array Value) (n : Nat), K.lookup a = some o ∧ o.cls = .type "list" ∧ o.dict = none ∧ o.data = .seq its n ∧ its.size ≤ sizeLine ∧ Vals xs its.toList
theorem SqF.sq {K : PySem.W.Frag} {H : Hp} {a : Addr} {xs : List V} (h : SqF K H a xs) : SqL K H a xs := by
  rcases h with ⟨o, h⟩ | h
  · exact .inl (.inr ⟨o, h⟩)
  · exact .inr h
mutual
inductive Is (K : PySem.W.Frag) (H : Hp) : V → D → Prop where
  | non : Is K H .non .non
  | bl (b : Bool) : Is K H (.bl b) (.bl b)
  | int (i : Int) : Is K H (.int i) (.int i)
  | str (x : Str) : Is K H (.str x) (.str x)
  | ref (a : Addr) : Is K H (.ref a) (.ref a)
  | ty (n : String) : Is K H (.ty n) (.ty n)
  | tup {a : Addr} {xs : List V} {ds : List D} : SqT K H a xs → Iss K H xs ds → Is K H (.ref a) (.tup ds)
  | rol {a : Addr} {xs : List V} {ds : List D} : SqF K H a xs → Iss K H xs ds → Is K H (.ref a) (.rol ds)
inductive Iss (K : PySem.W.Frag) (H : Hp) : List V → List D → Prop where
  | nil : Iss K H [] []
  | cons {x : V} {d : D} {xs : List V} {ds : List D} : Is K H x d → Iss K H xs ds → Iss K H (x :: xs) (d :: ds)
end

/-- the tuples that stood stand, the script too -/
structure Ext0 (K : PySem.W.Frag) (H H' : Hp) : Prop where
  t : ∀ a xs, SqT K H a xs → SqT K H' a xs
  f : ∀ a xs, SqF K H a xs → SqF K H' a xs
/-- and what is known stays known -/
structure Ext (K : PySem.W.Frag) (H H' : Hp) : Prop where
  t : ∀ a xs, SqT K H a xs → SqT K H' a xs
  z : ∀ a o u, H a = some (.frz o u) → H' a = some (.frz o u)
theorem Ext.f {K : PySem.W.Frag} {H H' : Hp} (e : Ext K H H') : ∀ a xs, SqF K H a xs → SqF K H' a xs := fun a xs h => by
  rcases h with ⟨o, h⟩ | h
  · exact .inl ⟨o, e.z _ _ _ h⟩
  · exact .inr h
theorem Ext.e0 {K : PySem.W.Frag} {H H' : Hp} (e : Ext K H H') : Ext0 K H H' := ⟨e.t, e.f⟩
theorem Ext.refl {K : PySem.W.Frag} (H : Hp) : Ext K H H := ⟨fun _ _ h => h, fun _ _ _ h => h⟩
theorem Ext.trans {K : PySem.W.Frag} {H H1 H2 : Hp} (a : Ext K H H1) (b : Ext K H1 H2) : Ext K H H2 := ⟨fun c o h => b.t c o (a.t c o h), fun c o u h => b.z c o u (a.z c o u h)⟩

section
variable {K : PySem.W.Frag} {H H' : Hp}
mutual
theorem Is.mono0 (e : Ext0 K H H') : ∀ {v : V} {d : D}, Is K H v d → Is K H' v d
  | _, _, .non => .non
  | _, _, .bl b => .bl b
  | _, _, .int i => .int i
  | _, _, .str x => .str x
  | _, _, .ref a => .ref a
  | _, _, .ty n => .ty n
  | _, _, .tup h hs => .tup (e.t _ _ h) (Iss.mono0 e hs)
  | _, _, .rol h hs => .rol (e.f _ _ h) (Iss.mono0 e hs)
theorem Iss.mono0 (e : Ext0 K H H') : ∀ {vs : List V} {ds : List D}, Iss K H vs ds → Iss K H' vs ds
  | _, _, .nil => .nil
  | _, _, .cons h t => .cons (Is.mono0 e h) (Iss.mono0 e t)
end
theorem Is.mono (e : Ext K H H') {v : V} {d : D} (h : Is K H v d) : Is K H' v d := h.mono0 e.e0
theorem Iss.mono (e : Ext K H H') {vs : List V} {ds : List D} (h : Iss K H vs ds) : Iss K H' vs ds := h.mono0 e.e0
theorem Iss.length : ∀ {vs : List V} {ds : List D}, Iss K H vs ds → vs.length = ds.length
  | _, _, .nil => rfl
  | _, _, .cons _ t => congrArg (· + 1) (Iss.length t)
theorem Iss.get : ∀ {vs : List V} {ds : List D} {i : Nat} {d : D}, Iss K H vs ds → ds[i]? = some d → ∃ v, vs[i]? = some v ∧ Is K H v d
  | _, _, _, _, .nil, e => by simp at e
  | _, _, 0, _, .cons h _, e => by simp at e; subst e; exact ⟨_, rfl, h⟩
  | _, _, i + 1, d, .cons _ t, e => by
    obtain ⟨u, h1, h2⟩ := Iss.get (i := i) (d := d) t (by simpa using e)
    exact ⟨u, by simpa using h1, h2⟩
theorem Iss.getV : ∀ {vs : List V} {ds : List D} {i : Nat} {v : V}, Iss K H vs ds → vs[i]? = some v → ∃ d, ds[i]? = some d ∧ Is K H v d
  | _, _, _, _, .nil, e => by simp at e
  | _, _, 0, _, .cons h _, e => by simp at e; subst e; exact ⟨_, rfl, h⟩
  | _, _, i + 1, v, .cons _ t, e => by
    obtain ⟨u, h1, h2⟩ := Iss.getV (i := i) (v := v) t (by simpa using e)
    exact ⟨u, by simpa using h1, h2⟩
theorem Iss.append : ∀ {vs ws : List V} {ds es : List D}, Iss K H vs ds → Iss K H ws es → Iss K H (vs ++ ws) (ds ++ es)
  | _, _, _, _, .nil, s => s
  | _, _, _, _, .cons r t, s => .cons r (Iss.append t s)
theorem Iss.take : ∀ {vs : List V} {ds : List D} (n : Nat), Iss K H vs ds → Iss K H (vs.take n) (ds.take n)
  | _, _, 0, _ => .nil
  | _, _, _ + 1, .nil => .nil
  | _, _, n + 1, .cons r t => .cons r (Iss.take n t)
theorem Iss.drop : ∀ {vs : List V} {ds : List D} (n : Nat), Iss K H vs ds → Iss K H (vs.drop n) (ds.drop n)
  | _, _, 0, r => r
  | _, _, _ + 1, .nil => .nil
  | _, _, n + 1, .cons _ t => Iss.drop n t
theorem Iss.set {x : V} {d : D} (r : Is K H x d) : ∀ {vs : List V} {ds : List D} (i : Nat), Iss K H vs ds → Iss K H (vs.set i x) (ds.set i d)
  | _, _, _, .nil => .nil
  | _, _, 0, .cons _ t => .cons r t
  | _, _, i + 1, .cons q t => .cons q (Iss.set r i t)
theorem Iss.dropLast {vs : List V} {ds : List D} (h : Iss K H vs ds) : Iss K H vs.dropLast ds.dropLast := by
  rw [List.dropLast_eq_take, List.dropLast_eq_take, h.length]
  exact h.take _
end

/-- what changes: a list, a dict, an instance -/
inductive MO where
  | lst (ds : List D) | dic (kvs : List (Key × D)) | fdc (kvs : List (Key × D)) | ins (C dx : Addr) (fs : List (Str × D))
abbrev DH := Addr → Option MO
def updM (M : DH) (a : Addr) (o : MO) : DH := fun b => if b = a then some o else M b
theorem updM_same {M : DH} {a : Addr} {o : MO} : updM M a o a = some o := by unfold updM; rw [if_pos rfl]
theorem updM_ne {M : DH} {a b : Addr} {o : MO} (h : b ≠ a) : updM M a o b = M b := by unfold updM; rw [if_neg h]
theorem updM_upd {M : DH} {a : Addr} {o u : MO} : updM (updM M a o) a u = updM M a u := by
  funext b; unfold updM; split <;> rfl

def MOk (K : PySem.W.Frag) (H : Hp) (a : Addr) : MO → Prop
  | .lst ds => ∃ xs, H a = some (.lst xs) ∧ Iss K H xs ds
  | .dic kvs => ∃ kx, H a = some (.dK kx) ∧ Paired (fun (p : Key × V) (q : Key × D) => p.1 = q.1 ∧ Is K H p.2 q.2) kx kvs
  | .fdc kvs => ∃ o kx, H a = some (.frz o (.dK kx)) ∧ Paired (fun (p : Key × V) (q : Key × D) => p.1 = q.1 ∧ Is K H p.2 q.2) kx kvs
  | .ins C dx fs => ∃ fx, H a = some (.ins C dx fx) ∧ H dx = some (.own a) ∧ Paired (fun (p : Str × V) (q : Str × D) => p.1 = q.1 ∧ Is K H p.2 q.2) fx fs
def HAbs (K : PySem.W.Frag) (M : DH) (H : Hp) : Prop := ∀ a o, M a = some o → MOk K H a o
/-- a smaller view -/
def Sub (M M' : DH) : Prop := ∀ a o, M a = some o → M' a = some o
theorem Sub.refl (M : DH) : Sub M M := fun _ _ h => h
theorem Sub.trans {M M1 M2 : DH} (a : Sub M M1) (b : Sub M1 M2) : Sub M M2 := fun c o h => b c o (a c o h)
theorem Sub.new {M : DH} {p : Addr} {o : MO} (h : M p = none) : Sub M (updM M p o) := fun a u e => by
  rw [updM_ne (by intro z; subst z; rw [h] at e; cases e)]; exact e

section
variable {K : PySem.W.Frag} {M M' : DH} {H H' : Hp} {a p : Addr}
theorem HAbs.sub (h : HAbs K M H) (s : Sub M' M) : HAbs K M' H := fun a o e => h a o (s a o e)
theorem HAbs.free (h : HAbs K M H) (e : H p = none) : M p = none := by
  cases q : M p with
  | none => rfl
  | some o =>
    have z := h p o q
    cases o with
    | lst ds => obtain ⟨xs, z, _⟩ := z; rw [e] at z; cases z
    | dic kvs => obtain ⟨xs, z, _⟩ := z; rw [e] at z; cases z
    | fdc kvs => obtain ⟨o, xs, z, _⟩ := z; rw [e] at z; cases z
    | ins C dx fs => obtain ⟨xs, z, _⟩ := z; rw [e] at z; cases z
theorem ext_upd {o : HO} (h : ∀ xs, ¬ Rd H p (.tup xs)) (h' : ∀ o u, H p ≠ some (.frz o u)) : Ext K H (upd H p o) := ⟨fun a xs s => by
  rcases s with s | s
  · refine .inl ?_
    have hne : a ≠ p := by intro z; subst z; exact h xs s
    rcases s with s | ⟨u, s⟩
    · exact .inl (by rw [upd_ne hne]; exact s)
    · exact .inr ⟨u, by rw [upd_ne hne]; exact s⟩
  · exact .inr s, fun a u x s => by rw [upd_ne (by intro z; subst z; exact h' u x s)]; exact s⟩
theorem ext_new {o : HO} (h : H p = none) : Ext K H (upd H p o) := ext_upd (fun xs s => by
  rcases s with s | ⟨u, s⟩ <;> rw [h] at s <;> cases s) (fun u xs s => by rw [h] at s; cases s)
theorem sqL_upd {o : HO} {xs : List V} (s : SqL K H a xs) (hne : a ≠ p) : SqL K (upd H p o) a xs := by
  rcases s with (s | ⟨u, s⟩) | s
  · exact .inl (.inl (by rw [upd_ne hne]; exact s))
  · exact .inl (.inr ⟨u, by rw [upd_ne hne]; exact s⟩)
  · exact .inr s
/-- a list that is read -/
abbrev LstAt (M : DH) (a : Addr) (ds : List D) : Prop := M a = some (.lst ds)
theorem HAbs.lst {ds : List D} (h : HAbs K M H) (e : LstAt M a ds) : ∃ xs, SqL K H a xs ∧ Iss K H xs ds := by
  obtain ⟨xs, h1, h2⟩ := h a _ e; exact ⟨xs, .inl (.inl h1), h2⟩
theorem _root_.PySem.Paired.impP {α β : Type} {F G : α → β → Prop} (f : ∀ a b, F a b → G a b) : ∀ {l₁ : List α} {l₂ : List β}, Paired F l₁ l₂ → Paired G l₁ l₂
  | _, _, .nil => .nil
  | _, _, .cons r t => .cons (f _ _ r) (PySem.Paired.impP f t)
theorem MOk.mono {o : MO} (e : Ext0 K H H') (hk : ∀ u, H a = some u → H' a = some u) (ho : ∀ dx, H dx = some (.own a) → H' dx = some (.own a)) (h : MOk K H a o) : MOk K H' a o := by
  cases o with
  | lst ds => obtain ⟨xs, h1, h2⟩ := h; exact ⟨xs, hk _ h1, h2.mono0 e⟩
  | dic kvs => obtain ⟨xs, h1, h2⟩ := h; exact ⟨xs, hk _ h1, h2.impP fun p q ⟨r1, r2⟩ => ⟨r1, r2.mono0 e⟩⟩
  | fdc kvs => obtain ⟨o, xs, h1, h2⟩ := h; exact ⟨o, xs, hk _ h1, h2.impP fun p q ⟨r1, r2⟩ => ⟨r1, r2.mono0 e⟩⟩
  | ins C dx fs => obtain ⟨xs, h1, h3, h2⟩ := h; exact ⟨xs, hk _ h1, ho _ h3, h2.impP fun p q ⟨r1, r2⟩ => ⟨r1, r2.mono0 e⟩⟩
/-- a new object -/
theorem HAbs.new {o : HO} (h : HAbs K M H) (e : H p = none) : HAbs K M (upd H p o) := fun a u q =>
  (h a u q).mono (ext_new e).e0 (fun v z => by rw [upd_ne (ne_of_none z e)]; exact z) (fun dx z => by rw [upd_ne (ne_of_none z e)]; exact z)
theorem HAbs.newM {o : HO} {m : MO} (h : HAbs K M H) (e : H p = none) (hm : MOk K (upd H p o) p m) : HAbs K (updM M p m) (upd H p o) := fun a u q => by
  by_cases z : a = p
  · subst z; rw [updM_same] at q; cases q; exact hm
  · rw [updM_ne z] at q; exact h.new e a u q
theorem HAbs.newL {es : List D} {ys : List V} (h : HAbs K M H) (e : H p = none) (i : Iss K H ys es) : HAbs K (updM M p (.lst es)) (upd H p (.lst ys)) := h.newM e (show MOk K _ p (.lst es) from ⟨ys, upd_same, i.mono (ext_new e)⟩)
/-- a list is changed -/
theorem HAbs.setL {ds es : List D} {xs ys : List V} (h : HAbs K M H) (e : M p = some (.lst ds)) (hx : H p = some (.lst xs)) (hy : Iss K H ys es) :
    HAbs K (updM M p (.lst es)) (upd H p (.lst ys)) ∧ Ext K H (upd H p (.lst ys)) := by
  have ex : Ext K H (upd H p (.lst ys)) := ext_upd (fun zs s => by rcases s with s | ⟨u, s⟩ <;> rw [hx] at s <;> cases s) (fun u xs s => by rw [hx] at s; cases s)
  refine ⟨fun a u q => ?_, ex⟩
  by_cases z : a = p
  · subst z; rw [updM_same] at q; cases q; exact ⟨ys, upd_same, hy.mono ex⟩
  · rw [updM_ne z] at q
    exact (h a u q).mono ex.e0 (fun v w => by rw [upd_ne z]; exact w) (fun dx w => by rw [upd_ne (ne_of w hx (by intro k; cases k))]; exact w)
end

abbrev DSt := List (Option D)
abbrev KD := D → DH → Prop
abbrev TEd := DSt → DH → KD → Prop
abbrev TTd := DSt → DH → (Bool → DH → Prop) → Prop
abbrev TAd := DSt → DH → (List D → DH → Prop) → Prop
structure EndsD where
  nx : DSt → DH → Prop
  rt : KD
  bk : DSt → DH → Prop := fun _ _ => False
  ct : DSt → DH → Prop := fun _ _ => False
abbrev TSd := EndsD → DSt → DH → Prop

/-- the names' values -/
def SAbs (K : PySem.W.Frag) (τ : DSt) (σ : St) (H : Hp) : Prop := τ.length = σ.length ∧ ∀ (i : Nat) d, τ[i]? = some (some d) → ∃ v, σ[i]? = some (some v) ∧ Is K H v d
theorem SAbs.mono0 {K : PySem.W.Frag} {τ : DSt} {σ : St} {H H' : Hp} (e : Ext0 K H H') (h : SAbs K τ σ H) : SAbs K τ σ H' :=
  ⟨h.1, fun i d q => let ⟨v, h1, h2⟩ := h.2 i d q; ⟨v, h1, h2.mono0 e⟩⟩
theorem SAbs.mono {K : PySem.W.Frag} {τ : DSt} {σ : St} {H H' : Hp} (e : Ext K H H') (h : SAbs K τ σ H) : SAbs K τ σ H' := h.mono0 e.e0
theorem SAbs.set {K : PySem.W.Frag} {τ : DSt} {σ : St} {H : Hp} {i : Nat} {v : V} {d : D} (h : SAbs K τ σ H) (r : Is K H v d) : SAbs K (τ.set i (some d)) (σ.set i (some v)) H := by
  refine ⟨by rw [List.length_set, List.length_set]; exact h.1, fun j e q => ?_⟩
  rw [List.getElem?_set] at q
  by_cases hj : i = j
  · subst hj
    rw [if_pos rfl] at q
    by_cases hl : i < τ.length
    · rw [if_pos hl] at q
      cases q
      exact ⟨v, by rw [List.getElem?_set, if_pos rfl, if_pos (by rw [← h.1]; exact hl)], r⟩
    · rw [if_neg hl] at q; cases q
  · rw [if_neg hj] at q
    obtain ⟨u, h1, h2⟩ := h.2 j e q
    exact ⟨u, by rw [List.getElem?_set, if_neg hj]; exact h1, h2⟩

def lowQ (K : PySem.W.Frag) (H : Hp) (Q' : KD) (Q : VK) : Prop := ∀ d M1 v H1, HAbs K M1 H1 → Ext K H H1 → Is K H1 v d → Q' d M1 → Q v H1
def low (K : PySem.W.Frag) (te : TEd) : TE := fun σ H Q => ∃ τ M Q', SAbs K τ σ H ∧ HAbs K M H ∧ te τ M Q' ∧ lowQ K H Q' Q
def lowT (K : PySem.W.Frag) (te : TTd) : TT := fun σ H Q => ∃ τ M Q', SAbs K τ σ H ∧ HAbs K M H ∧ te τ M Q' ∧ ∀ b M1 H1, HAbs K M1 H1 → Ext K H H1 → Q' b M1 → Q b H1
def lowA (K : PySem.W.Frag) (te : TAd) : TA := fun σ H Q => ∃ τ M Q', SAbs K τ σ H ∧ HAbs K M H ∧ te τ M Q' ∧ ∀ ds M1 vs H1, HAbs K M1 H1 → Ext K H H1 → Iss K H1 vs ds → Q' ds M1 → Q vs H1
structure LowD (K : PySem.W.Frag) (H : Hp) (D' : EndsD) (D : Ends) : Prop where
  nx : ∀ τ M σ H1, SAbs K τ σ H1 → HAbs K M H1 → Ext K H H1 → D'.nx τ M → D.nx σ H1
  rt : lowQ K H D'.rt D.rt
  bk : ∀ τ M σ H1, SAbs K τ σ H1 → HAbs K M H1 → Ext K H H1 → D'.bk τ M → D.bk σ H1
  ct : ∀ τ M σ H1, SAbs K τ σ H1 → HAbs K M H1 → Ext K H H1 → D'.ct τ M → D.ct σ H1
def lowS (K : PySem.W.Frag) (t : TSd) : TS := fun D σ H => ∃ τ M D', SAbs K τ σ H ∧ HAbs K M H ∧ t D' τ M ∧ LowD K H D' D
theorem lowQ.ext {K : PySem.W.Frag} {H H' : Hp} {Q' : KD} {Q : VK} (h : lowQ K H Q' Q) (e : Ext K H H') : lowQ K H' Q' Q := fun d M1 v H1 a b c q => h d M1 v H1 a (e.trans b) c q
theorem LowD.ext {K : PySem.W.Frag} {H H' : Hp} {D' : EndsD} {D : Ends} (h : LowD K H D' D) (e : Ext K H H') : LowD K H' D' D :=
  ⟨fun τ M σ H1 a b c q => h.nx τ M σ H1 a b (e.trans c) q, h.rt.ext e, fun τ M σ H1 a b c q => h.bk τ M σ H1 a b (e.trans c) q, fun τ M σ H1 a b c q => h.ct τ M σ H1 a b (e.trans c) q⟩

section
variable {X : Cx} {e a b c : Expr} {es : List Expr} {pos : Pos}
theorem _root_.L2.PE.imp {t t' : TE} (h : PE X e t) (hi : ∀ σ H Q, t' σ H Q → t σ H Q) : PE X e t' := fun pins s σ H Q I q => h pins s σ H Q I (hi _ _ _ q)
theorem _root_.L2.PT.imp {t t' : TT} (h : PT X e t) (hi : ∀ σ H Q, t' σ H Q → t σ H Q) : PT X e t' := fun pins s σ H Q I q => h pins s σ H Q I (hi _ _ _ q)
theorem _root_.L2.PW.imp {t t' : TT} (h : PW X e t) (hi : ∀ σ H Q, t' σ H Q → t σ H Q) : PW X e t' := fun wh pins s σ H Q I q => h wh pins s σ H Q I (hi _ _ _ q)
theorem _root_.L2.PA.imp {t t' : TA} (h : PA X es t) (hi : ∀ σ H Q, t' σ H Q → t σ H Q) : PA X es t' := fun p pins s σ H Q I q => h p pins s σ H Q I (hi _ _ _ q)
theorem _root_.L2.PS.imp {st : Stmt} {t t' : TS} (h : PS X st t) (hi : ∀ D σ H, t' D σ H → t D σ H) : PS X st t' := fun pins s σ H D I q => h pins s σ H D I (hi _ _ _ q)
theorem _root_.L2.PSs.imp {st : List Stmt} {t t' : TS} (h : PSs X st t) (hi : ∀ D σ H, t' D σ H → t D σ H) : PSs X st t' := fun pins s σ H D I q => h pins s σ H D I (hi _ _ _ q)

/-! ### names, constants -/
def onBl : D → (Bool → Prop) → Prop
  | .bl k, Q => Q k
  | _, _ => False
def onInt : D → (Int → Prop) → Prop
  | .int i, Q => Q i
  | _, _ => False
def onVal : Option (Option D) → (D → Prop) → Prop
  | some (some d), Q => Q d
  | _, _ => False
def onSome {α : Type} : Option α → (α → Prop) → Prop
  | some a, Q => Q a
  | none, _ => False
theorem onVal_some {o : Option (Option D)} {Q : D → Prop} (h : onVal o Q) : ∃ d, o = some (some d) ∧ Q d := by
  match o, h with
  | some (some d), h => exact ⟨d, rfl, h⟩
def eVar (i : Nat) : TEd := fun τ M Q => onVal τ[i]? fun d => Q d M
def eC (d : D) : TEd := fun _ M Q => Q d M
theorem d_var (i : Nat) {x : Str} (hN : X.N[i]? = some x := by rfl) (hv : Vis X.env.scope x := by first | exact Or.inl rfl | exact Or.inr (Or.inl rfl) | exact Or.inr (Or.inr rfl)) (hd : (x == ("__debug__" : Str)) = false := by decide)
    (hcd : (x == ("__classdict__" : Str)) = false := by decide) : PE X (.Name x pos) (low X.K (eVar i)) :=
  (pe_var hN hv hd hcd).imp fun σ H Q ⟨τ, M, Q', hs, hm, h, hq⟩ => by
    obtain ⟨d, hd', h⟩ := onVal_some h
    obtain ⟨v, h1, h2⟩ := hs.2 i d hd'
    exact ⟨v, h1, hq d M v H hm (Ext.refl H) h2 h⟩
theorem low_const {d : D} {v : V} (hv : ∀ H, Is X.K H v d) {σ : St} {H : Hp} {Q : VK} (h : low X.K (eC d) σ H Q) : tC v σ H Q :=
  let ⟨_, M, _, _, hm, q, hq⟩ := h; hq d M v H hm (Ext.refl H) (hv H) q
theorem d_int {i j} : PE X (.Constant (.int i) j pos) (low X.K (eC (.int i))) := pe_int.imp fun _ _ _ h => low_const (fun _ => .int i) h
theorem d_bl {b j} : PE X (.Constant (.bool b) j pos) (low X.K (eC (.bl b))) := pe_bl.imp fun _ _ _ h => low_const (fun _ => .bl b) h
theorem d_non {j} : PE X (.Constant .none j pos) (low X.K (eC .non)) := pe_non.imp fun _ _ _ h => low_const (fun _ => .non) h
theorem d_str {x j} : PE X (.Constant (.str x) j pos) (low X.K (eC (.str x))) := pe_str.imp fun _ _ _ h => low_const (fun _ => .str x) h
theorem d_glob_int {x : Str} {i : Int} {u : Value} (hg : Gl X x) (hm : X.mg x = some u) (r : ∃ t, u = Value.int i t) (hd : (x == ("__debug__" : Str)) = false := by decide) : PE X (.Name x pos) (low X.K (eC (.int i))) :=
  (pe_glob (v := .int i) hg hm r hd).imp fun _ _ _ h => low_const (fun _ => .int i) h

/-! ### operations of two values -/
abbrev RD2 := D → D → DH → KD → Prop
def lowR2 (K : PySem.W.Frag) (r : RD2) : R2 := fun vx vy H Q => ∃ x y M Q', Is K H vx x ∧ Is K H vy y ∧ HAbs K M H ∧ r x y M Q' ∧ lowQ K H Q' Q
def OpD (X : Cx) (f : Value → Value → Sem Value) (r : RD2) : Prop := OpR X f (lowR2 X.K r)
def eOp (r : RD2) (ta tb : TEd) : TEd := fun τ M Q => ta τ M fun x M1 => tb τ M1 fun y M2 => r x y M2 Q
theorem low_op {K : PySem.W.Frag} {r : RD2} {ta tb : TEd} {σ : St} {H : Hp} {Q : VK} (h : low K (eOp r ta tb) σ H Q) : tOp (lowR2 K r) (low K ta) (low K tb) σ H Q := by
  obtain ⟨τ, M, Q', hs, hm, h, hq⟩ := h
  refine ⟨τ, M, _, hs, hm, h, fun x M1 vx H1 m1 e1 i1 h1 => ?_⟩
  refine ⟨τ, M1, _, hs.mono e1, m1, h1, fun y M2 vy H2 m2 e2 i2 h2 => ?_⟩
  exact ⟨x, y, M2, Q', i1.mono e2, i2, m2, h2, hq.ext (e1.trans e2)⟩
variable {ta tb tc : TEd}
theorem d_op {op : Operator} {r : RD2} (ho : OpD X (binaryOp op) r) (ha : PE X a (low X.K ta)) (hb : PE X b (low X.K tb)) : PE X (.BinOp a op b pos) (low X.K (eOp r ta tb)) :=
  (pe_op ho ha hb).imp fun _ _ _ h => low_op h
theorem d_cmp {op : CmpOp} {r : RD2} (ho : OpD X (compareOp op) r) (ha : PE X a (low X.K ta)) (hb : PE X b (low X.K tb)) (hm : behindInMarks op b = false) : PE X (.Compare a [op] [b] pos) (low X.K (eOp r ta tb)) :=
  (pe_cmpR ho ha hb hm).imp fun _ _ _ h => low_op h
/-- a test that is a truth value -/
def eTest (t : TEd) : TTd := fun τ M Q => t τ M fun x M' => onBl x fun k => Q k M'
theorem dt_cmp {op : CmpOp} {r : RD2} (ho : OpD X (compareOp op) r) (ha : PE X a (low X.K ta)) (hb : PE X b (low X.K tb)) (hm : behindInMarks op b = false) : PT X (.Compare a [op] [b] pos) (lowT X.K (eTest (eOp r ta tb))) := by
  refine (pt_cmpR ho ha hb hm).imp fun σ H Q h => ?_
  obtain ⟨τ, M, Q', hs, hm', h, hq⟩ := h
  refine low_op ⟨τ, M, _, hs, hm', h, fun d M1 v H1 m1 e1 i1 h1 => ?_⟩
  cases i1 with
  | bl k => exact ⟨k, rfl, hq k M1 H1 m1 e1 h1⟩
  | _ => exact h1.elim
/-- an op1 b op2 c -/
def eChain (r r' : RD2) (ta tb tc : TEd) : TEd := fun τ M Q => ta τ M fun x M1 => tb τ M1 fun y M2 => r x y M2 fun z M3 => onBl z fun k => if k = true then tc τ M3 fun w' M4 => r' y w' M4 Q else Q (.bl false) M3
theorem low_chain {K : PySem.W.Frag} {r r' : RD2} {ta tb tc : TEd} {σ : St} {H : Hp} {Q : VK} (h : low K (eChain r r' ta tb tc) σ H Q) : tChain (lowR2 K r) (lowR2 K r') (low K ta) (low K tb) (low K tc) σ H Q := by
  obtain ⟨τ, M, Q', hs, hm, h, hq⟩ := h
  refine ⟨τ, M, _, hs, hm, h, fun x M1 vx H1 m1 e1 i1 h1 => ?_⟩
  refine ⟨τ, M1, _, hs.mono e1, m1, h1, fun y M2 vy H2 m2 e2 i2 h2 => ?_⟩
  refine ⟨x, y, M2, _, i1.mono e2, i2, m2, h2, fun z M3 vz H3 m3 e3 i3 h3 => ?_⟩
  cases i3 with
  | bl k =>
    refine ⟨k, rfl, ?_⟩
    cases k with
    | true =>
      rw [if_pos rfl]
      have h3 : tc τ M3 fun w' M4 => r' y w' M4 Q' := h3
      refine ⟨τ, M3, _, hs.mono (e1.trans (e2.trans e3)), m3, h3, fun w M4 vw H4 m4 e4 i4 h4 => ?_⟩
      exact ⟨y, w, M4, Q', i2.mono (e3.trans e4), i4, m4, h4, hq.ext (e1.trans (e2.trans (e3.trans e4)))⟩
    | false =>
      rw [if_neg Bool.false_ne_true]
      have h3 : Q' (.bl false) M3 := h3
      exact hq _ M3 _ H3 m3 (e1.trans (e2.trans e3)) (.bl false) h3
  | _ => exact h3.elim
theorem d_chain {op op' : CmpOp} {r r' : RD2} (ho : OpD X (compareOp op) r) (ho' : OpD X (compareOp op') r') (ha : PE X a (low X.K ta)) (hb : PE X b (low X.K tb)) (hc : PE X c (low X.K tc))
    (hm : lastMarks [op, op'] [b, c] = false := by with_unfolding_all rfl) : PE X (.Compare a [op, op'] [b, c] pos) (low X.K (eChain r r' ta tb tc)) :=
  (pe_chain ho ho' ha hb hc hm).imp fun _ _ _ h => low_chain h
theorem dt_chain {op op' : CmpOp} {r r' : RD2} (ho : OpD X (compareOp op) r) (ho' : OpD X (compareOp op') r') (ha : PE X a (low X.K ta)) (hb : PE X b (low X.K tb)) (hc : PE X c (low X.K tc))
    (hm : lastMarks [op, op'] [b, c] = false := by with_unfolding_all rfl) : PT X (.Compare a [op, op'] [b, c] pos) (lowT X.K (eTest (eChain r r' ta tb tc))) := by
  refine (pt_chain ho ho' ha hb hc hm).imp fun σ H Q h => ?_
  obtain ⟨τ, M, Q', hs, hm', h, hq⟩ := h
  refine low_chain ⟨τ, M, _, hs, hm', h, fun d M1 v H1 m1 e1 i1 h1 => ?_⟩
  cases i1 with
  | bl k => exact ⟨k, rfl, hq k M1 H1 m1 e1 h1⟩
  | _ => exact h1.elim
end
end DL

/-! Operations, subscripts, calls, statements over data. -/
namespace DL
open PySem PySem.Spec PyProof.Rows L2

section
variable {X : Cx} {e a b c : Expr} {es : List Expr} {pos : Pos} {ta tb tc : TEd}
theorem lowQ.here {K : PySem.W.Frag} {H : Hp} {Q' : KD} {Q : VK} {M : DH} {d : D} {v : V} (hq : lowQ K H Q' Q) (hm : HAbs K M H) (i : Is K H v d) (q : Q' d M) : Q v H := hq d M v H hm (Ext.refl H) i q

/-! ### ints -/
def dI (g : Int → Int → D) : D → D → DH → KD → Prop
  | .int i, .int j, M, Q => Q (g i j) M
  | _, _, _, _ => False
def dIC (C : Int → Int → Prop) (g : Int → Int → D) : D → D → DH → KD → Prop
  | .int i, .int j, M, Q => C i j ∧ Q (g i j) M
  | _, _, _, _ => False
theorem od_I {f : Value → Value → Sem Value} {g : Int → Int → Int} (h : OpR X f (rI0 fun i j => .int (g i j))) : OpD X f (dI fun i j => .int (g i j)) := by
  intro pins s σ H vx vy v u Q I rx ry ⟨x, y, M, Q', ix, iy, hm, q, hq⟩
  cases ix <;> cases iy <;> first | exact q.elim | exact h pins s σ H _ _ v u Q I rx ry ⟨_, _, rfl, rfl, hq.here hm (.int _) q⟩
theorem od_IC {f : Value → Value → Sem Value} {C : Int → Int → Prop} {g : Int → Int → Int} (h : OpR X f (rI C fun i j => .int (g i j))) : OpD X f (dIC C fun i j => .int (g i j)) := by
  intro pins s σ H vx vy v u Q I rx ry ⟨x, y, M, Q', ix, iy, hm, q, hq⟩
  cases ix <;> cases iy <;> first | exact q.elim | exact h pins s σ H _ _ v u Q I rx ry ⟨_, _, rfl, rfl, q.1, hq.here hm (.int _) q.2⟩
theorem od_B {f : Value → Value → Sem Value} {g : Int → Int → Bool} (h : OpR X f (rI0 fun i j => .bl (g i j))) : OpD X f (dI fun i j => .bl (g i j)) := by
  intro pins s σ H vx vy v u Q I rx ry ⟨x, y, M, Q', ix, iy, hm, q, hq⟩
  cases ix <;> cases iy <;> first | exact q.elim | exact h pins s σ H _ _ v u Q I rx ry ⟨_, _, rfl, rfl, hq.here hm (.bl _) q⟩
theorem od_sub : OpD X (binaryOp .Sub) (dI fun i j => .int (i - j)) := od_I op_sub
theorem od_mod : OpD X (binaryOp .Mod) (dIC (fun _ j => 0 < j) fun i j => .int (i % j)) := od_IC op_mod
theorem od_fdiv : OpD X (binaryOp .FloorDiv) (dIC CDiv fun i j => .int (i / j)) := od_IC op_fdiv
theorem od_pow : OpD X (binaryOp .Pow) (dIC CPow fun i j => .int (i ^ j.toNat)) := od_IC op_pow
theorem od_lt : OpD X (compareOp .Lt) (dI fun i j => .bl (decide (i < j))) := od_B op_lt
theorem od_gt : OpD X (compareOp .Gt) (dI fun i j => .bl (decide (j < i))) := od_B op_gt
theorem od_ge : OpD X (compareOp .GtE) (dI fun i j => .bl (decide (j ≤ i))) := od_B op_ge
/-- <= of ints, of texts -/
def leD : D → D → DH → KD → Prop
  | .int i, .int j, M, Q => Q (.bl (decide (i ≤ j))) M
  | .str i, .str j, M, Q => Q (.bl (decide (i.cps.toList ≤ j.cps.toList))) M
  | _, _, _, _ => False

/-! ### + -/
theorem cat_tup0 {t b : Addr} {ws : List Value} {prog : Program} {w : World} {A : Around} {E : Value → Shared → Prop} {s : Shared} {Q : Value → Shared → Prop} (ht : IsTup s.heap t #[]) (hb : IsTup s.heap b ws.toArray)
    (h : Q (.ref b) s) : wpAny (model prog w) A (binaryOp .Add (.ref t) (.ref b)) Q E s := by
  obtain ⟨⟨cls, dd, data, sl⟩, ho, hc, n, hd⟩ := id ht
  obtain ⟨⟨cls2, dd2, data2, sl2⟩, ho2, hc2, n2, hd2⟩ := id hb
  simp only at hc hd hc2 hd2
  subst hc hd hc2 hd2
  exact concat_meets ⟨_, ho, rfl⟩ ⟨_, ho2, rfl⟩ noFill_tuple_add seq_tuple_add PySem.F.slot_tuple_add PySem.F.entry_tuple_add (PySem.F.args_tuple_add_2 _ _)
      (tuple_addW0 t b #[] ws.toArray n n2 dd dd2 sl sl2 (by simp)) ⟨ho, ho2, h⟩
def addD : D → D → DH → KD → Prop
  | .int i, .int j, M, Q => Q (.int (i + j)) M
  | .str i, .str j, M, Q => i.length + j.length ≤ sizeLine ∧ Q (.str (i ++ j)) M
  | .tup xs, .tup ys, M, Q => xs.length + ys.length ≤ sizeLine ∧ Q (.tup (xs ++ ys)) M
  | .ref l, .ref r, M, Q => ∃ xs ys, LstAt M l xs ∧ LstAt M r ys ∧ xs.length + ys.length ≤ sizeLine ∧ ∀ p, M p = none → Q (.ref p) (updM M p (.lst (xs ++ ys)))
  | .rol xs, .ref r, M, Q => ∃ ys, LstAt M r ys ∧ xs.length + ys.length ≤ sizeLine ∧ ∀ p, M p = none → Q (.ref p) (updM M p (.lst (xs ++ ys)))
  | _, _, _, _ => False
theorem add_lists {pins : List (Addr × Obj)} {σ : St} {H : Hp} {s : Shared} {M : DH} {Q' : KD} {Q : VK} {l r : Addr} {us ws : List V} {xs ys : List D} (I : Inv X pins σ H s) (hm : HAbs X.K M H) (hu : SqL X.K H l us) (i1 : Iss X.K H us xs) (hw : SqL X.K H r ws) (i2 : Iss X.K H ws ys)
    (hz : xs.length + ys.length ≤ sizeLine) (q : ∀ p, M p = none → Q' (.ref p) (updM M p (.lst (xs ++ ys)))) (hq : lowQ X.K H Q' Q) : wpAny (model X.prog X.w) X.A (binaryOp .Add (.ref l) (.ref r)) (EP X pins σ Q) X.xe s := by
  obtain ⟨its, r1, p1, _⟩ := I.list hu
  obtain ⟨its2, r2, p2, _⟩ := I.list hw
  obtain ⟨⟨cls, dd, data, sl⟩, ho, hc, n, hd⟩ := p1.isList
  obtain ⟨⟨cls2, dd2, data2, sl2⟩, ho2, hc2, n2, hd2⟩ := p2.isList
  simp only at hc hd hc2 hd2
  subst hc hd hc2 hd2
  have hz' : its.toArray.size + its2.toArray.size ≤ sizeLine := by
    rw [List.size_toArray, List.size_toArray, ← r1.length, ← r2.length, i1.length, i2.length]; exact hz
  have ea : its.toArray ++ its2.toArray = (its ++ its2).toArray := by simp
  refine concat_meets ⟨_, ho, rfl⟩ ⟨_, ho2, rfl⟩ noFill_list_add seq_list_add PySem.F.slot_list_add PySem.F.entry_list_add (PySem.F.args_list_add_2 _ _) (list_addW l r its.toArray its2.toArray n n2 dd dd2 sl sl2 hz') ⟨ho, ho2, ?_⟩
  rw [ea]
  have hf : H s.heap.objs.size = none := I.fresh
  refine ⟨.ref _, _, I.lnew (t' := s.toks) (r1.append r2) (by rw [List.length_append, i1.length, i2.length]; exact hz), rfl, ?_⟩
  exact hq _ _ _ _ (hm.newL hf (i1.append i2)) (ext_new hf) (.ref _) (q _ (hm.free hf))
theorem od_add : OpD X (binaryOp .Add) addD := by
  intro pins s σ H vx vy v u Q I rx ry ⟨x, y, M, Q', ix, iy, hm, q, hq⟩
  cases ix with
  | int i => cases iy with
    | int j => exact op_add pins s σ H _ _ v u Q I rx ry ⟨_, _, rfl, rfl, hq.here hm (.int _) q⟩
    | _ => exact q.elim
  | str i => cases iy with
    | str j => exact op_add_str pins s σ H _ _ v u Q I rx ry ⟨_, _, rfl, rfl, q.1, hq.here hm (.str _) q.2⟩
    | _ => exact q.elim
  | @tup a xs ds hx hxs => cases iy with
    | @tup b ys es hy hys =>
      obtain ⟨hz, q⟩ := q
      have hz' : xs.length + ys.length ≤ sizeLine := by rw [hxs.length, hys.length]; exact hz
      by_cases h0 : xs = []
      · subst h0
        cases hxs
        cases rx
        cases ry
        obtain ⟨its, r1, p1, _⟩ := I.tuple hx
        obtain ⟨its2, r2, p2, _⟩ := I.tuple hy
        cases r1
        exact cat_tup0 p1 p2 ⟨.ref b, H, I, rfl, hq.here hm (.tup hy hys) q⟩
      · refine op_catT pins s σ H _ _ v u Q I rx ry ⟨a, b, xs, ys, rfl, rfl, hx, hy, h0, hz', fun z => ?_, fun z p hp => ?_⟩
        · subst z
          cases hys
          rw [List.append_nil] at q
          exact hq.here hm (.tup hx hxs) q
        · exact hq _ M _ _ (hm.new hp) (ext_new hp) (.tup (SqT.of upd_same) ((hxs.append hys).mono (ext_new hp))) q
    | _ => exact q.elim
  | ref l => cases iy with
    | ref r =>
      obtain ⟨xs, ys, hl, hr, hz, q⟩ := q
      cases rx
      cases ry
      obtain ⟨us, hu, i1⟩ := hm.lst hl
      obtain ⟨ws, hw, i2⟩ := hm.lst hr
      exact add_lists I hm hu i1 hw i2 hz q hq
    | _ => exact q.elim
  | rol h hxs => cases iy with
    | ref r =>
      obtain ⟨ys, hr, hz, q⟩ := q
      cases rx
      cases ry
      obtain ⟨ws, hw, i2⟩ := hm.lst hr
      exact add_lists I hm h.sq hxs hw i2 hz q hq
    | _ => exact q.elim
  | _ => exact q.elim

/-! ### * : ints -/
def mulD : RD2 := dIC CMul fun i j => .int (i * j)
theorem od_mul : OpD X (binaryOp .Mult) mulD := od_IC op_mul

/-! ### == -/
mutual
def D.eq : D → D → Bool
  | .non, .non => true
  | .bl a, .bl b => a == b
  | .bl a, .int j => (if a then 1 else 0) == j
  | .int i, .bl b => i == (if b then 1 else 0)
  | .int i, .int j => i == j
  | .str x, .str y => x == y
  | .tup xs, .tup ys => D.eqs xs ys
  | _, _ => false
def D.eqs : List D → List D → Bool
  | [], [] => true
  | x :: xs, y :: ys => D.eq x y && D.eqs xs ys
  | _, _ => false
end
mutual
/-- how deep tuples stand in one another -/
def D.dep : D → Nat
  | .tup ds => D.deps ds + 1
  | _ => 0
def D.deps : List D → Nat
  | [] => 0
  | d :: ds => max (D.dep d) (D.deps ds)
end
mutual
/-- no list within -/
def D.pure : D → Bool
  | .ref _ => false
  | .tup ds => D.pures ds
  | _ => true
def D.pures : List D → Bool
  | [] => true
  | d :: ds => D.pure d && D.pures ds
end
end
end DL

/-! == and != of data. -/
namespace DL
open PySem PySem.Spec PyProof.Rows L2

mutual
/-- the pairs that are compared here: scalars with scalars, tuples with tuples -/
def D.eqOk : D → D → Bool
  | .tup xs, .tup ys => D.eqOks xs ys
  | .tup _, _ => false
  | _, .tup _ => false
  | .ref _, _ => false
  | _, .ref _ => false
  | .ty _, _ => false
  | _, .ty _ => false
  | .rol _, _ => false
  | _, .rol _ => false
  | _, _ => true
def D.eqOks : List D → List D → Bool
  | x :: xs, y :: ys => D.eqOk x y && D.eqOks xs ys
  | _, _ => true
end
def pairEq (xs ys : List D) (j : Nat) : Bool := match xs[j]?, ys[j]? with
  | some x, some y => D.eq x y
  | _, _ => true
theorem eqs_all : ∀ xs ys : List D, ((List.range (min xs.length ys.length)).all (pairEq xs ys) && xs.length == ys.length) = D.eqs xs ys
  | [], [] => by simp [D.eqs]
  | [], y :: ys => by simp [D.eqs]
  | x :: xs, [] => by simp [D.eqs]
  | x :: xs, y :: ys => by
    have ih := eqs_all xs ys
    have e1 : min (x :: xs).length (y :: ys).length = min xs.length ys.length + 1 := by simp [Nat.succ_min_succ]
    rw [e1, List.range_succ_eq_map, List.all_cons, List.all_map]
    have e2 : (pairEq (x :: xs) (y :: ys)) ∘ Nat.succ = pairEq xs ys := by funext j; simp [pairEq]
    rw [e2]
    have e3 : pairEq (x :: xs) (y :: ys) 0 = D.eq x y := rfl
    have e4 : ((x :: xs).length == (y :: ys).length) = (xs.length == ys.length) := by simp
    rw [e3, e4, Bool.and_assoc, ih]
    rfl
theorem eqOks_get : ∀ {xs ys : List D} {j : Nat} {x y : D}, D.eqOks xs ys = true → xs[j]? = some x → ys[j]? = some y → D.eqOk x y = true
  | x :: xs, y :: ys, 0, _, _, h, e1, e2 => by
    simp at e1 e2; subst e1 e2
    simp only [D.eqOks, Bool.and_eq_true] at h; exact h.1
  | x :: xs, y :: ys, j + 1, _, _, h, e1, e2 => by
    simp only [D.eqOks, Bool.and_eq_true] at h
    exact eqOks_get (j := j) h.2 (by simpa using e1) (by simpa using e2)
  | [], _, _, _, _, _, e1, _ => by simp at e1
  | _ :: _, [], _, _, _, _, _, e2 => by simp at e2
theorem deps_get : ∀ {xs : List D} {j : Nat} {x : D}, xs[j]? = some x → D.dep x ≤ D.deps xs
  | x :: xs, 0, _, e => by simp at e; subst e; simp only [D.deps]; omega
  | x :: xs, j + 1, _, e => by
    have := deps_get (xs := xs) (j := j) (by simpa using e)
    simp only [D.deps]; omega
  | [], _, _, e => by simp at e
theorem eq_refl_aux : ∀ n : Nat, (∀ d d' : D, D.dep d ≤ n → D.eqOk d d' = true → d = d' → D.eq d d' = true) := by
  intro n
  induction n with
  | zero =>
    intro d d' h ok e
    subst e
    cases d with
    | tup ds => simp [D.dep] at h
    | ref a => simp [D.eqOk] at ok
    | ty a => simp [D.eqOk] at ok
    | rol a => simp [D.eqOk] at ok
    | _ => simp [D.eq]
  | succ n ih =>
    intro d d' h ok e
    subst e
    cases d with
    | tup ds =>
      simp only [D.dep] at h
      simp only [D.eqOk] at ok
      show D.eqs ds ds = true
      have : ∀ xs : List D, D.deps xs ≤ n → D.eqOks xs xs = true → D.eqs xs xs = true := by
        intro xs
        induction xs with
        | nil => intros; rfl
        | cons x xs ihx =>
          intro h1 h2
          simp only [D.deps] at h1
          simp only [D.eqOks, Bool.and_eq_true] at h2
          simp only [D.eqs, Bool.and_eq_true]
          exact ⟨ih x x (by omega) h2.1 rfl, ihx (by omega) h2.2⟩
      exact this ds (by omega) ok
    | ref a => simp [D.eqOk] at ok
    | ty a => simp [D.eqOk] at ok
    | rol a => simp [D.eqOk] at ok
    | _ => simp [D.eq]
mutual
theorem Is.inj {X : Cx} {pins : List (Addr × Obj)} {σ : St} {H : Hp} {s : Shared} (I : Inv X pins σ H s) : ∀ {v : V} {d d' : D}, Is X.K H v d → Is X.K H v d' → D.eqOk d d' = true → d = d'
  | _, _, _, .non, .non, _ => rfl
  | _, _, _, .bl _, .bl _, _ => rfl
  | _, _, _, .int _, .int _, _ => rfl
  | _, _, _, .str _, .str _, _ => rfl
  | _, _, _, .ref _, .ref _, _ => rfl
  | _, _, _, .ty _, .ty _, _ => rfl
  | _, _, _, .ref _, .tup _ _, h => by simp [D.eqOk] at h
  | _, _, _, .tup _ _, .ref _, h => by simp [D.eqOk] at h
  | _, _, _, .ref _, .rol _ _, h => by simp [D.eqOk] at h
  | _, _, _, .tup _ _, .rol _ _, h => by simp [D.eqOk] at h
  | _, _, _, .rol _ _, .ref _, h => by simp [D.eqOk] at h
  | _, _, _, .rol _ _, .tup _ _, h => by simp [D.eqOk] at h
  | _, _, _, .rol _ _, .rol _ _, h => by simp [D.eqOk] at h
  | _, _, _, .tup h1 i1, .tup h2 i2, h => by
    have e := I.tuple_inj h1 h2
    subst e
    rw [Iss.inj I i1 i2 (by simpa [D.eqOk] using h)]
theorem Iss.inj {X : Cx} {pins : List (Addr × Obj)} {σ : St} {H : Hp} {s : Shared} (I : Inv X pins σ H s) : ∀ {vs : List V} {ds es : List D}, Iss X.K H vs ds → Iss X.K H vs es → D.eqOks ds es = true → ds = es
  | _, _, _, .nil, .nil, _ => rfl
  | _, _, _, .cons i1 t1, .cons i2 t2, h => by
    simp only [D.eqOks, Bool.and_eq_true] at h
    rw [Is.inj I i1 i2 h.1, Iss.inj I t1 t2 h.2]
end
theorem flat_eq {K : PySem.W.Frag} {H : Hp} {v v' : V} {d d' : D} (i : Is K H v d) (i' : Is K H v' d') (ok : D.eqOk d d' = true) (nt : D.dep d = 0) : flatV v = true ∧ flatV v' = true ∧ eqV v v' = D.eq d d' := by
  cases i <;> cases i' <;> first | exact ⟨rfl, rfl, rfl⟩ | (simp [D.eqOk] at ok; done) | (simp [D.dep] at nt; done)
theorem in1_units (A : Around) : A.in1.units = A.units + 1 := rfl
theorem eqAt_D {X : Cx} {pins : List (Addr × Obj)} {σ : St} {H : Hp} {s : Shared} (I : Inv X pins σ H s) : ∀ (n : Nat) (d d' : D) (A : Around) (v v' : V) (u u' : Value), D.dep d ≤ n → A.units + n < cLine → D.eqOk d d' = true →
    Is X.K H v d → Is X.K H v' d' → RelV v u → RelV v' u' → SeqAt.EqAt A s u u' (D.eq d d') ∧ (D.dep d ≠ 0 → SeqAt.RcAt A s u u' (D.eq d d') ∧ SeqAt.RcNeAt A s u u' (!D.eq d d')) := by
  intro n
  induction n with
  | zero =>
    intro d d' A v v' u u' hd hu ok i i' r r'
    obtain ⟨f1, f2, f3⟩ := flat_eq i i' ok (by omega)
    rw [← f3]
    exact ⟨eqAt_V r r' f1 f2, fun z => absurd (by omega) z⟩
  | succ n ih =>
    intro d d' A v v' u u' hd hu ok i i' r r'
    by_cases h0 : D.dep d = 0
    · obtain ⟨f1, f2, f3⟩ := flat_eq i i' ok h0
      rw [← f3]
      exact ⟨eqAt_V r r' f1 f2, fun z => absurd h0 z⟩
    · cases i with
      | @tup a xs ds hx hxs =>
        cases i' with
        | @tup b ys es hy hys =>
          cases r
          cases r'
          obtain ⟨its, r1, p1, _⟩ := I.tuple hx
          obtain ⟨its2, r2, p2, _⟩ := I.tuple hy
          have n1 : its.toArray.size = ds.length := by rw [List.size_toArray, ← r1.length, hxs.length]
          have n2 : its2.toArray.size = es.length := by rw [List.size_toArray, ← r2.length, hys.length]
          simp only [D.dep] at hd
          have he : ∀ j (h1 : j < its.toArray.size) (h2 : j < its2.toArray.size), SeqAt.EqAt A.in1 s its.toArray[j] its2.toArray[j] (pairEq ds es j) := by
            intro j h1 h2
            have q1 : ds[j]? = some ds[j] := List.getElem?_eq_getElem (by omega)
            have q2 : es[j]? = some es[j] := List.getElem?_eq_getElem (by omega)
            obtain ⟨x, ex, ix⟩ := hxs.get q1
            obtain ⟨y, ey, iy⟩ := hys.get q2
            obtain ⟨ux, eu, ru⟩ := r1.get ex
            obtain ⟨uy, ew, rw'⟩ := r2.get ey
            have g1 : its.toArray[j] = ux := by
              have : its[j]? = some its[j] := List.getElem?_eq_getElem (by simpa using h1)
              rw [this] at eu; simpa using eu
            have g2 : its2.toArray[j] = uy := by
              have : its2[j]? = some its2[j] := List.getElem?_eq_getElem (by simpa using h2)
              rw [this] at ew; simpa using ew
            rw [g1, g2]
            have pe : pairEq ds es j = D.eq ds[j] es[j] := by unfold pairEq; rw [q1, q2]
            rw [pe]
            have dg := deps_get q1
            exact (ih _ _ A.in1 x y ux uy (by omega) (by rw [in1_units]; omega) (eqOks_get (by simpa [D.eqOk] using ok) q1 q2) ix iy ru rw').1
          have hrc : SeqAt.RcAt A s (.ref a) (.ref b) (D.eqs ds es) := by
            rw [← eqs_all ds es, ← n1, ← n2]
            exact SeqAt.RcAt.tuples p1 p2 (by omega) he
          have hne : SeqAt.RcNeAt A s (.ref a) (.ref b) (!D.eqs ds es) := by
            rw [← eqs_all ds es, ← n1, ← n2]
            exact SeqAt.RcNeAt.tuples p1 p2 (by omega) he
          refine ⟨?_, fun _ => ⟨hrc, hne⟩⟩
          by_cases hab : a = b
          · subst hab
            have e := Is.inj I (.tup hx hxs) (.tup hy hys) ok
            rw [eq_refl_aux _ _ _ (Nat.le_refl _) ok e]
            exact SeqAt.EqAt.same _
          · exact SeqAt.EqAt.of_refs hab hrc
        | _ => simp [D.eqOk] at ok
      | _ => exact absurd rfl h0

section
variable {X : Cx}
/-- ==; of two lists only against an empty one -/
def eqD : D → D → DH → KD → Prop
  | .ref l, .ref r, M, Q => ∃ xs ys, LstAt M l xs ∧ LstAt M r ys ∧ (xs = [] ∨ ys = []) ∧ Q (.bl (xs.isEmpty && ys.isEmpty)) M
  | .tup xs, .tup ys, M, Q => D.eqOks xs ys = true ∧ D.deps xs ≤ 150 ∧ Q (.bl (D.eqs xs ys)) M
  | .int i, .int j, M, Q => Q (.bl (decide (i = j))) M
  | .str i, .str j, M, Q => Q (.bl (decide (i = j))) M
  | .bl i, .bl j, M, Q => Q (.bl (decide (i = j))) M
  | .non, .non, M, Q => Q (.bl true) M
  | _, _, _, _ => False
def neD : D → D → DH → KD → Prop
  | .ref l, .ref r, M, Q => ∃ xs ys, LstAt M l xs ∧ LstAt M r ys ∧ (xs = [] ∨ ys = []) ∧ Q (.bl (!(xs.isEmpty && ys.isEmpty))) M
  | .tup xs, .tup ys, M, Q => D.eqOks xs ys = true ∧ D.deps xs ≤ 150 ∧ Q (.bl (!D.eqs xs ys)) M
  | .int i, .int j, M, Q => Q (.bl (!decide (i = j))) M
  | .str i, .str j, M, Q => Q (.bl (!decide (i = j))) M
  | .bl i, .bl j, M, Q => Q (.bl (!decide (i = j))) M
  | _, _, _, _ => False
theorem dV_int {i j : Int} : decide (V.int i = V.int j) = decide (i = j) := by by_cases h : i = j <;> simp [h]
theorem dV_str {i j : Str} : decide (V.str i = V.str j) = decide (i = j) := by by_cases h : i = j <;> simp [h]
theorem dV_bl {i j : Bool} : decide (V.bl i = V.bl j) = decide (i = j) := by by_cases h : i = j <;> simp [h]
theorem list_two {xs ys : List D} (h : xs = [] ∨ ys = []) : (xs.length = ys.length ∧ xs = [] ∧ ys = []) ∨ (xs.length ≠ ys.length ∧ (xs.isEmpty && ys.isEmpty) = false) := by
  cases xs with
  | nil => cases ys with
    | nil => exact .inl ⟨rfl, rfl, rfl⟩
    | cons y ys => exact .inr ⟨by simp, rfl⟩
  | cons x xs => cases ys with
    | nil => exact .inr ⟨by simp, rfl⟩
    | cons y ys => rcases h with h | h <;> cases h
theorem od_eq {k : Nat} (hr : Room k X.A) : OpD X (compareOp .Eq) eqD := by
  intro pins s σ H vx vy v u Q I rx ry ⟨x, y, M, Q', ix, iy, hm, q, hq⟩
  have hu : X.A.units + 200 < cLine := by have := hr.un; omega
  cases ix with
  | non => cases iy with
    | non => exact op_eq pins s σ H _ _ v u Q I rx ry ⟨rfl, hq.here hm (.bl _) (by have q' : Q' (.bl true) M := q; simpa using q')⟩
    | _ => exact q.elim
  | int i => cases iy with
    | int j => exact op_eq pins s σ H _ _ v u Q I rx ry ⟨rfl, hq.here hm (.bl _) (by rw [dV_int]; exact q)⟩
    | _ => exact q.elim
  | str i => cases iy with
    | str j => exact op_eq pins s σ H _ _ v u Q I rx ry ⟨rfl, hq.here hm (.bl _) (by rw [dV_str]; exact q)⟩
    | _ => exact q.elim
  | bl i => cases iy with
    | bl j => exact op_eq pins s σ H _ _ v u Q I rx ry ⟨rfl, hq.here hm (.bl _) (by rw [dV_bl]; exact q)⟩
    | _ => exact q.elim
  | ty n => exact q.elim
  | rol h hxs => cases iy <;> exact q.elim
  | @tup a xs ds hx hxs => cases iy with
    | @tup b ys es hy hys =>
      obtain ⟨ok, dp, q⟩ := q
      have z := (eqAt_D I 151 (.tup ds) (.tup es) X.A (.ref a) (.ref b) v u (by simp only [D.dep]; omega) (by omega) (by simpa [D.eqOk] using ok) (.tup hx hxs) (.tup hy hys) rx ry).2 (by simp [D.dep])
      exact z.1 _ _ _ _ ⟨.bl _, H, I, rfl, hq.here hm (.bl _) q⟩
    | _ => exact q.elim
  | ref l => cases iy with
    | ref r =>
      obtain ⟨xs, ys, hl, hr', hz, q⟩ := q
      cases rx
      cases ry
      obtain ⟨us, hu1, i1⟩ := hm.lst hl
      obtain ⟨ws, hw, i2⟩ := hm.lst hr'
      obtain ⟨its, r1, p1, _⟩ := I.list hu1
      obtain ⟨its2, r2, p2, _⟩ := I.list hw
      have n1 : its.toArray.size = xs.length := by rw [List.size_toArray, ← r1.length, i1.length]
      have n2 : its2.toArray.size = ys.length := by rw [List.size_toArray, ← r2.length, i2.length]
      rcases list_two hz with ⟨he, h1, h2⟩ | ⟨hn, hb⟩
      · subst h1 h2
        refine SeqAt.eq_listAt (e := fun _ => true) p1.isList p2.isList (by rw [n1, n2]) (by omega) (fun j h1 => absurd h1 (by rw [n1]; simp)) ⟨.bl _, H, I, rfl, hq.here hm (.bl _) ?_⟩
        rw [n1]
        simpa using q
      · rw [hb] at q
        exact SeqAt.eq_list_lengthsAt p1.isList p2.isList (by rw [n1, n2]; simpa using hn) (by omega) ⟨.bl _, H, I, rfl, hq.here hm (.bl _) q⟩
    | _ => exact q.elim
theorem od_ne {k : Nat} (hr : Room k X.A) : OpD X (compareOp .NotEq) neD := by
  intro pins s σ H vx vy v u Q I rx ry ⟨x, y, M, Q', ix, iy, hm, q, hq⟩
  have hu : X.A.units + 200 < cLine := by have := hr.un; omega
  cases ix with
  | non => exact q.elim
  | int i => cases iy with
    | int j => exact op_ne pins s σ H _ _ v u Q I rx ry ⟨rfl, hq.here hm (.bl _) (by rw [dV_int]; exact q)⟩
    | _ => exact q.elim
  | str i => cases iy with
    | str j => exact op_ne pins s σ H _ _ v u Q I rx ry ⟨rfl, hq.here hm (.bl _) (by rw [dV_str]; exact q)⟩
    | _ => exact q.elim
  | bl i => cases iy with
    | bl j => exact op_ne pins s σ H _ _ v u Q I rx ry ⟨rfl, hq.here hm (.bl _) (by rw [dV_bl]; exact q)⟩
    | _ => exact q.elim
  | ty n => exact q.elim
  | rol h hxs => cases iy <;> exact q.elim
  | @tup a xs ds hx hxs => cases iy with
    | @tup b ys es hy hys =>
      obtain ⟨ok, dp, q⟩ := q
      have z := (eqAt_D I 151 (.tup ds) (.tup es) X.A (.ref a) (.ref b) v u (by simp only [D.dep]; omega) (by omega) (by simpa [D.eqOk] using ok) (.tup hx hxs) (.tup hy hys) rx ry).2 (by simp [D.dep])
      exact z.2 _ _ _ _ ⟨.bl _, H, I, rfl, hq.here hm (.bl _) q⟩
    | _ => exact q.elim
  | ref l => cases iy with
    | ref r =>
      obtain ⟨xs, ys, hl, hr', hz, q⟩ := q
      cases rx
      cases ry
      obtain ⟨us, hu1, i1⟩ := hm.lst hl
      obtain ⟨ws, hw, i2⟩ := hm.lst hr'
      obtain ⟨its, r1, p1, _⟩ := I.list hu1
      obtain ⟨its2, r2, p2, _⟩ := I.list hw
      have n1 : its.toArray.size = xs.length := by rw [List.size_toArray, ← r1.length, i1.length]
      have n2 : its2.toArray.size = ys.length := by rw [List.size_toArray, ← r2.length, i2.length]
      rcases list_two hz with ⟨he, h1, h2⟩ | ⟨hn, hb⟩
      · subst h1 h2
        refine SeqAt.RcNeAt.lists (e := fun _ => true) p1.isList p2.isList (by rw [n1, n2]) (by omega) (fun j h1 => absurd h1 (by rw [n1]; simp)) _ _ _ _ ⟨.bl _, H, I, rfl, hq.here hm (.bl _) ?_⟩
        rw [n1]
        simpa using q
      · rw [hb] at q
        exact SeqAt.RcNeAt.lists_lengths p1.isList p2.isList (by rw [n1, n2]; simpa using hn) (by omega) _ _ _ _ ⟨.bl _, H, I, rfl, hq.here hm (.bl _) q⟩
    | _ => exact q.elim
end
end DL

/-! Displays, calls, subscripts, slices over data. -/
namespace DL
open PySem PySem.Spec PyProof.Rows L2

section
variable {X : Cx} {e a b c : Expr} {es : List Expr} {pos : Pos} {ta tb tc te : TEd} {t : TAd}
/-! ### arguments -/
def eNil : TAd := fun _ M Q => Q [] M
def eCons (ta : TEd) (tr : TAd) : TAd := fun τ M Q => ta τ M fun x M1 => tr τ M1 fun xs M2 => Q (x :: xs) M2
theorem a_nil : PA X [] (lowA X.K eNil) := pa_nil.imp fun σ H Q ⟨τ, M, Q', hs, hm, h, hq⟩ => hq [] M [] H hm (Ext.refl H) .nil h
theorem a_cons (ha : PE X e (low X.K te)) (hr : PA X es (lowA X.K t)) (hs : starEach (e :: es) X.env = (false, eval e X.env) :: starEach es X.env := by rfl) : PA X (e :: es) (lowA X.K (eCons te t)) :=
  (pa_cons ha hr hs).imp fun σ H Q ⟨τ, M, Q', hs, hm, h, hq⟩ =>
    ⟨τ, M, _, hs, hm, h, fun x M1 vx H1 m1 e1 i1 h1 => ⟨τ, M1, _, hs.mono e1, m1, h1, fun xs M2 vs H2 m2 e2 i2 h2 => hq (x :: xs) M2 (vx :: vs) H2 m2 (e1.trans e2) (.cons (i1.mono e2) i2) h2⟩⟩
/-! ### displays -/
def eTup (t : TAd) : TEd := fun τ M Q => t τ M fun xs M1 => if xs.length ≤ 1000 then Q (.tup xs) M1 else False
def eLst (t : TAd) : TEd := fun τ M Q => t τ M fun xs M1 => if xs.length ≤ 1000 then ∀ p, M1 p = none → Q (.ref p) (updM M1 p (.lst xs)) else False
theorem line1000 {n : Nat} (h : n ≤ 1000) : n ≤ sizeLine := Nat.le_of_lt (small1000 h)
theorem d_tup {x1} (h : PA X es (lowA X.K t)) : PE X (.Tuple es x1 pos) (low X.K (eTup t)) :=
  (pe_tup h).imp fun σ H Q ⟨τ, M, Q', hs, hm, h, hq⟩ => ⟨τ, M, _, hs, hm, h, fun xs M1 vs H1 m1 e1 i1 h1 => by
    by_cases hl : xs.length ≤ 1000
    · rw [if_pos hl] at h1
      refine ⟨by rw [i1.length]; exact line1000 hl, fun p hp => ?_⟩
      exact hq _ M1 _ _ (m1.new hp) (e1.trans (ext_new hp)) (.tup (SqT.of upd_same) (i1.mono (ext_new hp))) h1
    · rw [if_neg hl] at h1; exact h1.elim⟩
theorem d_lst (h : PA X es (lowA X.K t)) : PE X (.List es pos) (low X.K (eLst t)) :=
  (pe_lst h).imp fun σ H Q ⟨τ, M, Q', hs, hm, h, hq⟩ => ⟨τ, M, _, hs, hm, h, fun xs M1 vs H1 m1 e1 i1 h1 => by
    by_cases hl : xs.length ≤ 1000
    · rw [if_pos hl] at h1
      refine ⟨by rw [i1.length]; exact line1000 hl, fun p hp => ?_⟩
      exact hq _ _ _ _ (m1.newL hp i1) (e1.trans (ext_new hp)) (.ref p) (h1 p (m1.free hp))
    · rw [if_neg hl] at h1; exact h1.elim⟩
/-! ### calls of what Python has -/
abbrev RC := List D → DH → KD → Prop
def lowC (K : PySem.W.Frag) (r : RC) : List V → Hp → VK → Prop := fun vs H Q => ∃ ds M Q', Iss K H vs ds ∧ HAbs K M H ∧ r ds M Q' ∧ lowQ K H Q' Q
def CallD (X : Cx) (f : Value) (r : RC) : Prop := CallR X f (lowC X.K r)
def eCB (r : RC) (t : TAd) : TEd := fun τ M Q => t τ M fun ds M1 => r ds M1 Q
theorem low_cb {K : PySem.W.Frag} {r : RC} {t : TAd} {σ : St} {H : Hp} {Q : VK} (h : low K (eCB r t) σ H Q) : tCB (lowC K r) (lowA K t) σ H Q := by
  obtain ⟨τ, M, Q', hs, hm, h, hq⟩ := h
  exact ⟨τ, M, _, hs, hm, h, fun ds M1 vs H1 m1 e1 i1 h1 => ⟨ds, M1, Q', i1, m1, h1, hq.ext e1⟩⟩
variable {x : Str} {p : Pos} {id T : String} {r : RC}
theorem d_callB (hc : CallD X (.builtin id) r) (hg : Gl X x) (hm : X.mg x = none) (hv : bootBuiltins x = some (.builtin id)) (ha : PA X (e :: es) (lowA X.K t)) (hn : x ≠ "__name__" := by decide) (hdb : (x == ("__debug__" : Str)) = false := by decide)
    (he : starEach (e :: es) X.env = (false, eval e X.env) :: starEach es X.env := by rfl) (hpl : (backTo pos (starEach es X.env)).any (·.1) = false := by rfl) : PE X (.Call (.Name x p) (e :: es) [] pos) (low X.K (eCB r t)) :=
  (pe_callB hc hg hm hv ha hn hdb he hpl).imp fun _ _ _ h => low_cb h
theorem d_callTy (hc : CallD X (.type T) r) (hg : Gl X x) (hm : X.mg x = none) (hv : bootBuiltins x = some (.type T)) (ha : PA X (e :: es) (lowA X.K t)) (hn : x ≠ "__name__" := by decide) (hdb : (x == ("__debug__" : Str)) = false := by decide)
    (he : starEach (e :: es) X.env = (false, eval e X.env) :: starEach es X.env := by rfl) (hpl : (backTo pos (starEach es X.env)).any (·.1) = false := by rfl) : PE X (.Call (.Name x p) (e :: es) [] pos) (low X.K (eCB r t)) :=
  (pe_callTy hc hg hm hv ha hn hdb he hpl).imp fun _ _ _ h => low_cb h
/-- a type's name -/
theorem d_ty {n : String} (hg : Gl X x) (hm : X.mg x = none) (hv : bootBuiltins x = some (.type n)) (hn : x ≠ "__name__" := by decide) (hd : (x == ("__debug__" : Str)) = false := by decide) : PE X (.Name x pos) (low X.K (eC (.ty n))) :=
  (pe_bltn (v := .ty n) hg hm hv rfl hn hd).imp fun _ _ _ h => low_const (fun _ => .ty n) h

theorem iss1 {K : PySem.W.Frag} {H : Hp} {vs : List V} {d : D} (h : Iss K H vs [d]) : ∃ v, vs = [v] ∧ Is K H v d := by
  cases h with
  | cons i t => cases t; exact ⟨_, rfl, i⟩
theorem iss2 {K : PySem.W.Frag} {H : Hp} {vs : List V} {d d' : D} (h : Iss K H vs [d, d']) : ∃ v v', vs = [v, v'] ∧ Is K H v d ∧ Is K H v' d' := by
  cases h with
  | cons i t => obtain ⟨v', rfl, i'⟩ := iss1 t; exact ⟨_, _, rfl, i, i'⟩

/-! ### len -/
def lenD : List D → DH → KD → Prop
  | [.str z], M, Q => z.length ≤ sizeLine ∧ Q (.int z.length) M
  | [.tup xs], M, Q => Q (.int xs.length) M
  | [.rol xs], M, Q => Q (.int xs.length) M
  | [.ref l], M, Q => ∃ xs, LstAt M l xs ∧ Q (.int xs.length) M
  | _, _, _ => False
theorem cd_len : CallD X (.builtin "len") lenD := by
  intro pins s σ H vs us Q I r ⟨ds, M, Q', iss, hm, q, hq⟩
  match ds, q, iss with
  | [.str z], q, iss =>
    obtain ⟨v, rfl, i⟩ := iss1 iss
    cases i
    exact call_len_str pins s σ H _ us Q I r ⟨z, rfl, q.1, hq.here hm (.int _) q.2⟩
  | [.tup xs], q, iss =>
    obtain ⟨v, rfl, i⟩ := iss1 iss
    cases i with
    | tup h hs => exact call_len_seq pins s σ H _ us Q I r ⟨_, _, rfl, .inr h, hq.here hm (.int _) (by rw [hs.length]; exact q)⟩
  | [.rol xs], q, iss =>
    obtain ⟨v, rfl, i⟩ := iss1 iss
    cases i with
    | rol h hs => exact call_len_seq pins s σ H _ us Q I r ⟨_, _, rfl, .inl h.sq, hq.here hm (.int _) (by rw [hs.length]; exact q)⟩
  | [.ref l], q, iss =>
    obtain ⟨v, rfl, i⟩ := iss1 iss
    cases i
    obtain ⟨xs, hl, q⟩ := q
    obtain ⟨ys, h, hs⟩ := hm.lst hl
    exact call_len_seq pins s σ H _ us Q I r ⟨_, _, rfl, .inl h, hq.here hm (.int _) (by rw [hs.length]; exact q)⟩
/-! ### int(b), max, min of two -/
def intD : List D → DH → KD → Prop
  | [.int i], M, Q => Q (.int i) M
  | [.bl k], M, Q => Q (.int (if k then 1 else 0)) M
  | _, _, _ => False
theorem cd_int : CallD X (.type "int") intD := by
  intro pins s σ H vs us Q I r ⟨ds, M, Q', iss, hm, q, hq⟩
  match ds, q, iss with
  | [.int j], q, iss =>
    obtain ⟨v, rfl, i⟩ := iss1 iss
    cases i
    exact call_int1 pins s σ H _ us Q I r (.inl ⟨_, rfl, hq.here hm (.int _) q⟩)
  | [.bl k], q, iss =>
    obtain ⟨v, rfl, i⟩ := iss1 iss
    cases i
    exact call_int1 pins s σ H _ us Q I r (.inr ⟨_, rfl, hq.here hm (.int _) q⟩)
def max2D : List D → DH → KD → Prop
  | [.int i, .int j], M, Q => Q (.int (if j > i then j else i)) M
  | _, _, _ => False
theorem cd_max2 (hc : X.calm = true) : CallD X (.builtin "max") max2D := by
  intro pins s σ H vs us Q I r ⟨ds, M, Q', iss, hm, q, hq⟩
  match ds, q, iss with
  | [.int i, .int j], q, iss =>
    obtain ⟨v, v', rfl, h1, h2⟩ := iss2 iss
    cases h1
    cases h2
    exact call_max2 hc pins s σ H _ us Q I r ⟨_, _, rfl, hq.here hm (.int _) q⟩
def min2D : List D → DH → KD → Prop
  | [.int i, .int j], M, Q => Q (.int (if j < i then j else i)) M
  | _, _, _ => False
theorem cd_min2 (hc : X.calm = true) : CallD X (.builtin "min") min2D := by
  intro pins s σ H vs us Q I r ⟨ds, M, Q', iss, hm, q, hq⟩
  match ds, q, iss with
  | [.int i, .int j], q, iss =>
    obtain ⟨v, v', rfl, h1, h2⟩ := iss2 iss
    cases h1
    cases h2
    exact call_min2 hc pins s σ H _ us Q I r ⟨_, _, rfl, hq.here hm (.int _) q⟩
/-! ### tuple(x), list(x) -/
def tupleD : List D → DH → KD → Prop
  | [.tup xs], M, Q => Q (.tup xs) M
  | [.ref l], M, Q => ∃ xs, LstAt M l xs ∧ Q (.tup xs) M
  | _, _, _ => False
theorem cd_tuple : CallD X (.type "tuple") tupleD := by
  intro pins s σ H vs us Q I r ⟨ds, M, Q', iss, hm, q, hq⟩
  match ds, q, iss with
  | [.tup xs], q, iss =>
    obtain ⟨v, rfl, i⟩ := iss1 iss
    cases i with
    | tup h hs => exact call_tuple_of pins s σ H _ us Q I r ⟨_, _, rfl, .inr ⟨h, hq.here hm (.tup h hs) q⟩⟩
  | [.ref l], q, iss =>
    obtain ⟨v, rfl, i⟩ := iss1 iss
    cases i
    obtain ⟨xs, hl, q⟩ := q
    obtain ⟨ys, h, hs⟩ := hm.lst hl
    exact call_tuple_of pins s σ H _ us Q I r ⟨_, _, rfl, .inl ⟨h, fun p hp => hq _ M _ _ (hm.new hp) (ext_new hp) (.tup (SqT.of upd_same) (hs.mono (ext_new hp))) q⟩⟩
def listD : List D → DH → KD → Prop
  | [.tup xs], M, Q => ∀ p, M p = none → Q (.ref p) (updM M p (.lst xs))
  | [.ref l], M, Q => ∃ xs, LstAt M l xs ∧ ∀ p, M p = none → Q (.ref p) (updM M p (.lst xs))
  | _, _, _ => False
theorem cd_list : CallD X (.type "list") listD := by
  intro pins s σ H vs us Q I r ⟨ds, M, Q', iss, hm, q, hq⟩
  match ds, q, iss with
  | [.tup xs], q, iss =>
    obtain ⟨v, rfl, i⟩ := iss1 iss
    cases i with
    | tup h hs => exact call_list_of pins s σ H _ us Q I r ⟨_, _, rfl, .inr h, fun p hp => hq _ _ _ _ (hm.newL hp hs) (ext_new hp) (.ref p) (q p (hm.free hp))⟩
  | [.ref l], q, iss =>
    obtain ⟨v, rfl, i⟩ := iss1 iss
    cases i
    obtain ⟨xs, hl, q⟩ := q
    obtain ⟨ys, h, hs⟩ := hm.lst hl
    exact call_list_of pins s σ H _ us Q I r ⟨_, _, rfl, .inl h, fun p hp => hq _ _ _ _ (hm.newL hp hs) (ext_new hp) (.ref p) (q p (hm.free hp))⟩
/-! ### isinstance -/
def isSub (a b : String) : Bool := a == b || (a == "bool" && b == "int")
def kinds : List String := ["NoneType", "bool", "int", "str", "tuple", "list"]
theorem kit_sub (K : PySem.W.Frag) : ∀ a ∈ kinds, ∀ b ∈ kinds, PySem.W.kitOne K (.type a) (.type b) = some (isSub a b) := by
  intro a ha b hb
  simp only [kinds, List.mem_cons, List.not_mem_nil, or_false] at ha hb
  rcases ha with rfl | rfl | rfl | rfl | rfl | rfl <;> rcases hb with rfl | rfl | rfl | rfl | rfl | rfl <;> rfl
def isiD : List D → DH → KD → Prop
  | [.non, .ty T], M, Q => if T ∈ kinds then Q (.bl (isSub "NoneType" T)) M else False
  | [.bl _, .ty T], M, Q => if T ∈ kinds then Q (.bl (isSub "bool" T)) M else False
  | [.int _, .ty T], M, Q => if T ∈ kinds then Q (.bl (isSub "int" T)) M else False
  | [.str _, .ty T], M, Q => if T ∈ kinds then Q (.bl (isSub "str" T)) M else False
  | [.tup _, .ty T], M, Q => if T ∈ kinds then Q (.bl (isSub "tuple" T)) M else False
  | [.ref l, .ty T], M, Q => if T ∈ kinds then (∃ xs, LstAt M l xs) ∧ Q (.bl (isSub "list" T)) M else False
  | _, _, _ => False
theorem cd_isi : CallD X (.builtin "isinstance") isiD := by
  intro pins s σ H vs us Q I r ⟨ds, M, Q', iss, hm, q, hq⟩
  match ds, q, iss with
  | [.non, .ty T], q, iss =>
    obtain ⟨v, v', rfl, h1, h2⟩ := iss2 iss
    cases h1; cases h2
    obtain ⟨u, w', rfl, r1, r2⟩ := vals2 r
    cases r1; cases r2
    by_cases hT : T ∈ kinds
    · rw [show (isiD [.non, .ty T] M Q') = (if T ∈ kinds then Q' (.bl (isSub "NoneType" T)) M else False) from rfl, if_pos hT] at q
      exact PySem.W.kia_one PySem.W.kitx_none I.kIn True.intro (kit_sub _ _ (by decide) _ hT) (fun z => nomatch z) fun tk => ⟨.bl _, H, I.tok tk, rfl, hq.here hm (.bl _) q⟩
    · rw [show (isiD [.non, .ty T] M Q') = (if T ∈ kinds then Q' (.bl (isSub "NoneType" T)) M else False) from rfl, if_neg hT] at q; exact q.elim
  | [.bl b, .ty T], q, iss =>
    obtain ⟨v, v', rfl, h1, h2⟩ := iss2 iss
    cases h1; cases h2
    obtain ⟨u, w', rfl, r1, r2⟩ := vals2 r
    cases r1; cases r2
    by_cases hT : T ∈ kinds
    · rw [show (isiD [.bl b, .ty T] M Q') = (if T ∈ kinds then Q' (.bl (isSub "bool" T)) M else False) from rfl, if_pos hT] at q
      exact PySem.W.kia_one PySem.W.kitx_bool I.kIn True.intro (kit_sub _ _ (by decide) _ hT) (fun z => nomatch z) fun tk => ⟨.bl _, H, I.tok tk, rfl, hq.here hm (.bl _) q⟩
    · rw [show (isiD [.bl b, .ty T] M Q') = (if T ∈ kinds then Q' (.bl (isSub "bool" T)) M else False) from rfl, if_neg hT] at q; exact q.elim
  | [.int b, .ty T], q, iss =>
    obtain ⟨v, v', rfl, h1, h2⟩ := iss2 iss
    cases h1; cases h2
    obtain ⟨u, w', rfl, ⟨tk0, rfl⟩, r2⟩ := vals2 r
    cases r2
    by_cases hT : T ∈ kinds
    · rw [show (isiD [.int b, .ty T] M Q') = (if T ∈ kinds then Q' (.bl (isSub "int" T)) M else False) from rfl, if_pos hT] at q
      exact PySem.W.kia_one PySem.W.kitx_int I.kIn True.intro (kit_sub _ _ (by decide) _ hT) (fun z => nomatch z) fun tk => ⟨.bl _, H, I.tok tk, rfl, hq.here hm (.bl _) q⟩
    · rw [show (isiD [.int b, .ty T] M Q') = (if T ∈ kinds then Q' (.bl (isSub "int" T)) M else False) from rfl, if_neg hT] at q; exact q.elim
  | [.str b, .ty T], q, iss =>
    obtain ⟨v, v', rfl, h1, h2⟩ := iss2 iss
    cases h1; cases h2
    obtain ⟨u, w', rfl, ⟨tk0, rfl⟩, r2⟩ := vals2 r
    cases r2
    by_cases hT : T ∈ kinds
    · rw [show (isiD [.str b, .ty T] M Q') = (if T ∈ kinds then Q' (.bl (isSub "str" T)) M else False) from rfl, if_pos hT] at q
      exact PySem.W.kia_one PySem.W.kitx_str I.kIn True.intro (kit_sub _ _ (by decide) _ hT) (fun z => nomatch z) fun tk => ⟨.bl _, H, I.tok tk, rfl, hq.here hm (.bl _) q⟩
    · rw [show (isiD [.str b, .ty T] M Q') = (if T ∈ kinds then Q' (.bl (isSub "str" T)) M else False) from rfl, if_neg hT] at q; exact q.elim
  | [.tup b, .ty T], q, iss =>
    obtain ⟨v, v', rfl, h1, h2⟩ := iss2 iss
    cases h1 with
    | tup h hs =>
      cases h2
      obtain ⟨u, w', rfl, r1, r2⟩ := vals2 r
      cases r1; cases r2
      obtain ⟨its, _, ⟨o, p1, p2, _⟩, _⟩ := I.tuple h
      by_cases hT : T ∈ kinds
      · rw [show (isiD [.tup b, .ty T] M Q') = (if T ∈ kinds then Q' (.bl (isSub "tuple" T)) M else False) from rfl, if_pos hT] at q
        exact PySem.W.kia_one PySem.W.kitx_tuple I.kIn ⟨o, p1, p2⟩ (kit_sub _ _ (by decide) _ hT) (fun z => nomatch z) fun tk => ⟨.bl _, H, I.tok tk, rfl, hq.here hm (.bl _) q⟩
      · rw [show (isiD [.tup b, .ty T] M Q') = (if T ∈ kinds then Q' (.bl (isSub "tuple" T)) M else False) from rfl, if_neg hT] at q; exact q.elim
  | [.ref l, .ty T], q, iss =>
    obtain ⟨v, v', rfl, h1, h2⟩ := iss2 iss
    cases h1; cases h2
    obtain ⟨u, w', rfl, r1, r2⟩ := vals2 r
    cases r1; cases r2
    by_cases hT : T ∈ kinds
    · rw [show (isiD [.ref l, .ty T] M Q') = (if T ∈ kinds then (∃ xs, LstAt M l xs) ∧ Q' (.bl (isSub "list" T)) M else False) from rfl, if_pos hT] at q
      obtain ⟨⟨xs, hl⟩, q⟩ := q
      obtain ⟨ys, h, hs⟩ := hm.lst hl
      obtain ⟨its, _, ⟨o, n, p1, p2, _⟩, _⟩ := I.list h
      exact PySem.W.kia_one PySem.W.kitx_list I.kIn ⟨o, p1, p2⟩ (kit_sub _ _ (by decide) _ hT) (fun z => nomatch z) fun tk => ⟨.bl _, H, I.tok tk, rfl, hq.here hm (.bl _) q⟩
    · rw [show (isiD [.ref l, .ty T] M Q') = (if T ∈ kinds then (∃ xs, LstAt M l xs) ∧ Q' (.bl (isSub "list" T)) M else False) from rfl, if_neg hT] at q; exact q.elim

/-! ### a[b] -/
theorem atI_is {K : PySem.W.Frag} {H : Hp} {xs : List V} {ds : List D} {i : Int} {d : D} (h : Iss K H xs ds) (e : atI ds i = some d) : ∃ v, atI xs i = some v ∧ Is K H v d := by
  unfold atI at e ⊢
  rw [h.length]
  cases q : ixN ds.length i with
  | none => rw [q] at e; cases e
  | some j =>
    rw [q] at e
    exact h.get e
def ixD : D → D → DH → KD → Prop
  | .tup ds, .int i, M, Q => onSome (atI ds i) fun d => Q d M
  | .rol ds, .int i, M, Q => onSome (atI ds i) fun d => Q d M
  | .str z, .int i, M, Q => z.length ≤ sizeLine ∧ ∃ k, atI z.cps.toList i = some k ∧ Q (.str ⟨#[k]⟩) M
  | .ref l, .int i, M, Q => ∃ ds d, LstAt M l ds ∧ atI ds i = some d ∧ Q d M
  | _, _, _, _ => False
def IxD (X : Cx) (r : RD2) : Prop := IxR X (lowR2 X.K r)
theorem xd_ix : IxD X ixD := by
  intro value slice pins s σ H vx vy v u Q I rx ry ⟨x, y, M, Q', ix, iy, hm, q, hq⟩ hs
  cases ix with
  | tup h hxs => cases iy with
    | int i =>
      rename_i ds
      cases q1 : atI ds i with
      | none => simp only [ixD, q1, onSome] at q
      | some d =>
        simp only [ixD, q1, onSome] at q
        obtain ⟨v', e', i'⟩ := atI_is hxs q1
        exact ix_tup value slice pins s σ H _ _ v u Q I rx ry ⟨_, _, _, _, rfl, rfl, h, e', hq.here hm i' q⟩ hs
    | _ => exact q.elim
  | rol h hxs => cases iy with
    | int i =>
      rename_i ds
      cases q1 : atI ds i with
      | none => simp only [ixD, q1, onSome] at q
      | some d =>
        simp only [ixD, q1, onSome] at q
        obtain ⟨v', e', i'⟩ := atI_is hxs q1
        exact ix_list value slice pins s σ H _ _ v u Q I rx ry ⟨_, _, _, _, rfl, rfl, h.sq, e', hq.here hm i' q⟩ hs
    | _ => exact q.elim
  | str z => cases iy with
    | int i =>
      obtain ⟨hz, k, hk, q⟩ := q
      exact ix_str value slice pins s σ H _ _ v u Q I rx ry ⟨_, _, _, rfl, rfl, hz, hk, hq.here hm (.str _) q⟩ hs
    | _ => exact q.elim
  | ref l => cases iy with
    | int i =>
      obtain ⟨ds, d, hl, hd, q⟩ := q
      obtain ⟨ys, h, hys⟩ := hm.lst hl
      obtain ⟨v', e', i'⟩ := atI_is hys hd
      exact ix_list value slice pins s σ H _ _ v u Q I rx ry ⟨_, _, _, _, rfl, rfl, h, e', hq.here hm i' q⟩ hs
    | _ => exact q.elim
  | _ => cases iy <;> exact q.elim
theorem d_ix (ha : PE X a (low X.K ta)) (hb : PE X b (low X.K tb)) (hs : PlainIx b := by intro _ _; rfl) : PE X (.Subscript a b pos) (low X.K (eOp ixD ta tb)) :=
  (pe_ix (xd_ix (X := X)) ha hb hs).imp fun _ _ _ h => low_op h
end
end DL

/-! Slices, methods of lists, tests, statements, loops, defs over data. -/
namespace DL
open PySem PySem.Spec PyProof.Rows L2

section
variable {X : Cx} {e a b c : Expr} {es : List Expr} {pos : Pos} {ta tb tc te : TEd} {t : TAd}
/-! ### slices -/
abbrev TOd := DSt → DH → (Option Int → DH → Prop) → Prop
def lowO (K : PySem.W.Frag) (te : TOd) : TO := fun σ H Q => ∃ τ M Q', SAbs K τ σ H ∧ HAbs K M H ∧ te τ M Q' ∧ ∀ o M1 H1, HAbs K M1 H1 → Ext K H H1 → Q' o M1 → Q o H1
theorem _root_.L2.PO.imp {oe : Option Expr} {t t' : TO} (h : PO X oe t) (hi : ∀ σ H Q, t' σ H Q → t σ H Q) : PO X oe t' := fun pins s σ H Q I q => h pins s σ H Q I (hi _ _ _ q)
def oNone : TOd := fun _ M Q => Q none M
def oSome (t : TEd) : TOd := fun τ M Q => t τ M fun x M1 => onInt x fun i => Q (some i) M1
theorem o_none : PO X none (lowO X.K oNone) := po_none.imp fun σ H Q ⟨τ, M, Q', hs, hm, h, hq⟩ => hq none M H hm (Ext.refl H) h
theorem o_some (h : PE X e (low X.K te)) : PO X (some e) (lowO X.K (oSome te)) := (po_some h).imp fun σ H Q ⟨τ, M, Q', hs, hm, h, hq⟩ =>
  ⟨τ, M, _, hs, hm, h, fun x M1 v H1 m1 e1 i1 h1 => by
    cases i1 with
    | int i => exact ⟨i, rfl, hq (some i) M1 H1 m1 e1 h1⟩
    | _ => exact h1.elim⟩
def cutD {α : Type} (xs : List α) (lo hi : Option Int) : List α := (xs.drop (HT.sIx xs.length 0 lo)).take (HT.sIx xs.length xs.length hi - HT.sIx xs.length 0 lo)
abbrev RSl := D → Option Int → Option Int → DH → KD → Prop
def lowSl (K : PySem.W.Frag) (r : RSl) : V → Option Int → Option Int → Hp → VK → Prop := fun v lo hi H Q => ∃ x M Q', Is K H v x ∧ HAbs K M H ∧ r x lo hi M Q' ∧ lowQ K H Q' Q
def SlD (X : Cx) (r : RSl) : Prop := SlR X (lowSl X.K r)
def eSl (r : RSl) (te : TEd) (tl th : TOd) : TEd := fun τ M Q => te τ M fun x M1 => tl τ M1 fun l M2 => th τ M2 fun u M3 => r x l u M3 Q
theorem d_sl {r : RSl} {lo hi : Option Expr} {tl th : TOd} {p2 : Pos} (hr : SlD X r) (he : PE X e (low X.K te)) (hl : PO X lo (lowO X.K tl)) (hu : PO X hi (lowO X.K th)) : PE X (.Subscript e (.Slice lo hi none p2) pos) (low X.K (eSl r te tl th)) :=
  (pe_slice hr he hl hu).imp fun σ H Q ⟨τ, M, Q', hs, hm, h, hq⟩ =>
    ⟨τ, M, _, hs, hm, h, fun x M1 v H1 m1 e1 i1 h1 => ⟨τ, M1, _, hs.mono e1, m1, h1, fun l M2 H2 m2 e2 h2 => ⟨τ, M2, _, hs.mono (e1.trans e2), m2, h2, fun u M3 H3 m3 e3 h3 =>
      ⟨x, M3, Q', i1.mono (e2.trans e3), m3, h3, hq.ext (e1.trans (e2.trans e3))⟩⟩⟩⟩
theorem getItem_tuple_whole {prog : Program} {w : World} {A : Around} {E : Value → Shared → Prop} {s : Shared} {t sl : Addr} {items : Array Value} {vl vu : Value} {lo hi : Option Int} {Q : Value → Shared → Prop} (ht : IsTup s.heap t items) (hs : s.heap.IsSliceOf sl vl vu .none) (pl : IsPart vl lo) (pu : IsPart vu hi)
    (hw : HT.sIx items.size 0 lo = 0 ∧ HT.sIx items.size items.size hi = items.size)
    (h : Q (.ref t) s) : wpAny (model prog w) A (getItem (.ref t) (.ref sl)) Q E s := by
  obtain ⟨os, hos, hcs, hds⟩ := id hs
  have hTs : s.TypeIs (.ref sl) "slice" := ⟨os, hos, hcs⟩
  unfold getItem
  try with_reducible refine wpAny_holding ?_
  first | refine wpAny_bind (wpAny_pure ?_) | skip
  refine wpAny_bind (wpAny_sequenceKey ht.typeIs (by decide) ?_)
  refine wpAny_bind (wpAny_callSpecial?_slot (name := Str.ofString "__getitem__") ht.typeIs PyProof.Rows.slot_tuple_getitem
    (wpAny_call_entry PyProof.Rows.slot_tuple_getitem ht.typeIs entry_tuple_getitem ?_ (args_tuple_getitem _ _)))
  show wpAny _ _ (Builtin.Tuple.tupleItemsOf (.ref t) >>= _) _ _ s
  refine wpAny_bind (tupleItemsOf_ ht ?_)
  refine wpAny_bind (wpAny_typeOf hTs ?_)
  rw [if_pos (by decide)]
  refine wpAny_bind (HT.sliceApplied_gen hs pl pu ?_)
  have hyes : (((HT.sIx items.size 0 lo : Nat) : Int) == 0 && (1 : Int) == 1 && (HT.sIx items.size items.size hi - HT.sIx items.size 0 lo) == items.size) = true := by
    rw [hw.1, hw.2]; simp
  show wpAny _ _ (if (((HT.sIx items.size 0 lo : Nat) : Int) == 0 && (1 : Int) == 1 && (HT.sIx items.size items.size hi - HT.sIx items.size 0 lo) == items.size) = true then _ else _) _ _ s
  rw [if_pos hyes]
  refine wpAny_bind ?_
  have ex : wpAny (model prog w) A.in1 (Builtin.Tuple.tupleIsExact (.ref t)) (fun a s' => a = true ∧ s' = s) E s := by
    unfold Builtin.Tuple.tupleIsExact
    first
      | exact wpAny_bind (wpAny_typeOf ht.typeIs (wpAny_pure ⟨by decide, rfl⟩))
      | exact wpAny_bind (wpAny_typeOf ht.typeIs ⟨by decide, rfl⟩)
  refine wpAny_mono ex (fun a s' ⟨ea, es⟩ => ?_) fun _ _ z => z
  subst ea es
  rw [if_pos rfl]
  first
    | exact wpAny_bind (wpAny_rule (wpAny_pure ⟨_, rfl, h⟩))
    | exact wpAny_bind (wpAny_rule (wpAny_pure ⟨_, rfl, wpAny_pure h⟩))
    | exact wpAny_bind (wpAny_rule (wpAny_bind (wpAny_pure (wpAny_pure ⟨_, rfl, h⟩))))
    | exact wpAny_bind (wpAny_rule (wpAny_bind (wpAny_pure (wpAny_pure ⟨_, rfl, wpAny_pure h⟩))))
def slD : D → Option Int → Option Int → DH → KD → Prop
  | .tup xs, lo, hi, M, Q => Q (.tup (cutD xs lo hi)) M
  | .ref l, lo, hi, M, Q => ∃ xs, LstAt M l xs ∧ ∀ p, M p = none → Q (.ref p) (updM M p (.lst (cutD xs lo hi)))
  | .rol xs, lo, hi, M, Q => ∀ p, M p = none → Q (.ref p) (updM M p (.lst (cutD xs lo hi)))
  | .str z, lo, hi, M, Q => z.length ≤ sizeLine ∧ Q (.str (Txt.slice z lo hi)) M
  | _, _, _, _, _ => False
theorem Iss.cut {K : PySem.W.Frag} {H : Hp} {vs : List V} {ds : List D} (h : Iss K H vs ds) (lo hi : Option Int) : Iss K H (cutV vs lo hi) (cutD ds lo hi) := by
  unfold cutV cutD
  rw [h.length]
  exact (h.drop _).take _
theorem cut_whole {α : Type} {xs : List α} {lo hi : Option Int} (h : HT.sIx xs.length 0 lo = 0 ∧ HT.sIx xs.length xs.length hi = xs.length) : cutD xs lo hi = xs := by
  unfold cutD
  rw [h.1, h.2]
  simp
theorem sd_sl : SlD X slD := by
  intro pins s σ H vx v vl vu lo hi sl Q I rx hs pl pu ⟨x, M, Q', ix, hm, q, hq⟩
  cases ix with
  | @tup a xs ds h hxs =>
    by_cases hw : HT.sIx xs.length 0 lo = 0 ∧ HT.sIx xs.length xs.length hi = xs.length
    · cases rx
      obtain ⟨its, r, ht, hz⟩ := I.tuple h
      have hlen : its.toArray.size = xs.length := by rw [List.size_toArray]; exact r.length.symm
      refine ⟨"tuple", _, PyProof.Rows.slot_tuple_getitem.lookup, ht.typeIs, ?_⟩
      refine getItem_tuple_whole ht hs pl pu (by rw [hlen]; exact hw) ⟨.ref a, H, I, rfl, hq.here hm (.tup h hxs) ?_⟩
      have q' : Q' (.tup (cutD ds lo hi)) M := q
      rw [cut_whole (by rw [← hxs.length]; exact hw)] at q'
      exact q'
    · exact sl_tup pins s σ H _ v vl vu lo hi sl Q I rx hs pl pu ⟨a, xs, rfl, h, hw, fun p hp => hq _ M _ _ (hm.new hp) (ext_new hp) (.tup (SqT.of upd_same) ((hxs.cut lo hi).mono (ext_new hp))) q⟩
  | rol h hys => exact sl_list pins s σ H _ v vl vu lo hi sl Q I rx hs pl pu ⟨_, _, rfl, h.sq, fun p hp => hq _ _ _ _ (hm.newL hp (hys.cut lo hi)) (ext_new hp) (.ref p) (q p (hm.free hp))⟩
  | ref l =>
    obtain ⟨xs, hl, q⟩ := q
    obtain ⟨ys, h, hys⟩ := hm.lst hl
    exact sl_list pins s σ H _ v vl vu lo hi sl Q I rx hs pl pu ⟨_, ys, rfl, h, fun p hp => hq _ _ _ _ (hm.newL hp (hys.cut lo hi)) (ext_new hp) (.ref p) (q p (hm.free hp))⟩
  | str z =>
    obtain ⟨hz, q⟩ := q
    obtain ⟨t, rfl⟩ := rx
    obtain ⟨os, ho, hc, hd⟩ := hs
    have fin : ∀ (l u : Option (Int × Tok)), l.map (·.1) = lo → u.map (·.1) = hi → partValue l = vl → partValue u = vu → ∃ T id, typeLookup (.type T) "__getitem__" = pure (some (.builtin id)) ∧ s.TypeIs (.str z t) T ∧ wpAny (model X.prog X.w) X.A (getItem (.str z t) (.ref sl)) (EP X pins σ Q) X.xe s := by
      intro l u el eu e1 e2
      refine ⟨"str", _, F.slot_str_getitem.lookup, typeIs_str _ _ _, wpAny_getItem_str_slice (l := l) (u := u) (st := none) ⟨os, ho, hc, by rw [hd, e1, e2]; rfl⟩ rfl ?_⟩
      refine post_val_or_str ⟨Nat.le_trans (Txt.slice_le z _ _) hz, fun t' k => ?_⟩
      refine ⟨.str (Txt.slice z lo hi), H, I.tok k, ?_, hq.here hm (.str _) q⟩
      rw [← el, ← eu]
      exact ⟨_, rfl⟩
    cases pl with
    | none => cases pu with
      | none => exact fin none none rfl rfl rfl rfl
      | int j tj => exact fin none (some (j, tj)) rfl rfl rfl rfl
    | int i ti => cases pu with
      | none => exact fin (some (i, ti)) none rfl rfl rfl rfl
      | int j tj => exact fin (some (i, ti)) (some (j, tj)) rfl rfl rfl rfl
  | _ => exact q.elim

/-! ### xs.append(e), xs.pop() -/
abbrev RM := D → List D → DH → KD → Prop
def lowM (K : PySem.W.Frag) (r : RM) : V → List V → Hp → VK → Prop := fun v vs H Q => ∃ x ds M Q', Is K H v x ∧ Iss K H vs ds ∧ HAbs K M H ∧ r x ds M Q' ∧ lowQ K H Q' Q
def MtD (X : Cx) (id : String) (r : RM) : Prop := MtR X id (lowM X.K r)
def tyD (T : String) : D → DH → Prop
  | .str _, _ => T = "str"
  | .int _, _ => T = "int"
  | .ref l, M => T = "list" ∧ ∃ xs, LstAt M l xs
  | _, _ => False
def eBM0 (T : String) (r : RM) (to : TEd) : TEd := fun τ M Q => to τ M fun x M1 => tyD T x M1 ∧ r x [] M1 Q
def eBM (T : String) (r : RM) (to : TEd) (t : TAd) : TEd := fun τ M Q => to τ M fun x M1 => tyD T x M1 ∧ t τ M1 fun ds M2 => r x ds M2 Q
theorem tyD_low {K : PySem.W.Frag} {H : Hp} {M : DH} {T : String} {v : V} {x : D} (i : Is K H v x) (hm : HAbs K M H) (h : tyD T x M) : tyV K T v H := by
  cases i with
  | str z => exact h
  | int j => exact h
  | ref l => exact .inl ⟨h.1, let ⟨xs, hl⟩ := h.2; let ⟨ys, q, _⟩ := hm.lst hl; ⟨ys, q⟩⟩
  | _ => exact h.elim
variable {o : Expr} {to : TEd} {name : Str} {apos cpos : Pos} {T id : String} {r : RM}
theorem d_bm0 (pa : PlainAttrs T) (slot : Slot T name id) (hty : typeOf (.builtin id) = pure (.type "method_descriptor")) (hm : MtD X id r) (ho : PE X o (low X.K to))
    (hbase : attributeBase o name X.env (eval o X.env) = eval o X.env := by rfl) (hline : (apos.endLine == cpos.line) = true := by rfl) : PE X (.Call (.Attribute o name apos) [] [] cpos) (low X.K (eBM0 T r to)) :=
  (pe_bm0 pa slot hty hm ho hbase hline).imp fun σ H Q ⟨τ, M, Q', hs, hm, h, hq⟩ =>
    ⟨τ, M, _, hs, hm, h, fun x M1 v H1 m1 e1 i1 h1 => ⟨tyD_low i1 m1 h1.1, x, [], M1, Q', i1, .nil, m1, h1.2, hq.ext e1⟩⟩
theorem d_bm (pa : PlainAttrs T) (slot : Slot T name id) (hty : typeOf (.builtin id) = pure (.type "method_descriptor")) (hm : MtD X id r) (ho : PE X o (low X.K to)) (ha : PA X (e :: es) (lowA X.K t))
    (hbase : attributeBase o name X.env (eval o X.env) = eval o X.env := by rfl)
    (hfew : ((backTo cpos (starEach (e :: es) X.env)).all (fun x => !x.1) && (backToKw cpos (keywordEach [] X.env)).all (fun x => x.1.isSome)
      && decide ((e :: es).length + ([] : List Keyword).length + (if ([] : List Keyword).isEmpty then 0 else 1) < 30)) = true := by rfl)
    (hline : (apos.endLine == cpos.line) = true := by rfl) (hs : starEach (e :: es) X.env = (false, eval e X.env) :: starEach es X.env := by rfl) (hplain : (backTo cpos (starEach es X.env)).any (·.1) = false := by rfl) :
    PE X (.Call (.Attribute o name apos) (e :: es) [] cpos) (low X.K (eBM T r to t)) :=
  (pe_bm pa slot hty hm ho ha hbase hfew hline hs hplain).imp fun σ H Q ⟨τ, M, Q', hs, hm, h, hq⟩ =>
    ⟨τ, M, _, hs, hm, h, fun x M1 v H1 m1 e1 i1 h1 => ⟨tyD_low i1 m1 h1.1, τ, M1, _, hs.mono e1, m1, h1.2, fun ds M2 vs H2 m2 e2 i2 h2 => ⟨x, ds, M2, Q', i1.mono e2, i2, m2, h2, hq.ext (e1.trans e2)⟩⟩⟩
def appendD : D → List D → DH → KD → Prop
  | .ref l, [y], M, Q => ∃ xs, M l = some (.lst xs) ∧ xs.length < sizeLine ∧ Q .non (updM M l (.lst (xs ++ [y])))
  | _, _, _, _ => False
theorem md_append : MtD X "list.append" appendD := by
  intro pins s σ H vx vs v us Q I rx rs ⟨x, ds, M, Q', ix, iss, hm, q, hq⟩
  match x, ds, q, ix, iss with
  | .ref l, [y], q, ix, iss =>
    obtain ⟨xs, hl, hz, q⟩ := q
    cases ix with
    | ref =>
      obtain ⟨vy, rfl, iy⟩ := iss1 iss
      obtain ⟨ys, h1, h2⟩ := hm l _ hl
      refine mt_append pins s σ H _ _ v us Q I rx rs ⟨l, ys, vy, rfl, rfl, h1, by rw [h2.length]; exact hz, ?_⟩
      obtain ⟨m1, e1⟩ := hm.setL hl h1 (h2.append (.cons iy .nil))
      exact hq _ _ _ _ m1 e1 .non q
def popD : D → List D → DH → KD → Prop
  | .ref l, [], M, Q => ∃ xs y, M l = some (.lst (xs ++ [y])) ∧ Q y (updM M l (.lst xs))
  | _, _, _, _ => False
theorem md_pop : MtD X "list.pop" popD := by
  intro pins s σ H vx vs v us Q I rx rs ⟨x, ds, M, Q', ix, iss, hm, q, hq⟩
  match x, ds, q, ix, iss with
  | .ref l, [], q, ix, iss =>
    obtain ⟨xs, y, hl, q⟩ := q
    cases ix with
    | ref =>
      cases iss
      obtain ⟨ys, h1, h2⟩ := hm l _ hl
      have hlen := h2.length
      rw [List.length_append, List.length_singleton] at hlen
      obtain ⟨vy, ey, iy⟩ := h2.get (i := ys.length - 1) (d := y) (by rw [hlen]; simp)
      refine mt_pop pins s σ H _ _ v us Q I rx rs ⟨l, ys, vy, rfl, rfl, h1, ey, ?_⟩
      have h3 := h2.dropLast
      rw [List.dropLast_concat] at h3
      obtain ⟨m1, e1⟩ := hm.setL hl h1 h3
      exact hq _ _ _ _ m1 e1 (iy.mono e1) q

/-! ### tests -/
def truD : D → DH → (Bool → Prop) → Prop
  | .non, _, Q => Q false
  | .bl k, _, Q => Q k
  | .int i, _, Q => Q (i != 0)
  | .str y, _, Q => y.length ≤ sizeLine ∧ Q ((y.length : Int) != 0)
  | .tup ds, _, Q => Q (!ds.isEmpty)
  | .rol ds, _, Q => Q (!ds.isEmpty)
  | .ref l, M, Q => ∃ xs, LstAt M l xs ∧ Q (!xs.isEmpty)
  | .ty _, _, _ => False
def eTru (te : TEd) : TTd := fun τ M Q => te τ M fun x M1 => truD x M1 fun k => Q k M1
theorem Iss.empty {K : PySem.W.Frag} {H : Hp} {vs : List V} {ds : List D} (h : Iss K H vs ds) : vs.isEmpty = ds.isEmpty := by cases h <;> rfl
theorem dt_val (ha : PE X a (low X.K ta)) (he : ∀ whole, isTrue a X.env whole = (do let v ← whole; standAt a.pos; holding [v] (truthy v)) := by intro _; rfl) : PT X a (lowT X.K (eTru ta)) :=
  (pt_truth ha he).imp fun σ H Q ⟨τ, M, Q', hs, hm, h, hq⟩ => ⟨τ, M, _, hs, hm, h, fun x M1 v H1 m1 e1 i1 h1 => by
    cases i1 with
    | non => exact ⟨false, rfl, hq _ M1 H1 m1 e1 h1⟩
    | bl k => exact ⟨k, rfl, hq _ M1 H1 m1 e1 h1⟩
    | int i => exact ⟨_, rfl, hq _ M1 H1 m1 e1 h1⟩
    | str y => exact ⟨_, ⟨h1.1, rfl⟩, hq _ M1 H1 m1 e1 h1.2⟩
    | ty n => exact h1.elim
    | tup hx hxs => exact ⟨_, .inr (.inl ⟨_, hx, rfl⟩), hq _ M1 H1 m1 e1 (by rw [hxs.empty]; exact h1)⟩
    | rol hx hxs => exact ⟨_, .inl ⟨_, hx.sq, rfl⟩, hq _ M1 H1 m1 e1 (by rw [hxs.empty]; exact h1)⟩
    | ref l =>
      obtain ⟨xs, hl, q⟩ := h1
      obtain ⟨ys, h2, h3⟩ := m1.lst hl
      exact ⟨_, .inl ⟨_, h2, rfl⟩, hq _ M1 H1 m1 e1 (by rw [h3.empty]; exact q)⟩⟩
def bAnd (t u : TTd) : TTd := fun τ M Q => t τ M fun k M1 => if k = true then u τ M1 Q else Q false M1
def bOr (t u : TTd) : TTd := fun τ M Q => t τ M fun k M1 => if k = true then Q true M1 else u τ M1 Q
def bNot (t : TTd) : TTd := fun τ M Q => t τ M fun k M1 => Q (!k) M1
variable {tA tB : TTd} {rest : List Expr}
theorem dw_and1 (ha : PT X a (lowT X.K tA)) : PW X (.BoolOp .And [a] pos) (lowT X.K tA) := pw_and1 ha
theorem dw_or1 (ha : PT X a (lowT X.K tA)) : PW X (.BoolOp .Or [a] pos) (lowT X.K tA) := pw_or1 ha
theorem dw_and (ha : PT X a (lowT X.K tA)) (hb : PW X (.BoolOp .And (b :: rest) pos) (lowT X.K tB)) : PW X (.BoolOp .And (a :: b :: rest) pos) (lowT X.K (bAnd tA tB)) :=
  L2.PW.imp (pw_and ha hb) fun σ H Q ⟨τ, M, Q', hs, hm, h, hq⟩ => ⟨τ, M, _, hs, hm, h, fun k M1 H1 m1 e1 h1 => by
    cases k with
    | true => rw [if_pos rfl] at h1 ⊢; exact ⟨τ, M1, Q', hs.mono e1, m1, h1, fun k M2 H2 m2 e2 h2 => hq k M2 H2 m2 (e1.trans e2) h2⟩
    | false => rw [if_neg Bool.false_ne_true] at h1 ⊢; exact hq false M1 H1 m1 e1 h1⟩
theorem dw_or (ha : PT X a (lowT X.K tA)) (hb : PW X (.BoolOp .Or (b :: rest) pos) (lowT X.K tB)) : PW X (.BoolOp .Or (a :: b :: rest) pos) (lowT X.K (bOr tA tB)) :=
  L2.PW.imp (pw_or ha hb) fun σ H Q ⟨τ, M, Q', hs, hm, h, hq⟩ => ⟨τ, M, _, hs, hm, h, fun k M1 H1 m1 e1 h1 => by
    cases k with
    | true => rw [if_pos rfl] at h1 ⊢; exact hq true M1 H1 m1 e1 h1
    | false => rw [if_neg Bool.false_ne_true] at h1 ⊢; exact ⟨τ, M1, Q', hs.mono e1, m1, h1, fun k M2 H2 m2 e2 h2 => hq k M2 H2 m2 (e1.trans e2) h2⟩⟩
theorem dt_not (ha : PT X a (lowT X.K tA)) : PT X (.UnaryOp .Not a pos) (lowT X.K (bNot tA)) :=
  L2.PT.imp (pt_not ha) fun σ H Q ⟨τ, M, Q', hs, hm, h, hq⟩ => ⟨τ, M, _, hs, hm, h, fun k M1 H1 m1 e1 h1 => hq (!k) M1 H1 m1 e1 h1⟩
/-! and, or, not as values (truth values alone) -/
def vAnd (ta tb : TEd) : TEd := fun τ M Q => ta τ M fun x M1 => onBl x fun k => if k = true then tb τ M1 Q else Q (.bl false) M1
def vOr (ta tb : TEd) : TEd := fun τ M Q => ta τ M fun x M1 => onBl x fun k => if k = true then Q (.bl true) M1 else tb τ M1 Q
def vNot (ta : TEd) : TEd := fun τ M Q => ta τ M fun x M1 => onBl x fun k => Q (.bl (!k)) M1
theorem d_one {op} (h : PE X a (low X.K ta)) : PE X (.BoolOp op [a] pos) (low X.K ta) := pe_one h
theorem d_and (ha : PE X a (low X.K ta)) (hb : PE X (.BoolOp .And (b :: rest) pos) (low X.K tb)) : PE X (.BoolOp .And (a :: b :: rest) pos) (low X.K (vAnd ta tb)) :=
  L2.PE.imp (pe_and ha hb) fun σ H Q ⟨τ, M, Q', hs, hm, h, hq⟩ => ⟨τ, M, _, hs, hm, h, fun x M1 v H1 m1 e1 i1 h1 => by
    cases i1 with
    | bl k => cases k with
      | true => exact ⟨true, rfl, by rw [if_pos rfl]; exact ⟨τ, M1, Q', hs.mono e1, m1, h1, hq.ext e1⟩⟩
      | false => exact ⟨false, rfl, by rw [if_neg Bool.false_ne_true]; exact hq _ M1 _ H1 m1 e1 (.bl false) h1⟩
    | _ => exact h1.elim⟩
theorem d_or (ha : PE X a (low X.K ta)) (hb : PE X (.BoolOp .Or (b :: rest) pos) (low X.K tb)) : PE X (.BoolOp .Or (a :: b :: rest) pos) (low X.K (vOr ta tb)) :=
  L2.PE.imp (pe_or ha hb) fun σ H Q ⟨τ, M, Q', hs, hm, h, hq⟩ => ⟨τ, M, _, hs, hm, h, fun x M1 v H1 m1 e1 i1 h1 => by
    cases i1 with
    | bl k => cases k with
      | true => exact ⟨true, rfl, by rw [if_pos rfl]; exact hq _ M1 _ H1 m1 e1 (.bl true) h1⟩
      | false => exact ⟨false, rfl, by rw [if_neg Bool.false_ne_true]; exact ⟨τ, M1, Q', hs.mono e1, m1, h1, hq.ext e1⟩⟩
    | _ => exact h1.elim⟩
theorem d_not (ha : PE X a (low X.K ta)) : PE X (.UnaryOp .Not a pos) (low X.K (vNot ta)) :=
  L2.PE.imp (pe_not ha) fun σ H Q ⟨τ, M, Q', hs, hm, h, hq⟩ => ⟨τ, M, _, hs, hm, h, fun x M1 v H1 m1 e1 i1 h1 => by
    cases i1 with
    | bl k => exact ⟨k, rfl, hq _ M1 _ H1 m1 e1 (.bl _) h1⟩
    | _ => exact h1.elim⟩
end

/-! ### statements -/
section
variable {X : Cx} {st : Stmt} {rest : List Stmt} {t u : TSd} {e c : Expr} {te : TEd} {tc : TTd} {pos : Pos}
def sNext : TSd := fun D τ M => D.nx τ M
def sSeq (t u : TSd) : TSd := fun D τ M => t { D with nx := u D } τ M
theorem ss_nil : PSs X [] (lowS X.K sNext) := pss_nil.imp fun D σ H ⟨τ, M, D', hs, hm, h, hd⟩ => hd.nx τ M σ H hs hm (Ext.refl H) h
theorem ss_cons (h1 : PS X st (lowS X.K t)) (h2 : PSs X rest (lowS X.K u)) : PSs X (st :: rest) (lowS X.K (sSeq t u)) :=
  (pss_cons h1 h2).imp fun D σ H ⟨τ, M, D', hs, hm, h, hd⟩ =>
    ⟨τ, M, { D' with nx := u D' }, hs, hm, h, ⟨fun τ1 M1 σ1 H1 s1 m1 e1 q => ⟨τ1, M1, D', s1, m1, q, hd.ext e1⟩, hd.rt, hd.bk, hd.ct⟩⟩
theorem ss_one (h1 : PS X st (lowS X.K t)) : PSs X [st] (lowS X.K t) := pss_one h1
theorem s_pass : PS X (.Pass pos) (lowS X.K sNext) := ps_pass.imp fun D σ H ⟨τ, M, D', hs, hm, h, hd⟩ => hd.nx τ M σ H hs hm (Ext.refl H) h
def sDrop (te : TEd) : TSd := fun D τ M => te τ M fun _ M1 => D.nx τ M1
theorem s_expr (he : PE X e (low X.K te)) (hs : swapsWith e none pos.line X.env = pure false := by rfl) : PS X (.Expr e pos) (lowS X.K (sDrop te)) :=
  (ps_expr he hs).imp fun D σ H ⟨τ, M, D', hs, hm, h, hd⟩ => ⟨τ, M, _, hs, hm, h, fun _ M1 _ H1 m1 e1 _ q => hd.nx τ M1 σ H1 (hs.mono e1) m1 e1 q⟩
def sRet (te : TEd) : TSd := fun D τ M => te τ M D.rt
theorem s_ret (he : PE X e (low X.K te)) : PS X (.Return (some e) pos) (lowS X.K (sRet te)) :=
  (ps_ret he).imp fun D σ H ⟨τ, M, D', hs, hm, h, hd⟩ => ⟨τ, M, _, hs, hm, h, hd.rt⟩
def sIf (c : TTd) (t u : TSd) : TSd := fun D τ M => c τ M fun k M1 => if k = true then t D τ M1 else u D τ M1
theorem s_if {a b : List Stmt} (hc : PT X c (lowT X.K tc)) (ha : PSs X a (lowS X.K t)) (hb : PSs X b (lowS X.K u)) : PS X (.If c a b pos) (lowS X.K (sIf tc t u)) :=
  (ps_if hc ha hb).imp fun D σ H ⟨τ, M, D', hs, hm, h, hd⟩ => ⟨τ, M, _, hs, hm, h, fun k M1 H1 m1 e1 q => by
    cases k with
    | true => rw [if_pos rfl] at q ⊢; exact ⟨τ, M1, D', hs.mono e1, m1, q, hd.ext e1⟩
    | false => rw [if_neg Bool.false_ne_true] at q ⊢; exact ⟨τ, M1, D', hs.mono e1, m1, q, hd.ext e1⟩⟩
def sNever : TSd := fun _ _ _ => False
theorem s_never : PS X st (lowS X.K sNever) := fun _ _ _ _ _ _ ⟨_, _, _, _, _, h, _⟩ => h.elim
theorem ss_never {sts : List Stmt} : PSs X sts (lowS X.K sNever) := fun _ _ _ _ _ _ ⟨_, _, _, _, _, h, _⟩ => h.elim
/-! targets -/
abbrev TGd := D → DSt → DH → (DSt → DH → Prop) → Prop
abbrev TGsd := List D → DSt → DH → (DSt → DH → Prop) → Prop
def lowG (K : PySem.W.Frag) (g : TGd) : TG := fun v σ H Q => ∃ d τ M Q', Is K H v d ∧ SAbs K τ σ H ∧ HAbs K M H ∧ g d τ M Q' ∧ ∀ τ1 M1 σ1 H1, SAbs K τ1 σ1 H1 → HAbs K M1 H1 → Ext K H H1 → Q' τ1 M1 → Q σ1 H1
def lowGs (K : PySem.W.Frag) (g : TGsd) : TGs := fun vs σ H Q => ∃ ds τ M Q', Iss K H vs ds ∧ SAbs K τ σ H ∧ HAbs K M H ∧ g ds τ M Q' ∧ ∀ τ1 M1 σ1 H1, SAbs K τ1 σ1 H1 → HAbs K M1 H1 → Ext K H H1 → Q' τ1 M1 → Q σ1 H1
theorem _root_.L2.PG.imp {tg : Expr} {t t' : TG} (h : PG X tg t) (hi : ∀ v σ H Q, t' v σ H Q → t v σ H Q) : PG X tg t' := fun pins s σ H v u Q I r q => h pins s σ H v u Q I r (hi _ _ _ _ q)
theorem _root_.L2.PGs.imp {tg : List Expr} {t t' : TGs} (h : PGs X tg t) (hi : ∀ v σ H Q, t' v σ H Q → t v σ H Q) : PGs X tg t' := fun pins s σ H v u Q I r q => h pins s σ H v u Q I r (hi _ _ _ _ q)
def hName (i : Nat) : TGd := fun d τ M Q => Q (τ.set i (some d)) M
theorem g_name {i : Nat} {x : Str} (hN : X.N.Nodup) (hi : X.N[i]? = some x := by rfl) (hx : Loc X.env.scope x := by first | exact Or.inl rfl | exact Or.inr rfl) (hf : X.fn x = true ∨ X.env.scope.names.lookup x = some .local := by first | exact .inl rfl | exact .inr rfl | assumption) : PG X (.Name x pos) (lowG X.K (hName i)) :=
  (pg_name hN hi hx hf).imp fun v σ H Q ⟨d, τ, M, Q', i, hs, hm, h, hq⟩ => hq _ M _ H (hs.set i) hm (Ext.refl H) h
def hNil : List D → DSt → DH → (DSt → DH → Prop) → Prop
  | [], τ, M, Q => Q τ M
  | _ :: _, _, _, _ => False
def hCons (g : TGd) (gs : TGsd) : List D → DSt → DH → (DSt → DH → Prop) → Prop
  | d :: r, τ, M, Q => g d τ M fun τ1 M1 => gs r τ1 M1 Q
  | [], _, _, _ => False
theorem gs_nil : PGs X [] (lowGs X.K hNil) := pgs_nil.imp fun v σ H Q ⟨ds, τ, M, Q', iss, hs, hm, h, hq⟩ => by
  cases iss with
  | nil => exact ⟨rfl, hq τ M σ H hs hm (Ext.refl H) h⟩
  | cons _ _ => exact h.elim
theorem gs_cons {es : List Expr} {g : TGd} {gs : TGsd} (h1 : PG X e (lowG X.K g)) (h2 : PGs X es (lowGs X.K gs))
    (hs : (assignEach (e :: es) X.env).map (·.2) = assign e X.env :: (assignEach es X.env).map (·.2) := by rfl) : PGs X (e :: es) (lowGs X.K (hCons g gs)) :=
  (pgs_cons h1 h2 hs).imp fun v σ H Q ⟨ds, τ, M, Q', iss, hs, hm, h, hq⟩ => by
    cases iss with
    | nil => exact h.elim
    | cons i t => exact ⟨_, _, rfl, _, τ, M, _, i, hs, hm, h, fun τ1 M1 σ1 H1 s1 m1 e1 q => ⟨_, τ1, M1, Q', t.mono e1, s1, m1, q, fun τ2 M2 σ2 H2 s2 m2 e2 q2 => hq τ2 M2 σ2 H2 s2 m2 (e1.trans e2) q2⟩⟩
def hTup (gs : TGsd) : D → DSt → DH → (DSt → DH → Prop) → Prop
  | .tup ds, τ, M, Q => gs ds τ M Q
  | _, _, _, _ => False
theorem g_tup {es : List Expr} {k n : Nat} {gs : TGsd} (hc : X.calm = true) (h : PGs X es (lowGs X.K gs)) (hln : ∀ ds τ M Q, gs ds τ M Q → ds.length = n)
    (hn : (assignEach es X.env).length = n := by rfl) (hst : (assignEach es X.env).findIdx? (·.1) = none := by rfl) : PG X (.Tuple es k pos) (lowG X.K (hTup gs)) :=
  (pg_tup hc h hn hst).imp fun v σ H Q ⟨d, τ, M, Q', i, hs, hm, h, hq⟩ => by
    cases i with
    | tup hx hxs => exact ⟨_, _, rfl, hx, by rw [hxs.length]; exact hln _ _ _ _ h, _, τ, M, Q', hxs, hs, hm, h, hq⟩
    | _ => exact h.elim
/-- o[i] = v of a list -/
def setD : D → D → D → DH → (DH → Prop) → Prop
  | .ref l, .int i, d, M, Q => ∃ xs j, M l = some (.lst xs) ∧ ixN xs.length i = some j ∧ Q (updM M l (.lst (xs.set j d)))
  | _, _, _, _, _ => False
def hSub (to ti : TEd) : TGd := fun d τ M Q => to τ M fun x M1 => ti τ M1 fun y M2 => setD x y d M2 fun M3 => Q τ M3
theorem g_sub {o i : Expr} {to ti : TEd} (ho : PE X o (low X.K to)) (hi : PE X i (low X.K ti))
    (ha : ∀ v, assign (.Subscript o i pos) X.env v = (do
      let ov ← holding [v] (eval o X.env)
      let iv ← holding [v, ov] (eval i X.env)
      standAt pos
      holding [v, ov, iv] (setItem ov iv v)
      release [v, ov, iv] []) := by intro _; rfl) : PG X (.Subscript o i pos) (lowG X.K (hSub to ti)) :=
  (pg_sub ho hi set_list ha).imp fun v σ H Q ⟨d, τ, M, Q', i, hs, hm, h, hq⟩ =>
    ⟨τ, M, _, hs, hm, h, fun x M1 vx H1 m1 e1 i1 h1 => ⟨τ, M1, _, hs.mono e1, m1, h1, fun y M2 vy H2 m2 e2 i2 h2 => by
      have i1' := i1.mono e2
      match x, y, h2, i1', i2 with
      | .ref l, .int k, h2, i1', i2 =>
        obtain ⟨xs, j, hl, hj, q⟩ := h2
        cases i1' with
        | ref =>
          cases i2
          obtain ⟨ys, z1, z2⟩ := m2 l _ hl
          have e12 := e1.trans e2
          obtain ⟨m3, e3⟩ := m2.setL hl z1 (z2.set (i.mono e12) j)
          exact ⟨l, ys, k, j, rfl, rfl, z1, by rw [z2.length]; exact hj, hq τ _ σ _ (hs.mono (e12.trans e3)) m3 (e12.trans e3) q⟩⟩⟩
def sAsg (te : TEd) (g : TGd) : TSd := fun D τ M => te τ M fun x M1 => g x τ M1 D.nx
theorem low_asg {K : PySem.W.Frag} {g : TGd} {D : Ends} {σ : St} {H : Hp} (h : lowS K (sAsg te g) D σ H) : tAsg (low K te) (lowG K g) D σ H := by
  obtain ⟨τ, M, D', hs, hm, h, hd⟩ := h
  exact ⟨τ, M, _, hs, hm, h, fun x M1 v H1 m1 e1 i1 q => ⟨x, τ, M1, _, i1, hs.mono e1, m1, q, fun τ2 M2 σ2 H2 s2 m2 e2 q2 => hd.nx τ2 M2 σ2 H2 s2 m2 (e1.trans e2) q2⟩⟩
theorem s_asg {tg : Expr} {g : TGd} (he : PE X e (low X.K te)) (hg : PG X tg (lowG X.K g)) (hs : swapsWithSole [tg] e pos.line X.env = pure false := by rfl) (hw : swappedStores [tg] e X.env = pure none := by rfl)
    (h1 : (assignEach [tg] X.env).map (·.2) = [assign tg X.env] := by rfl) : PS X (.Assign [tg] e pos) (lowS X.K (sAsg te g)) :=
  (ps_asg he hg hs hw h1).imp fun _ _ _ h => low_asg h
theorem s_set {i : Nat} {x : Str} {pos' : Pos} (hN : X.N.Nodup) (he : PE X e (low X.K te)) (hi : X.N[i]? = some x := by rfl) (hx : Loc X.env.scope x := by first | exact Or.inl rfl | exact Or.inr rfl) (hs : swapsWith e (some (.Name x pos')) pos.line X.env = pure false := by rfl) (hf : X.fn x = true ∨ X.env.scope.names.lookup x = some .local := by first | exact .inl rfl | exact .inr rfl | assumption) :
    PS X (.Assign [.Name x pos'] e pos) (lowS X.K (sAsg te (hName i))) :=
  (ps_set hN hi hx he hs hf).imp fun D σ H ⟨τ, M, D', hs, hm, h, hd⟩ => ⟨τ, M, _, hs, hm, h, fun x M1 v H1 m1 e1 i1 q => hd.nx _ M1 _ H1 ((hs.mono e1).set i1) m1 e1 q⟩
/-- name += e of ints, texts -/
def iaddD : D → D → DH → KD → Prop
  | .int i, .int j, M, Q => Q (.int (i + j)) M
  | .str i, .str j, M, Q => i.length + j.length ≤ sizeLine ∧ Q (.str (i ++ j)) M
  | _, _, _, _ => False
theorem ip_iadd : PIp X .Add (lowR2 X.K iaddD) := by
  intro pins s σ H vx vy v u Q I rx ry ⟨x, y, M, Q', ix, iy, hm, q, hq⟩
  cases ix with
  | int i => cases iy with
    | int j => exact iop_add pins s σ H _ _ v u Q I rx ry ⟨_, _, rfl, rfl, hq.here hm (.int _) q⟩
    | _ => exact q.elim
  | str i => cases iy with
    | str j => exact iop_add_str pins s σ H _ _ v u Q I rx ry ⟨_, _, rfl, rfl, q.1, hq.here hm (.str _) q.2⟩
    | _ => exact q.elim
  | _ => cases iy <;> exact q.elim
def sAug (i : Nat) (te : TEd) : TSd := fun E τ M => onVal τ[i]? fun x => te τ M fun y M1 => iaddD x y M1 fun z M2 => E.nx (τ.set i (some z)) M2
theorem s_aug {i : Nat} {x : Str} {pos' : Pos} (hN : X.N.Nodup) (he : PE X e (low X.K te)) (hi : X.N[i]? = some x := by rfl) (hx : Loc X.env.scope x := by first | exact Or.inl rfl | exact Or.inr rfl) (hf : X.fn x = true ∨ X.env.scope.names.lookup x = some .local := by first | exact .inl rfl | exact .inr rfl | assumption) :
    PS X (.AugAssign (.Name x pos') .Add e pos) (lowS X.K (sAug i te)) :=
  (ps_aug hN hi hx he ip_iadd hf).imp fun D σ H ⟨τ, M, D', hs, hm, h, hd⟩ => by
    obtain ⟨d, hd', h⟩ := onVal_some h
    · obtain ⟨v, h1, h2⟩ := hs.2 _ d hd'
      exact ⟨v, h1, τ, M, _, hs, hm, h, fun y M1 vy H1 m1 e1 i1 q => ⟨d, y, M1, _, h2.mono e1, i1, m1, q, fun z M2 vz H2 m2 e2 i2 q2 => hd.nx _ M2 _ H2 ((hs.mono (e1.trans e2)).set i2) m2 (e1.trans e2) q2⟩⟩
end
end DL

/-! Loops and defs over data. -/
namespace DL
open PySem PySem.Spec PyProof.Rows L2

section
variable {X : Cx} {e c tg : Expr} {te : TEd} {tc : TTd} {tb : TSd} {g : TGd} {pos : Pos}
/-! ### while -/
def sWhile (c : TTd) (tb : TSd) : TSd := fun D τ M => ∃ W : Nat → DSt → DH → Prop, (∃ m, W m τ M) ∧ ∀ m τ M, W m τ M →
  c τ M fun k M1 => if k = true then tb { D with nx := fun τ' M' => ∃ m', m' < m ∧ W m' τ' M', ct := fun τ' M' => ∃ m', m' < m ∧ W m' τ' M', bk := D.nx } τ M1 else D.nx τ M1
theorem s_while {body : List Stmt} (hp : PassesOwn (model X.prog X.w) X.A X.env X.xe) (hc : PT X c (lowT X.K tc)) (hb : PSs X body (lowS X.K tb)) : PS X (.While c body [] pos) (lowS X.K (sWhile tc tb)) :=
  (ps_while hp hc hb).imp fun D σ H ⟨τ, M, D', hs, hm, ⟨W, ⟨m0, w0⟩, turn⟩, hd⟩ => by
    refine ⟨fun m σ1 H1 => ∃ τ1 M1, SAbs X.K τ1 σ1 H1 ∧ HAbs X.K M1 H1 ∧ Ext X.K H H1 ∧ W m τ1 M1, ⟨m0, τ, M, hs, hm, Ext.refl H, w0⟩, ?_⟩
    rintro m σ1 H1 ⟨τ1, M1, s1, m1, e1, w1⟩
    refine ⟨τ1, M1, _, s1, m1, turn m τ1 M1 w1, fun k M2 H2 m2 e2 q2 => ?_⟩
    cases k with
    | true =>
      rw [if_pos rfl] at q2 ⊢
      refine ⟨_, fun σ3 H3 h3 => h3, τ1, M2, _, s1.mono e2, m2, q2, ⟨?_, hd.rt.ext (e1.trans e2), ?_, ?_⟩⟩
      · rintro τ3 M3 σ3 H3 s3 m3 e3 ⟨m', hm', w3⟩
        exact ⟨m', hm', τ3, M3, s3, m3, e1.trans (e2.trans e3), w3⟩
      · intro τ3 M3 σ3 H3 s3 m3 e3 q3
        exact hd.nx τ3 M3 σ3 H3 s3 m3 (e1.trans (e2.trans e3)) q3
      · rintro τ3 M3 σ3 H3 s3 m3 e3 ⟨m', hm', w3⟩
        exact ⟨m', hm', τ3, M3, s3, m3, e1.trans (e2.trans e3), w3⟩
    | false =>
      rw [if_neg Bool.false_ne_true] at q2 ⊢
      exact hd.nx τ1 M2 σ1 H2 (s1.mono e2) m2 (e1.trans e2) q2

/-! ### what is walked -/
theorem walks_imp {prog : Program} {w : World} {A : Around} {I : Addr} {fp wr : List Addr} {n : Nat} {P P' : Nat → Value → Prop} {St : Nat → Heap → Prop} (W : Walks prog w A I fp wr n P St) (h : ∀ i v, P i v → P' i v) : Walks prog w A I fp wr n P' St :=
  ⟨W.sub, W.frame, fun i s Q E hi st hQ => W.item i s Q E hi st fun v h' tk hp => hQ v h' tk (h i v hp), W.done, W.self⟩
/-- f 0, f 1, .. (n of them), whatever the heap -/
def Itf (n : Nat) (f : Nat → V) : It := ⟨fun i _ => i < n, fun i H x H' => H' = H ∧ x = f i, fun i _ => i = n⟩
theorem turn_walks {P : Program} {w : World} {K : PySem.W.Frag} {tg : Expr} (it : Addr) (n : Nat) (f : Nat → V) (St : Nat → Heap → Prop) (W : ∀ A : Around, A.handled = none → Walks P w A it [it] [it] n (fun i v => RelV (f i) v) St)
    (hobj : ∀ i h, St i h → ∃ (o : Obj) (ty : String) (vs : Array Value), h.get? it = some o ∧ o.cls = .type ty ∧ o.data = .fields vs ∧ ["enumerate", "zip", "dict_itemiterator", "dict_reverseitemiterator", "odict_iterator", "itertools.zip_longest", "itertools.pairwise"].contains ty = false)
    (self : ∀ (A : Around) (i : Nat) (s : Shared) (Q : Value → Shared → Prop) (E : Value → Shared → Prop), St i s.heap → Q (.ref it) s → wpAny (model P w) A (pyIter (.ref it)) Q E s) :
    Turn P w K tg (Itf n f) [it] it St where
  mem := by simp
  obj := fun i h st b hb => by
    have e : b = it := by simpa using hb
    subst e
    obtain ⟨o, ty, vs, h1, h2, h3, _⟩ := hobj i h st
    exact ⟨o, h1, fun v z => by rw [h3] at z; cases z⟩
  keep := fun i h h' st k => (W { depth := 0, units := 0, handled := none, frames := none } rfl).frame i h h' st k
  item := by
    intro X hP hw hK hc i pins s σ H E I hf st hg
    subst hP hw hK
    obtain ⟨f0, f1, f2, f3, f4, f5⟩ := hf it (by simp)
    refine (W X.A (I.ok.hd hc)).item i s _ _ hg st fun v h' tk hv st' kk => ?_
    have I1 : Inv X pins σ H { s with heap := h', toks := tk } := I.turned (fun b o hb e => kk b o (by simpa using hb) e) f0 f1 f3 f4 f5
    obtain ⟨o, ty, vs, h1, h2, h3, h4⟩ := hobj _ _ st'
    exact ⟨_, rfl, go_of (s := { s with heap := h', toks := tk }) (n := ty) h1 h2 h3 h4 ⟨f i, H, I1, hv, ⟨rfl, rfl⟩, st', fun b hb => (hf b hb).1⟩⟩
  done := by
    intro X hP hw hK hc i pins s σ H E I hf st hg
    subst hP hw hK
    obtain ⟨f0, f1, f2, f3, f4, f5⟩ := hf it (by simp)
    have e : i = n := hg
    subst e
    exact (W X.A (I.ok.hd hc)).done s _ _ st fun h' tk kk => ⟨rfl, I.turned (fun b o hb e => kk b o (by simpa using hb) e) f0 f1 f3 f4 f5⟩
  self := self
/-! ### for over a list, a tuple, a text -/
def signV (z : Str) (i : Nat) : V := .str ⟨#[z.cps.getD i 0]⟩
def iAny (K : PySem.W.Frag) (tl : TE) : TI := fun σ H R => tl σ H fun x H1 => (∃ a, x = .ref a ∧ (((∃ xs, SqL K H1 a xs) ∧ R (Itl K a) H1) ∨ ((∃ xs, SqT K H1 a xs) ∧ R (Itt K a) H1))) ∨ ∃ z, x = .str z ∧ R (Itf z.cps.size (signV z)) H1
theorem pi_any {l : Expr} {tl : TE} (hl : PE X l tl) : PI X tg l (iAny X.K tl) := by
  intro pins s σ H R I h
  refine thn (hl pins s σ H _ I h) fun v s1 ⟨x, H1, I1, r1, q1⟩ => ?_
  have fr : ∀ b ∈ [s1.heap.objs.size], FpOk X pins H1 b := fun b hb => by
    have e : b = s1.heap.objs.size := by simpa using hb
    subst e
    exact I1.fpOk (Nat.le_refl _) (I1.hok.fresh (Nat.le_refl _))
  rcases q1 with ⟨a, e, q1⟩ | ⟨z, e, q⟩
  · subst e
    cases r1
    rcases q1 with ⟨⟨xs, hq⟩, q⟩ | ⟨⟨xs, hq⟩, q⟩
    · obtain ⟨its, rv, p, hz⟩ := I1.list hq
      refine wpAny_pyIter_list p.isList ?_
      exact ⟨s1.heap.objs.size, [s1.heap.objs.size], _, _, H1, rfl, I1.kept (t' := s1.toks) fun b o e => Heap.get?_push_of_some _ e, turn_list a _, ⟨_, Heap.get?_push_size _ rfl, rfl, rfl⟩, fr, q⟩
    · obtain ⟨its, rv, p, hz⟩ := I1.tuple hq
      refine wpAny_pyIter_tuple (show s1.heap.IsTuple a its.toArray from p) ?_
      exact ⟨s1.heap.objs.size, [s1.heap.objs.size], _, _, H1, rfl, I1.kept (t' := s1.toks) fun b o e => Heap.get?_push_of_some _ e, turn_tuple a _, ⟨_, Heap.get?_push_size _ rfl, rfl, rfl⟩, fr, q⟩
  · subst e
    obtain ⟨t, rfl⟩ := r1
    have hrel : ∀ (i : Nat) (v : Value), (∃ c u, z.cps[i]? = some c ∧ v = .str ⟨#[c]⟩ u) → RelV (signV z i) v := fun i v ⟨c, u, e1, e2⟩ => by
      refine ⟨u, ?_⟩
      have : z.cps.getD i 0 = c := by rw [Array.getD_eq_getD_getElem?, e1]; rfl
      rw [e2, this]
    cases ha : z.cps.all (· < 128) with
    | true =>
      refine wpAny_pyIter_ascii ha ?_
      refine ⟨s1.heap.objs.size, [s1.heap.objs.size], _, _, H1, rfl, I1.kept (t' := s1.toks) fun b o e => Heap.get?_push_of_some _ e, turn_walks s1.heap.objs.size z.cps.size (signV z) (fun i h => h.IsStrIter s1.heap.objs.size "str_ascii_iterator" z t i)
        (fun A hA => walks_imp (Walks.strAscii (A := A) hA s1.heap.objs.size z t) hrel) (fun i h ⟨o, h1, h2, h3⟩ => ⟨o, _, _, h1, h2, h3, by decide⟩) (fun _ _ _ _ _ st h => wpAny_pyIter_striter_ascii st h), ⟨_, Heap.get?_push_size _ rfl, rfl, rfl⟩, fr, q⟩
    | false =>
      refine wpAny_pyIter_wide ha ?_
      refine ⟨s1.heap.objs.size, [s1.heap.objs.size], _, _, H1, rfl, I1.kept (t' := s1.toks) fun b o e => Heap.get?_push_of_some _ e, turn_walks s1.heap.objs.size z.cps.size (signV z) (fun i h => h.IsStrIter s1.heap.objs.size "str_iterator" z t i)
        (fun A hA => walks_imp (Walks.strWide (A := A) hA s1.heap.objs.size z t) hrel) (fun i h ⟨o, h1, h2, h3⟩ => ⟨o, _, _, h1, h2, h3, by decide⟩) (fun _ _ _ _ _ st h => wpAny_pyIter_striter_wide st h), ⟨_, Heap.get?_push_size _ rfl, rfl, rfl⟩, fr, q⟩
/-- the iterator gives these data -/
structure Gives (K : PySem.W.Frag) (J : It) (ds : List D) (H : Hp) : Prop where
  go : ∀ i, i < ds.length → J.go i H
  yld : ∀ i x H', i < ds.length → J.yld i H x H' → H' = H ∧ ∃ d, ds[i]? = some d ∧ Is K H x d
  stop : J.stop ds.length H
theorem gives_list {K : PySem.W.Frag} {H : Hp} {a : Addr} {xs : List V} {ds : List D} (h : SqL K H a xs) (i : Iss K H xs ds) : Gives K (Itl K a) ds H :=
  ⟨fun j hj => let ⟨v, e, _⟩ := i.get (List.getElem?_eq_getElem hj); ⟨xs, v, h, e⟩, fun j x H' _ ⟨e, y⟩ => ⟨e, i.getV (y xs h)⟩, ⟨xs, h, by rw [i.length]; exact Nat.le_refl _⟩⟩
theorem gives_tup {K : PySem.W.Frag} {H : Hp} {a : Addr} {xs : List V} {ds : List D} (h : SqT K H a xs) (i : Iss K H xs ds) : Gives K (Itt K a) ds H :=
  ⟨fun j hj => let ⟨v, e, _⟩ := i.get (List.getElem?_eq_getElem hj); ⟨xs, v, h, e⟩, fun j x H' _ ⟨e, y⟩ => ⟨e, i.getV (y xs h)⟩, ⟨xs, h, by rw [i.length]; exact Nat.le_refl _⟩⟩
def signs (z : Str) : List D := z.cps.toList.map fun c => .str ⟨#[c]⟩
theorem signs_length (z : Str) : (signs z).length = z.cps.size := by simp [signs]
theorem gives_str {K : PySem.W.Frag} {H : Hp} (z : Str) : Gives K (Itf z.cps.size (signV z)) (signs z) H :=
  ⟨fun j hj => by rw [signs_length] at hj; exact hj, fun j x H' hj ⟨e, y⟩ => by
    refine ⟨e, .str ⟨#[z.cps.getD j 0]⟩, ?_, by rw [y]; exact .str _⟩
    rw [signs_length] at hj
    unfold signs
    rw [List.getElem?_map, Array.getElem?_toList, Array.getElem?_eq_getElem hj]
    simp [Array.getD_eq_getD_getElem?, hj], by rw [signs_length]; exact rfl⟩
/-- ds are walked; st: what keeps the walked thing -/
def walkD (ds : List D) (st : DH → Prop) (g : TGd) (tb : TSd) (E : EndsD) (τ : DSt) (M : DH) : Prop := ∃ W : Nat → DSt → DH → Prop, W 0 τ M ∧ (∀ i τ M, i ≤ ds.length → W i τ M → st M) ∧
  (∀ i d τ M, ds[i]? = some d → W i τ M → g d τ M fun τ2 M2 => tb { E with nx := W (i + 1), ct := W (i + 1), bk := E.nx } τ2 M2) ∧ ∀ τ M, W ds.length τ M → E.nx τ M
def forD (g : TGd) (tb : TSd) (E : EndsD) (τ : DSt) : D → DH → Prop
  | .tup ds, M => walkD ds (fun _ => True) g tb E τ M
  | .rol ds, M => walkD ds (fun _ => True) g tb E τ M
  | .str z, M => walkD (signs z) (fun _ => True) g tb E τ M
  | .ref l, M => ∃ ds, M l = some (.lst ds) ∧ walkD ds (fun M => M l = some (.lst ds)) g tb E τ M
  | _, _ => False
def sFor (te : TEd) (g : TGd) (tb : TSd) : TSd := fun E τ M => te τ M fun x M1 => forD g tb E τ x M1
theorem lowEnds {K : PySem.W.Frag} {H H1 : Hp} {D' : EndsD} {E : Ends} {W : DSt → DH → Prop} (hd : LowD K H D' E) (e : Ext K H H1) :
    LowD K H1 { D' with nx := W, ct := W, bk := D'.nx } { E with nx := fun σ H2 => ∃ τ M, SAbs K τ σ H2 ∧ HAbs K M H2 ∧ Ext K H H2 ∧ W τ M, ct := fun σ H2 => ∃ τ M, SAbs K τ σ H2 ∧ HAbs K M H2 ∧ Ext K H H2 ∧ W τ M, bk := E.nx } :=
  ⟨fun τ M σ H2 s2 m2 e2 q => ⟨τ, M, s2, m2, e.trans e2, q⟩, hd.rt.ext e, fun τ M σ H2 s2 m2 e2 q => hd.nx τ M σ H2 s2 m2 (e.trans e2) q, fun τ M σ H2 s2 m2 e2 q => ⟨τ, M, s2, m2, e.trans e2, q⟩⟩
theorem low_turn {K : PySem.W.Frag} {H H1 : Hp} {D' : EndsD} {E : Ends} {g : TGd} {tb : TSd} {d : D} {v : V} {τ : DSt} {σ : St} {M : DH} {W : DSt → DH → Prop} (hd : LowD K H D' E) (e1 : Ext K H H1) (i : Is K H1 v d) (s1 : SAbs K τ σ H1) (m1 : HAbs K M H1)
    (h : g d τ M fun τ2 M2 => tb { D' with nx := W, ct := W, bk := D'.nx } τ2 M2) :
    lowG K g v σ H1 fun σ2 H2 => lowS K tb { E with nx := fun σ H2 => ∃ τ M, SAbs K τ σ H2 ∧ HAbs K M H2 ∧ Ext K H H2 ∧ W τ M, ct := fun σ H2 => ∃ τ M, SAbs K τ σ H2 ∧ HAbs K M H2 ∧ Ext K H H2 ∧ W τ M, bk := E.nx } σ2 H2 :=
  ⟨d, τ, M, _, i, s1, m1, h, fun τ2 M2 σ2 H2 s2 m2 e2 q2 => ⟨τ2, M2, _, s2, m2, q2, lowEnds hd (e1.trans e2)⟩⟩
/-- a loop over anything that gives the data -/
theorem for_gives {K : PySem.W.Frag} {J : It} {ds : List D} {st : DH → Prop} {g : TGd} {tb : TSd} {D' : EndsD} {E : Ends} {τ : DSt} {σ : St} {M : DH} {H H1 : Hp} (hd : LowD K H D' E) (e1 : Ext K H H1) (s1 : SAbs K τ σ H1) (m1 : HAbs K M H1)
    (hg : ∀ M2 H2, HAbs K M2 H2 → Ext K H1 H2 → st M2 → Gives K J ds H2) (h : walkD ds st g tb D' τ M) :
    ∃ W : Nat → Nat → St → Hp → Prop, (∃ m, W 0 m σ H1) ∧ ∀ i m σ H, W i m σ H →
      (J.stop i H ∧ E.nx σ H) ∨ (J.go i H ∧ ∃ N : St → Hp → Prop, (∀ σ' H', N σ' H' → ∃ m', m' < m ∧ W (i + 1) m' σ' H') ∧ ∀ x H', J.yld i H x H' → lowG K g x σ H' fun σ2 H2 => lowS K tb { E with nx := N, ct := N, bk := E.nx } σ2 H2) := by
  obtain ⟨W, w0, stay, turn, done⟩ := h
  refine ⟨fun i m σ2 H2 => m = ds.length - i ∧ i ≤ ds.length ∧ ∃ τ2 M2, SAbs K τ2 σ2 H2 ∧ HAbs K M2 H2 ∧ Ext K H1 H2 ∧ W i τ2 M2, ⟨ds.length, by simp, Nat.zero_le _, τ, M, s1, m1, Ext.refl H1, w0⟩, ?_⟩
  rintro i m σ2 H2 ⟨rfl, hi, τ2, M2, s2, m2, e2, w2⟩
  have G := hg M2 H2 m2 e2 (stay i τ2 M2 hi w2)
  by_cases hlt : i < ds.length
  · refine .inr ⟨G.go i hlt, fun σ3 H3 => ∃ τ3 M3, SAbs K τ3 σ3 H3 ∧ HAbs K M3 H3 ∧ Ext K H1 H3 ∧ W (i + 1) τ3 M3, fun σ3 H3 p => ⟨ds.length - (i + 1), by omega, rfl, hlt, p⟩, fun x H' y => ?_⟩
    obtain ⟨rfl, d, ed, id⟩ := G.yld i x H' hlt y
    exact low_turn (hd.ext e1) e2 id s2 m2 (turn i d τ2 M2 ed w2)
  · have e : i = ds.length := by omega
    subst e
    exact .inl ⟨G.stop, hd.nx τ2 M2 σ2 H2 s2 m2 (e1.trans e2) (done τ2 M2 w2)⟩
theorem s_for {iter : Expr} {body : List Stmt} (hp : PassesOwn (model X.prog X.w) X.A X.env X.xe) (hc : X.calm = true) (hi : PE X iter (low X.K te)) (hg : PG X tg (lowG X.K g)) (hb : PSs X body (lowS X.K tb))
    (hs : ∀ x, foldedSetIterable iter X.env x = pure x := by intro _; rfl) : PS X (.For tg iter body [] pos) (lowS X.K (sFor te g tb)) :=
  (ps_for hp hc (pi_any hi) hg hb hs).imp fun D σ H ⟨τ, M, D', hs, hm, h, hd⟩ => ⟨τ, M, _, hs, hm, h, fun x M1 v H1 m1 e1 i1 h1 => by
    cases i1 with
    | @tup a xs ds hx hxs => exact .inl ⟨a, rfl, .inr ⟨⟨xs, hx⟩, for_gives hd e1 (hs.mono e1) m1 (fun M2 H2 m2 e2 _ => gives_tup (e2.t _ _ hx) (hxs.mono e2)) h1⟩⟩
    | @rol a xs ds hx hxs => exact .inl ⟨a, rfl, .inl ⟨⟨xs, hx.sq⟩, for_gives hd e1 (hs.mono e1) m1 (fun M2 H2 m2 e2 _ => gives_list (e2.f _ _ hx).sq (hxs.mono e2)) h1⟩⟩
    | str z => exact .inr ⟨z, rfl, for_gives hd e1 (hs.mono e1) m1 (fun M2 H2 m2 e2 _ => gives_str z) h1⟩
    | ref l =>
      obtain ⟨ds, hl, w⟩ := h1
      obtain ⟨xs, hx, hxs⟩ := m1 l _ hl
      exact .inl ⟨l, rfl, .inl ⟨⟨xs, SqL.of hx⟩, for_gives hd e1 (hs.mono e1) m1 (fun M2 H2 m2 e2 hl2 => let ⟨ys, hy, iy⟩ := m2.lst hl2; gives_list hy iy) w⟩⟩
    | _ => exact h1.elim⟩

/-! ### for over a range -/
def walkR (f : Nat → Int) (n : Nat) (g : TGd) (tb : TSd) (E : EndsD) (τ : DSt) (M : DH) : Prop := ∃ W : Nat → DSt → DH → Prop, W 0 τ M ∧
  (∀ i τ M, i < n → W i τ M → g (.int (f i)) τ M fun τ2 M2 => tb { E with nx := W (i + 1), ct := W (i + 1), bk := E.nx } τ2 M2) ∧ ∀ τ M, W n τ M → E.nx τ M
def for1D (g : TGd) (tb : TSd) (E : EndsD) (τ : DSt) : List D → DH → Prop
  | [.int j], M => (-(2 ^ 62) ≤ j ∧ j < 2 ^ 62) ∧ walkR (fun i => (i : Int)) j.toNat g tb E τ M
  | _, _ => False
def for2D (g : TGd) (tb : TSd) (E : EndsD) (τ : DSt) : List D → DH → Prop
  | [.int lo, .int j], M => (-(2 ^ 62) ≤ lo ∧ lo < 2 ^ 62 ∧ -(2 ^ 62) ≤ j ∧ j < 2 ^ 62) ∧ walkR (fun i => lo + (i : Int)) (j - lo).toNat g tb E τ M
  | _, _ => False
def sFor1 (ta : TAd) (g : TGd) (tb : TSd) : TSd := fun E τ M => ta τ M fun vs M1 => for1D g tb E τ vs M1
def sFor2 (ta : TAd) (g : TGd) (tb : TSd) : TSd := fun E τ M => ta τ M fun vs M1 => for2D g tb E τ vs M1
theorem for_rangeD {K : PySem.W.Frag} {lo : Int} {n : Nat} {g : TGd} {tb : TSd} {D' : EndsD} {E : Ends} {τ : DSt} {σ : St} {M : DH} {H H1 : Hp} (hd : LowD K H D' E) (e1 : Ext K H H1) (s1 : SAbs K τ σ H1) (m1 : HAbs K M H1) (h : walkR (fun i => lo + (i : Int)) n g tb D' τ M) :
    ∃ W : Nat → Nat → St → Hp → Prop, (∃ m, W 0 m σ H1) ∧ ∀ i m σ H, W i m σ H →
      ((Itr lo n).stop i H ∧ E.nx σ H) ∨ ((Itr lo n).go i H ∧ ∃ N : St → Hp → Prop, (∀ σ' H', N σ' H' → ∃ m', m' < m ∧ W (i + 1) m' σ' H') ∧ ∀ x H', (Itr lo n).yld i H x H' → lowG K g x σ H' fun σ2 H2 => lowS K tb { E with nx := N, ct := N, bk := E.nx } σ2 H2) := by
  obtain ⟨W, w0, turn, done⟩ := h
  refine for_range (fun i σ2 H2 => ∃ τ2 M2, SAbs K τ2 σ2 H2 ∧ HAbs K M2 H2 ∧ Ext K H1 H2 ∧ W i τ2 M2) ⟨τ, M, s1, m1, Ext.refl H1, w0⟩ ?_ ?_
  · rintro i σ2 H2 hi ⟨τ2, M2, s2, m2, e2, w2⟩
    exact low_turn (hd.ext e1) e2 (.int _) s2 m2 (turn i τ2 M2 hi w2)
  · rintro σ2 H2 ⟨τ2, M2, s2, m2, e2, w2⟩
    exact hd.nx τ2 M2 σ2 H2 s2 m2 (e1.trans e2) (done τ2 M2 w2)
theorem s_for1 {a : Expr} {ta : TAd} {body : List Stmt} {p cpos : Pos} (hp : PassesOwn (model X.prog X.w) X.A X.env X.xe) (hc : X.calm = true) (hm : X.mg "range" = none) (ha : PA X [a] (lowA X.K ta)) (hg : PG X tg (lowG X.K g)) (hb : PSs X body (lowS X.K tb)) (hgl : Gl X "range" := by rfl)
    (hst : starEach [a] X.env = [(false, eval a X.env)] := by rfl) (hs : ∀ x, foldedSetIterable (.Call (.Name "range" p) [a] [] cpos) X.env x = pure x := by intro _; rfl) : PS X (.For tg (.Call (.Name "range" p) [a] [] cpos) body [] pos) (lowS X.K (sFor1 ta g tb)) :=
  (ps_for hp hc (pi_range1 hgl hm ha hst) hg hb hs).imp fun D σ H ⟨τ, M, D', hs, hm, h, hd⟩ => ⟨τ, M, _, hs, hm, h, fun ds M1 vs H1 m1 e1 i1 h1 => by
    match ds, h1, i1 with
    | [.int j], h1, i1 =>
      obtain ⟨v, rfl, i⟩ := iss1 i1
      cases i
      obtain ⟨⟨q1, q2⟩, w⟩ := h1
      have w' : walkR (fun i => 0 + (i : Int)) j.toNat g tb D' τ M1 := by
        have e : (fun i : Nat => 0 + (i : Int)) = fun i : Nat => (i : Int) := by funext i; omega
        rw [e]; exact w
      exact ⟨j, rfl, q1, q2, for_rangeD hd e1 (hs.mono e1) m1 w'⟩⟩
theorem s_for2 {a b : Expr} {ta : TAd} {body : List Stmt} {p cpos : Pos} (hp : PassesOwn (model X.prog X.w) X.A X.env X.xe) (hc : X.calm = true) (hm : X.mg "range" = none) (ha : PA X [a, b] (lowA X.K ta)) (hg : PG X tg (lowG X.K g)) (hb : PSs X body (lowS X.K tb)) (hgl : Gl X "range" := by rfl)
    (hst : starEach [a, b] X.env = [(false, eval a X.env), (false, eval b X.env)] := by rfl) (hst2 : starEach [b] X.env = [(false, eval b X.env)] := by rfl) (hs : ∀ x, foldedSetIterable (.Call (.Name "range" p) [a, b] [] cpos) X.env x = pure x := by intro _; rfl) : PS X (.For tg (.Call (.Name "range" p) [a, b] [] cpos) body [] pos) (lowS X.K (sFor2 ta g tb)) :=
  (ps_for hp hc (pi_range2 hgl hm ha hst hst2) hg hb hs).imp fun D σ H ⟨τ, M, D', hs, hm, h, hd⟩ => ⟨τ, M, _, hs, hm, h, fun ds M1 vs H1 m1 e1 i1 h1 => by
    match ds, h1, i1 with
    | [.int lo, .int j], h1, i1 =>
      obtain ⟨v, v', rfl, i, i'⟩ := iss2 i1
      cases i
      cases i'
      obtain ⟨q, w⟩ := h1
      exact ⟨lo, j, rfl, q, for_rangeD hd e1 (hs.mono e1) m1 w⟩⟩

/-! ### defs -/
abbrev SpD := List D → DH → KD → Prop
def lowSp (K : PySem.W.Frag) (sp : SpD) : Sp := fun vs H Q _ => ∃ ds M Q', Iss K H vs ds ∧ HAbs K M H ∧ sp ds M Q' ∧ lowQ K H Q' Q
/-- a def of the text keeps its promise -/
structure FnD (P : Program) (w : World) (K : PySem.W.Frag) (mg : Str → Option Value) (base : Heap) (k : Nat) (x : Str) (ps : List Str) (sp : SpD) : Prop where
  ex : ∃ f fd, FnOk P w K mg base CX0 k f fd ps (lowSp K sp) ∧ mg x = some (.ref f) ∧ PySem.W.keepIn K (.ref f) = true ∧ Binds K fd ps []
theorem FnD.mono {P : Program} {w : World} {K : PySem.W.Frag} {mg : Str → Option Value} {base : Heap} {j k : Nat} {x : Str} {ps : List Str} {sp : SpD} (F : FnD P w K mg base j x ps sp) (h : j ≤ k) : FnD P w K mg base k x ps sp :=
  let ⟨f, fd, a, b, c, d⟩ := F.ex; ⟨f, fd, a.mono h, b, c, d⟩
theorem FnD.imp {P : Program} {w : World} {K : PySem.W.Frag} {mg : Str → Option Value} {base : Heap} {k : Nat} {x : Str} {ps : List Str} {sp sp' : SpD} (F : FnD P w K mg base k x ps sp) (h : ∀ ds M Q, sp' ds M Q → sp ds M Q) : FnD P w K mg base k x ps sp' :=
  let ⟨f, fd, a, b, c, d⟩ := F.ex; ⟨f, fd, a.imp (fun _ _ _ _ ⟨ds, M, Q', i, m, q, hq⟩ => ⟨ds, M, Q', i, m, h _ _ _ q, hq⟩), b, c, d⟩
def eCall (sp : SpD) (t : TAd) : TEd := fun τ M Q => t τ M fun ds M1 => sp ds M1 Q
theorem d_call {k : Nat} {x : Str} {ps : List Str} {sp : SpD} {p : Pos} {es : List Expr} {t : TAd} (F : FnD X.prog X.w X.K X.mg X.base k x ps sp) (hr : Room k X.A) (ha : PA X (e :: es) (lowA X.K t)) (hg : Gl X x := by rfl) (hdb : (x == ("__debug__" : Str)) = false := by decide)
    (he : starEach (e :: es) X.env = (false, eval e X.env) :: starEach es X.env := by rfl) (hpl : (backTo pos (starEach es X.env)).any (·.1) = false := by rfl) : PE X (.Call (.Name x p) (e :: es) [] pos) (low X.K (eCall sp t)) := by
  obtain ⟨f, fd, F, hm, hk, hb⟩ := F.ex
  refine (pe_call (E := E0) F hr hg hm hk hb .nil pass0 ha hdb he hpl).imp fun σ H Q ⟨τ, M, Q', hs, hm, h, hq⟩ => ?_
  refine ⟨τ, M, _, hs, hm, h, fun ds M1 vs H1 m1 e1 i1 h1 => ?_⟩
  show lowSp X.K sp (vs ++ []) H1 Q E0
  rw [List.append_nil]
  exact ⟨ds, M1, Q', i1, m1, h1, hq.ext e1⟩
def startD (N : List Str) (ds : List D) : DSt := ds.map some ++ List.replicate (N.length - ds.length) none
theorem start_abs {K : PySem.W.Frag} {H : Hp} {N : List Str} {vs : List V} {ds : List D} (h : Iss K H vs ds) : SAbs K (startD N ds) (L2.start N vs) H := by
  have hl := h.length
  refine ⟨by unfold startD L2.start; simp [hl], fun i d e => ?_⟩
  unfold startD at e
  by_cases hi : i < ds.length
  · rw [List.getElem?_append_left (by simpa using hi), List.getElem?_map] at e
    cases q : ds[i]? with
    | none => rw [q] at e; cases e
    | some d' =>
      rw [q] at e
      cases e
      obtain ⟨v, ev, iv⟩ := h.get q
      refine ⟨v, ?_, iv⟩
      unfold L2.start
      rw [List.getElem?_append_left (by simpa [hl] using hi), List.getElem?_map, ev]
      rfl
  · rw [List.getElem?_append_right (by simpa using hi), List.getElem?_replicate] at e
    split at e <;> cases e
/-- what a def's body must reach -/
def endsOf (Q : KD) : EndsD := { nx := fun _ M' => ∃ M0, Sub M0 M' ∧ Q .non M0, rt := fun d M' => ∃ M0, Sub M0 M' ∧ Q d M0 }
section
variable {P : Program} {w : World} {K : PySem.W.Frag} {mg : Str → Option Value} {base : Heap}
theorem def_fn {x qual : Str} {st : Stmt} {f : Addr} {fd : FuncData} {N ps : List Str} {k : Nat} {sp : SpD} (F : Fun K x qual st f fd) (S : FnScope N ps (defScope st)) (len : ∀ ds M Q, sp ds M Q → ds.length = ps.length)
    (hbody : ∀ (cdv : Value) (A : Around) (outer : List Env) (s : Shared) (H : Hp) (E : XK), Room k (A.deeper (envOfC qual (defScope st) s.heap.objs.size f cdv)) →
      ∃ t : TSd, PSs (cxOf CX0 P w K mg base N qual (defScope st) f cdv A outer s H E).nox (defBody st) (lowS K t) ∧ ∀ ds M Q, sp ds M Q → t (endsOf Q) (startD N ds) M) : FnOk P w K mg base CX0 (k + 1) f fd ps (lowSp K sp) := by
  refine F.ok S (fun vs H Q E h => ?_) (fun cdv A outer s H vs Q E hr h => ?_)
  · obtain ⟨ds, M, Q', i, _, q, _⟩ := h
    rw [i.length]
    exact len _ _ _ q
  · obtain ⟨t, h1, h2⟩ := hbody cdv A outer s H E hr
    obtain ⟨ds, M, Q', i, hm, q, hq⟩ := h
    refine ⟨_, h1, startD N ds, M, endsOf Q', start_abs i, hm, h2 _ _ _ q, ⟨?_, ?_, ?_, ?_⟩⟩
    · rintro τ M1 σ H1 s1 m1 e1 ⟨M0, sub, q0⟩
      exact hq _ M0 _ H1 (m1.sub sub) e1 .non q0
    · rintro d M1 v H1 m1 e1 i1 ⟨M0, sub, q0⟩
      exact hq d M0 v H1 (m1.sub sub) e1 i1 q0
    · intro τ M1 σ H1 _ _ _ q0; exact q0.elim
    · intro τ M1 σ H1 _ _ _ q0; exact q0.elim
/-- a def of the text as it stands: its object, how it binds, its name -/
def Stands (K : PySem.W.Frag) (mg : Str → Option Value) (x : Str) (st : Stmt) (ps : List Str) : Prop := ∃ f fd, Fun K x x st f fd ∧ Binds K fd ps [] ∧ mg x = some (.ref f)
theorem def_ok {x : Str} {st : Stmt} {N ps : List Str} {k : Nat} {sp : SpD} (T : Stands K mg x st ps) (S : FnScope N ps (defScope st)) (len : ∀ ds M Q, sp ds M Q → ds.length = ps.length)
    (hbody : ∀ (f : Addr) (cdv : Value) (A : Around) (outer : List Env) (s : Shared) (H : Hp) (E : XK), Room k (A.deeper (envOfC x (defScope st) s.heap.objs.size f cdv)) →
      ∃ t : TSd, PSs (cxOf CX0 P w K mg base N x (defScope st) f cdv A outer s H E).nox (defBody st) (lowS K t) ∧ ∀ ds M Q, sp ds M Q → t (endsOf Q) (startD N ds) M) : FnD P w K mg base (k + 1) x ps sp := by
  obtain ⟨f, fd, F, hb, hm⟩ := T
  exact ⟨f, fd, def_fn F S len (hbody f), hm, F.kp, hb⟩
/-- the law itself -/
def spLaw : SpD := fun ds M Q => ∃ ns : List Int, ds = [.rol (ns.map .int)] ∧ ns.length ≤ 63 ∧ Q (.bl true) M
theorem law_low {K : PySem.W.Frag} {H : Hp} {a : Addr} {ns : List Int} (hO : Only H) (hl : ns.length ≤ 63) (hS : SqL K H a (ns.map V.int)) : lowSp K spLaw [.ref a] H (fun v _ => v = .bl true) fun _ _ _ => False := by
  have hF : SqF K H a (ns.map V.int) := by
    rcases hS with (h | ⟨o, h⟩) | h
    · rcases hO a with z | ⟨o, xs, z⟩ <;> rw [z] at h <;> cases h
    · exact .inl ⟨o, h⟩
    · exact .inr h
  have hI : ∀ ns : List Int, Iss K H (ns.map V.int) (ns.map D.int) := fun ns => by
    induction ns with
    | nil => exact .nil
    | cons n ns ih => exact .cons (.int n) ih
  refine ⟨[.rol (ns.map .int)], fun _ => none, fun d _ => d = .bl true, .cons (.rol hF (hI ns)) .nil, fun a o e => (nomatch e), ⟨ns, rfl, hl, rfl⟩, fun d M1 v H1 _ _ i q => ?_⟩
  have q' : d = .bl true := q
  subst q'
  cases i
  rfl
end
end
end DL

/-! Comprehensions. -/
namespace DL
open PySem PySem.Spec PyProof.Rows L2

def pick {α : Type} (js : List (Option Nat)) (τ : List (Option α)) : List (Option α) := js.map fun o => match o with
  | none => none
  | some j => match τ[j]? with
    | some v => v
    | none => none
/-- the context of a comprehension's block -/
def compCx (X : Cx) (Nc : List Str) (scope : Scope) (cl : List (Str × Addr)) (C : Addr) (s : Shared) (H : Hp) (fp : List Addr) : Cx where
  prog := X.prog
  w := X.w
  K := X.K
  mg := X.mg
  base := X.base
  A := X.A
  N := Nc
  s₀ := s
  H₀ := H
  env := compEnvC scope cl C X.env
  outer := X.stack
  stack := X.stack
  ex := fp
  fn := fun _ => false
  calm := X.calm
  pn := []
  xe := fun _ _ => False
structure CompOk (X : Cx) (Nc : List Str) (js : List (Option Nat)) (scope : Scope) (cl : List (Str × Addr)) : Prop where
  kind : scope.kind = .function
  clos : closureFor scope X.env = pure cl
  nocell : ∀ y ∈ scope.names, y.2 ≠ .cell
  names : ∀ y ∈ scope.names, y.2 = .local → scope.names.lookup y.1 = some .local
  sub : ∀ p ∈ cl, X.env.cells.lookup p.1 = some p.2
  has : ((relabel scope X.env).names.all fun p => (p.2 != .cell && p.2 != .free) || (cl.lookup p.1).isSome) = true
  len : js.length = Nc.length
  fr : ∀ (i j : Nat) (x : Str), js[i]? = some (some j) → Nc[i]? = some x → X.N[j]? = some x ∧ (X.env.kindOf x = some .cell ∨ X.env.kindOf x = some .free) ∧
    ((relabel scope X.env).names.lookup x = some .cell ∨ (relabel scope X.env).names.lookup x = some .free) ∧ X.fs = X.fs
theorem pick_get {α : Type} {js : List (Option Nat)} {τ : List (Option α)} {i : Nat} {v : α} (h : (pick js τ)[i]? = some (some v)) : ∃ j, js[i]? = some (some j) ∧ τ[j]? = some (some v) := by
  unfold pick at h
  rw [List.getElem?_map] at h
  cases q : js[i]? with
  | none => rw [q] at h; cases h
  | some o =>
    rw [q] at h
    cases o with
    | none => cases h
    | some j =>
      refine ⟨j, rfl, ?_⟩
      have h' : (match τ[j]? with
        | some v => v
        | none => none) = some v := Option.some.inj h
      cases e : τ[j]? with
      | none => rw [e] at h'; cases h'
      | some u => rw [e] at h'; exact congrArg some h'
def tComp (wi : TI) (g : TG) (tt : TT) (te : TE) (js : List (Option Nat)) : TE := fun σ H Q => wi σ H fun J H1 => ∀ l, H1 l = none → ∃ W : Nat → Nat → St → Hp → Prop, (∃ m, W 0 m (pick js σ) (upd H1 l (.lst []))) ∧ ∀ i m σ2 H2, W i m σ2 H2 →
  (J.stop i H2 ∧ Q (.ref l) H2) ∨ (J.go i H2 ∧ ∀ x H3, J.yld i H2 x H3 → g x σ2 H3 fun σ4 H4 => tt σ4 H4 fun b H5 => if b = true then te σ4 H5 fun y H6 => ∃ ys, H6 l = some (.lst ys) ∧ ys.length < sizeLine ∧ ∃ m', m' < m ∧ W (i + 1) m' σ4 (upd H6 l (.lst (ys ++ [y])))
    else ∃ m', m' < m ∧ W (i + 1) m' σ4 H5)
/-- the tests of a clause: none or one -/
def PIfs (X : Cx) (ifs : List Expr) (t : TT) : Prop := (ifs = [] ∧ t = fun _ H Q => Q true H) ∨ ∃ c, ifs = [c] ∧ PT X c t
section
variable {X : Cx} {tg elt iter : Expr} {ifs : List Expr} {scope : Scope} {pos : Pos} {wi : TI} {g : TG} {tt : TT} {te : TE} {js : List (Option Nat)} {Nc : List Str} {cl : List (Str × Addr)}
theorem comp_start {pins : List (Addr × Obj)} {σ : St} {H : Hp} {s : Shared} {fp : List Addr} {C : Addr} {s' : Shared} {H' : Hp} (O : CompOk X Nc js scope cl) (I : Inv X pins σ H s) (f : ∀ b ∈ fp, FpOk X pins H b) (hfp : ∀ b ∈ fp, b < C) (hC : s.heap.objs.size ≤ C)
    (os : s'.os = s.os) (bare : AllBare s'.gens) (un : Un (frs X.stack) fp H H' s.heap s'.heap) (hn : s'.heap.Ns C fun _ => none) (hfree : H' C = none) (hok : HOk X.prog X.w H' s'.heap) (old : ∀ b o, s.heap.get? b = some o → s'.heap.get? b = some o) : Inv (compCx X Nc scope cl C s H fp) [] (pick js σ) H' s' := by
  have clk : ∀ x c, cl.lookup x = some c → X.env.cells.lookup x = some c := fun x c e => O.sub (x, c) (PySem.mem_of_lookup e)
  have kin : ∀ x k, (relabel scope X.env).names.lookup x = some k → (k = .cell ∨ k = .free) → ∃ c, cl.lookup x = some c := fun x k e hk => by
    have h1 := List.all_eq_true.mp O.has (x, k) (PySem.mem_of_lookup e)
    rcases hk with rfl | rfl
    · exact Option.isSome_iff_exists.mp (by simpa using h1)
    · exact Option.isSome_iff_exists.mp (by simpa using h1)
  have cfree : ∀ x c, cl.lookup x = some c → ∃ o, s.heap.get? c = some o := fun x c e => by
    obtain ⟨v, o, ho, _⟩ := I.cell x c (clk x c e)
    exact ⟨o, ho⟩
  refine ⟨⟨I.ok.mod, by simp [compCx, compEnvC, relabel, O.kind], I.ok.glob, I.ok.blt, hC, fun x y c h1 h2 => I.ok.inj x y c (clk x c h1) (clk y c h2), fun x hx => ?_, fun x c h => (nomatch h), I.ok.hd, I.ok.frames, .inl rfl, fun b hb => ⟨Nat.ne_of_lt (hfp b hb), fun x c e => (f b hb).2.2.2.2.1 x c (clk x c e)⟩,
      I.bs, Nat.le_trans I.ok.bsz I.sz, fun b o e hb => ?_, fun b hb z => ?_, I.stack, I.stkFree⟩, os, bare, un, ⟨_, hn, fun i x v e1 e2 e3 => ?_⟩, fun x c e => ?_, hfree, fun x c e => ?_, fun p hp => absurd (show p ∈ ([] : List (Addr × Obj)) from hp) (by simp), hok, ?_⟩
  · rcases hx with hx | hx
    · exact kin x _ hx (.inl rfl)
    · exact kin x _ hx (.inr rfl)
  · rcases (f b hb).2.2.2.1 with z | z
    · exact I.ok.noex b o e z
    · exact absurd (Nat.lt_of_lt_of_le (Heap.lt_size e) (Nat.le_trans I.ok.bsz z)) (Nat.lt_irrefl _)
  · rcases List.mem_cons.mp (I.stkSub b z) with z | z
    · exact (f b hb).2.1 z
    · exact (f b hb).2.2.1 z
  · obtain ⟨j, ej, ev⟩ := pick_get e2
    obtain ⟨hN, hk, hk', _⟩ := O.fr i j x ej e1
    obtain ⟨m, _, hl⟩ := I.loc
    have vis : Vis X.env.scope x := by rcases hk with k | k; exact .inr (.inl k); exact .inr (.inr k)
    obtain ⟨u, r, lk⟩ := hl j x v hN ev vis
    refine ⟨u, r, .inr ⟨hk', ?_⟩⟩
    obtain ⟨c, ec⟩ : ∃ c, cl.lookup x = some c := by
      rcases hk' with k | k
      · exact kin x _ k (.inl rfl)
      · exact kin x _ k (.inr rfl)
    refine ⟨c, ec, ?_⟩
    rcases lk with ⟨kl, _⟩ | ⟨_, c', ec', hc⟩
    · rcases hk with k | k <;> (rw [k] at kl; cases kl)
    · rw [clk x c ec] at ec'
      cases ec'
      obtain ⟨o, ho, hd⟩ := hc
      exact ⟨o, old _ o ho, hd⟩
  · obtain ⟨v, o, ho, hd⟩ := I.cell x c (clk x c e)
    exact ⟨v, o, old _ o ho, hd⟩
  · obtain ⟨v, o, ho, hd⟩ := I.cell x c (clk x c e)
    exact un.free c o ho (I.freeC x c (clk x c e)) fun z => (f c z).2.2.2.2.1 x c (clk x c e) rfl
  · unfold pick
    rw [List.length_map]
    exact O.len
theorem pe_comp (O : CompOk X Nc js scope cl) (hc : X.calm = true) (hi : PI X tg iter wi) (hg : ∀ C s H fp, PG (compCx X Nc scope cl C s H fp) tg g) (hif : ∀ C s H fp, PIfs (compCx X Nc scope cl C s H fp) ifs tt) (he : ∀ C s H fp, PE (compCx X Nc scope cl C s H fp) elt te)
    (hs : ∀ x, foldedSetIterable iter X.env x = pure x := by intro _; rfl) : PE X (.ListComp elt [⟨tg, iter, ifs, 0⟩] scope pos) (tComp wi g tt te js) := by
  intro pins s σ H Q I h
  rw [eval_ListComp]
  refine wpAny_comprehension_free (use := none) rfl hs O.clos O.kind O.names (thn (hi pins s σ H _ I h) fun v s1 h1 => thn h1 fun itv s2 h2 => ?_)
  obtain ⟨it, fp, tn, J, H2, e, I2, T, st2, f2, q⟩ := h2
  subst e
  have hl : H2 s2.heap.objs.size = none := I2.hok.fresh (Nat.le_refl _)
  obtain ⟨W, ⟨m0, w0⟩, turn⟩ := q _ hl
  refine wpAny_newObj_type (wpAny_newFunctionEnv O.nocell (by intro y hy; simp at hy) (fun h₁ hns₁ hsb₁ => ?_) O.kind)
  dsimp only at hns₁ hsb₁ ⊢
  generalize hH2 : s2.heap.push { cls := .type "list", dict := none, data := .seq ([] : List Value).toArray } = G2 at hns₁ hsb₁ ⊢
  have hC : G2.objs.size = s2.heap.objs.size + 1 := by rw [← hH2, Heap.size_push]
  have below : ∀ b, b < s2.heap.objs.size → b ≠ G2.objs.size ∧ b ≠ s2.heap.objs.size := fun b hb => ⟨by rw [hC]; exact Nat.ne_of_lt (Nat.lt_succ_of_lt hb), Nat.ne_of_lt hb⟩
  have old : ∀ b o, s2.heap.get? b = some o → h₁.get? b = some o := fun b o e => hsb₁.extBut b o (below b (Heap.lt_size e)).1 (Heap.get?_push_of_some _ (hH2 ▸ Heap.get?_push_of_some _ e))
  have hDC : s2.heap.objs.size ≠ G2.objs.size := by rw [hC]; exact Nat.ne_of_lt (Nat.lt_succ_self _)
  have hacc : h₁.get? s2.heap.objs.size = some { cls := .type "list", dict := none, data := .seq ([] : List Value).toArray } := hsb₁.extBut _ _ hDC (Heap.get?_push_of_some _ (hH2 ▸ Heap.get?_push_size _ rfl))
  have hfp : ∀ b ∈ fp, b < s2.heap.objs.size := fun b hb => let ⟨o, e, _⟩ := T.obj _ _ st2 b hb; Heap.lt_size e
  have hCn : upd H2 s2.heap.objs.size (.lst []) G2.objs.size = none := by
    rw [upd_ne (Ne.symm hDC)]
    exact I2.hok.fresh (by rw [hC]; exact Nat.le_succ _)
  have I3 : Inv (compCx X Nc scope cl G2.objs.size s2 H2 fp) [] (pick js σ) (upd H2 s2.heap.objs.size (.lst [])) { s2 with heap := h₁, toks := s2.toks + ([] : List (Str × Value)).length } :=
    comp_start O I2 f2 (fun b hb => by rw [hC]; exact Nat.lt_succ_of_lt (hfp b hb)) (by rw [hC]; exact Nat.le_succ _) rfl I2.bare (Un.laid old (Nat.le_refl _) hl) hns₁ hCn (I2.hok.laid old (Nat.le_refl _) ⟨by simp, [], 0, .nil, hacc⟩) old
  have st3 : tn 0 h₁ := T.keep _ _ _ st2 fun b hb o e => old b o e
  have nofp : ∀ b ∈ fp, upd H2 s2.heap.objs.size (.lst []) b = none := fun b hb => by rw [upd_ne (Nat.ne_of_lt (hfp b hb))]; exact (f2 b hb).1
  have stat : ∀ {H' : Hp}, (∀ b ∈ fp, H' b = none) → ∀ b ∈ fp, FpOk (compCx X Nc scope cl G2.objs.size s2 H2 fp) [] H' b := fun hn b hb =>
    ⟨hn b hb, Nat.ne_of_lt (by rw [hC]; exact Nat.lt_succ_of_lt (hfp b hb)), fun z => by
      rcases List.mem_cons.mp (I2.stkSub b z) with z | z
      · exact (f2 b hb).2.1 z
      · exact (f2 b hb).2.2.1 z, .inl hb, fun x c ec => (f2 b hb).2.2.2.2.1 x c (O.sub (x, c) (PySem.mem_of_lookup ec)), fun p hp => absurd (show p ∈ ([] : List (Addr × Obj)) from hp) (by simp)⟩
  have loop : ∀ s₃ : Shared, s₃ = { s2 with heap := h₁, toks := s2.toks + ([] : List (Str × Value)).length } →
      codeAny (model X.prog X.w) X.A (.compLoop (.ListComp elt [⟨tg, iter, ifs, 0⟩] scope pos) 0 (.ref it) (.ref s2.heap.objs.size) (compEnvC scope cl G2.objs.size X.env)) (compPost (model X.prog X.w) X.A X.xe none (EP X pins σ Q) (.ref s2.heap.objs.size) G2.objs.size) s₃ := by
    rintro s₃ rfl
    refine codeAny_loop rfl (fun n s' => ∃ i σ' H', Inv (compCx X Nc scope cl G2.objs.size s2 H2 fp) [] σ' H' s' ∧ tn i s'.heap ∧ (∀ b ∈ fp, H' b = none) ∧ W i n σ' H') ?_ m0 ⟨0, _, _, I3, st3, nofp, w0⟩
    rintro n s4 ⟨i, σ4, H4, I4, st4, fr4, w4⟩
    show wpAny _ X.A ((compTurn (.ListComp elt [⟨tg, iter, ifs, 0⟩] scope pos) 0 (.ref it) (.ref s2.heap.objs.size) (compEnvC scope cl G2.objs.size X.env)).onRaise (fun x => do noteFrame x (compEnvC scope cl G2.objs.size X.env); theTreesLotGoes x)) _ _ s4
    refine wpAny_noted ?_
    rw [compTurn_list]
    refine wpAny_bind (wpAny_standAt (wpAny_bind ?_))
    rcases turn i n σ4 H4 w4 with ⟨stop, qn⟩ | ⟨go, step⟩
    · refine thn (T.done (compCx X Nc scope cl G2.objs.size s2 H2 fp) rfl rfl rfl hc i [] s4 σ4 H4 _ I4 (stat fr4) st4 stop) fun r s5 ⟨hr, I5⟩ => ?_
      subst hr
      refine wpAny_pure ?_
      obtain ⟨m, hn, _⟩ := I5.loc
      refine ⟨m, hn, fun h' hs' => ?_⟩
      have J5 : Inv X pins σ H4 s5 := I2.call' I5.os I5.base I5.hok I5.bare fun b hb => ⟨(f2 b hb).2.2.2.1, (f2 b hb).2.1, (f2 b hb).2.2.2.2.1, (f2 b hb).2.2.2.2.2⟩
      refine ⟨.ref s2.heap.objs.size, H4, J5.turned (t' := s5.toks) (it := G2.objs.size) (fun b o hb e => hs'.extBut b o hb e) I5.free (Ne.symm (Nat.ne_of_lt (Nat.lt_of_lt_of_le I2.lt (by rw [hC]; exact Nat.le_succ _)))) (.inr (Nat.le_trans I2.sz (by rw [hC]; exact Nat.le_succ _))) (fun x c ec z => ?_) (fun p hp z => ?_), rfl, qn⟩
      · obtain ⟨v, o, ho, _⟩ := I2.cell x c ec
        have h9 := Heap.lt_size ho
        rw [z, hC] at h9
        exact absurd h9 (Nat.not_lt.mpr (Nat.le_succ _))
      · have h9 := Heap.lt_size (I2.pin p hp).1
        rw [z, hC] at h9
        exact absurd h9 (Nat.not_lt.mpr (Nat.le_succ _))
    · refine thn (T.item (compCx X Nc scope cl G2.objs.size s2 H2 fp) rfl rfl rfl hc i [] s4 σ4 H4 _ I4 (stat fr4) st4 go) fun r s5 ⟨u, hr, h5⟩ => ?_
      subst hr
      refine wpAny_bind (thn h5 fun _ s6 ⟨x, H6, I6, r6, y6, st6, fr6⟩ => ?_)
      have I6' := I6.pinned (stat fr6) (T.obj _ _ st6)
      have again' : ∀ {s9 : Shared} {σ9 : St} {H9 : Hp}, Inv (compCx X Nc scope cl G2.objs.size s2 H2 fp) ([] ++ pinsAt fp s6.heap) σ9 H9 s9 → (∃ m', m' < n ∧ W (i + 1) m' σ9 H9) →
          ∃ m, m < n ∧ ∃ i σ' H', Inv (compCx X Nc scope cl G2.objs.size s2 H2 fp) [] σ' H' s9 ∧ tn i s9.heap ∧ (∀ b ∈ fp, H' b = none) ∧ W i m σ' H' := fun {s9 σ9 H9} I9 ⟨m', hm, w9⟩ => by
        refine ⟨m', hm, i + 1, σ9, H9, I9.unpinned, T.keep _ _ _ st6 fun b hb o e => (I9.pin (b, o) (List.mem_append_right _ (List.mem_append_right _ (mem_pinsAt hb e)))).1, fun b hb => ?_, w9⟩
        obtain ⟨o, e, d⟩ := T.obj _ _ st6 b hb
        exact (I9.pin (b, o) (List.mem_append_right _ (List.mem_append_right _ (mem_pinsAt hb e)))).2.1
      refine wpAny_bind (wpAny_mono (hg G2.objs.size s2 H2 fp _ s6 σ4 H6 x u _ I6' r6 (step x H6 y6)) (fun _ s7 ⟨σ7, H7, I7, q7⟩ => ?_) fun _ _ z => z.elim)
      have tests : ∀ {R : Bool → Shared → Prop} {E' : Value → Shared → Prop}, (∀ b s8, (∃ H8, Inv (compCx X Nc scope cl G2.objs.size s2 H2 fp) ([] ++ pinsAt fp s6.heap) σ7 H8 s8 ∧ (if b = true then te σ7 H8 fun y H6 => ∃ ys, H6 s2.heap.objs.size = some (.lst ys) ∧ ys.length < sizeLine ∧ ∃ m', m' < n ∧ W (i + 1) m' σ7 (upd H6 s2.heap.objs.size (.lst (ys ++ [y])))
          else ∃ m', m' < n ∧ W (i + 1) m' σ7 H8)) → R b s8) → wpAny (model X.prog X.w) X.A (forIn ifs true fun c r => if r = true then do let ok ← isTrue c (compEnvC scope cl G2.objs.size X.env) (eval c (compEnvC scope cl G2.objs.size X.env)); pure (ForInStep.yield ok) else pure (ForInStep.yield r)) R E' s7 := by
        intro R E' hR
        rcases hif G2.objs.size s2 H2 fp with ⟨e1, e2⟩ | ⟨c, e1, e2⟩
        · subst e1 e2
          exact wpAny_tests_nil (hR true s7 ⟨H7, I7, q7⟩)
        · subst e1
          exact wpAny_tests_one (wpAny_mono (e2 _ s7 σ7 H7 _ I7 q7) (fun b s8 ⟨H8, I8, q8⟩ => hR b s8 ⟨H8, I8, q8⟩) fun _ _ z => z.elim)
      refine wpAny_bind (tests fun ok s8 ⟨H8, I8, q8⟩ => ?_)
      cases ok with
      | false =>
        rw [if_neg Bool.false_ne_true] at q8
        exact wpAny_pure ⟨rfl, again' I8 q8⟩
      | true =>
        rw [if_pos rfl] at q8
        refine wpAny_bind (wpAny_bind (wpAny_mono (he G2.objs.size s2 H2 fp _ s8 σ7 H8 _ I8 q8) (fun xv s9 ⟨y, H9, I9, r9, ys, hy, hlen, q9⟩ => ?_) fun _ _ z => z.elim))
        refine wpAny_bind (wpAny_mono (mt_append (X := compCx X Nc scope cl G2.objs.size s2 H2 fp) _ s9 σ7 H9 (.ref s2.heap.objs.size) [y] (.ref s2.heap.objs.size) [xv] (fun v H' => ∃ m', m' < n ∧ W (i + 1) m' σ7 H') I9 rfl (.cons r9 .nil) ⟨_, ys, y, rfl, rfl, hy, hlen, q9⟩) (fun _ s10 ⟨v, H10, I10, _, q10⟩ => wpAny_pure (wpAny_pure ⟨rfl, again' I10 q10⟩)) fun _ _ z => z.elim)
  exact codeAny_compStart_list (loop _ rfl) (T.self _ 0 _ _ _ st3 (loop _ rfl))
/-! over data -/
def Fgt (τ0 τ : DSt) : Prop := τ.length = τ0.length ∧ ∀ (i : Nat) d, τ0[i]? = some (some d) → τ[i]? = some (some d)
theorem SAbs.forget {K : PySem.W.Frag} {τ0 τ : DSt} {σ : St} {H : Hp} (h : SAbs K τ σ H) (f : Fgt τ0 τ) : SAbs K τ0 σ H := ⟨f.1.symm.trans h.1, fun i d e => h.2 i d (f.2 i d e)⟩
theorem SAbs.pick {K : PySem.W.Frag} {τ : DSt} {σ : St} {H : Hp} (h : SAbs K τ σ H) (js : List (Option Nat)) : SAbs K (pick js τ) (DL.pick js σ) H := by
  refine ⟨by unfold DL.pick; rw [List.length_map, List.length_map], fun i d e => ?_⟩
  obtain ⟨j, ej, ed⟩ := pick_get e
  obtain ⟨v, ev, iv⟩ := h.2 j d ed
  refine ⟨v, ?_, iv⟩
  unfold DL.pick
  rw [List.getElem?_map, ej]
  simp [ev]
/-- the comprehension over ds: each one's test and value leave all as it was -/
def compD (ds : List D) (g : TGd) (tt : TTd) (te : TEd) (js : List (Option Nat)) (τ : DSt) (M : DH) (Q : KD) : Prop := ds.length ≤ 1000000 ∧ ∃ f : D → Option D,
  (∀ d ∈ ds, ∀ p acc, M p = none → g d (pick js τ) (updM M p (.lst acc)) fun τ2 M2 => Fgt (pick js τ) τ2 ∧ tt τ2 M2 fun b M3 => if b = true then te τ2 M3 fun y M4 => M4 = updM M p (.lst acc) ∧ f d = some y else M3 = updM M p (.lst acc) ∧ f d = none) ∧
  ∀ p, M p = none → Q (.ref p) (updM M p (.lst (ds.filterMap f)))
def compX (g : TGd) (tt : TTd) (te : TEd) (js : List (Option Nat)) (τ : DSt) : D → DH → KD → Prop
  | .tup ds, M, Q => compD ds g tt te js τ M Q
  | .rol ds, M, Q => compD ds g tt te js τ M Q
  | .str z, M, Q => compD (signs z) g tt te js τ M Q
  | .ref l, M, Q => ∃ ds, M l = some (.lst ds) ∧ compD ds g tt te js τ M Q
  | _, _, _ => False
def eComp (ti : TEd) (g : TGd) (tt : TTd) (te : TEd) (js : List (Option Nat)) : TEd := fun τ M Q => ti τ M fun x M1 => compX g tt te js τ x M1 Q
def tTrue : TTd := fun _ M Q => Q true M
def DIfs (X : Cx) (ifs : List Expr) (t : TTd) : Prop := (ifs = [] ∧ t = tTrue) ∨ ∃ c, ifs = [c] ∧ PT X c (lowT X.K t)
theorem low_comp {K : PySem.W.Frag} {J : It} {ds : List D} {g : TGd} {ttd : TTd} {ted : TEd} {ttv : TT} {τ : DSt} {σ : St} {M : DH} {H H1 : Hp} {Q' : KD} {Q : VK} (hs : SAbs K τ σ H1) (e1 : Ext K H H1) (m1 : HAbs K M H1) (hq : lowQ K H Q' Q)
    (htt : ∀ σ H R, lowT K ttd σ H R → ttv σ H R) (hgv : ∀ l M2 H2, HAbs K M2 H2 → Ext K H1 H2 → (∀ a ds, M a = some (.lst ds) → M2 a = some (.lst ds)) → H1 l = none → Gives K J ds H2) (h : compD ds g ttd ted js τ M Q') :
    ∀ l, H1 l = none → ∃ W : Nat → Nat → St → Hp → Prop, (∃ m, W 0 m (pick js σ) (upd H1 l (.lst []))) ∧ ∀ i m σ2 H2, W i m σ2 H2 →
      (J.stop i H2 ∧ Q (.ref l) H2) ∨ (J.go i H2 ∧ ∀ x H3, J.yld i H2 x H3 → lowG K g x σ2 H3 fun σ4 H4 => ttv σ4 H4 fun b H5 => if b = true then low K ted σ4 H5 fun y H6 => ∃ ys, H6 l = some (.lst ys) ∧ ys.length < sizeLine ∧ ∃ m', m' < m ∧ W (i + 1) m' σ4 (upd H6 l (.lst (ys ++ [y])))
        else ∃ m', m' < m ∧ W (i + 1) m' σ4 H5) := by
  obtain ⟨hz, f, turn, done⟩ := h
  intro l hl
  have hMl : M l = none := m1.free hl
  refine ⟨fun i m σ2 H2 => m = ds.length - i ∧ i ≤ ds.length ∧ SAbs K (pick js τ) σ2 H2 ∧ HAbs K (updM M l (.lst ((ds.take i).filterMap f))) H2 ∧ Ext K H1 H2, ⟨ds.length, by simp, Nat.zero_le _, (hs.pick js).mono (ext_new hl), m1.newL hl .nil, ext_new hl⟩, ?_⟩
  rintro i m σ2 H2 ⟨rfl, hi, s2, m2, e2⟩
  have G := hgv l _ H2 m2 e2 (fun a es ea => by rw [updM_ne (by intro z; subst z; rw [hMl] at ea; cases ea)]; exact ea) hl
  by_cases hlt : i < ds.length
  · refine .inr ⟨G.go i hlt, fun x H3 y => ?_⟩
    obtain ⟨rfl, d, ed, id⟩ := G.yld i x H3 hlt y
    have hd : d ∈ ds := List.mem_of_getElem? ed
    have tk : (ds.take (i + 1)).filterMap f = (ds.take i).filterMap f ++ (match f d with | some y => [y] | none => []) := by
      rw [List.take_add_one, ed, List.filterMap_append]
      congr 1
      cases hfd : f d with
      | none => simp [hfd]
      | some y => simp [hfd]
    have hlen : ((ds.take i).filterMap f).length < sizeLine := by
      have h1 := List.length_filterMap_le f (ds.take i)
      have h2 : (ds.take i).length ≤ ds.length := by simp; omega
      have h3 : sizeLine = 16777216 := sizeLine_eq
      omega
    refine ⟨d, _, _, _, id, s2, m2, turn d hd l _ hMl, fun τ4 M4 σ4 H4 s4 m4 e4 ⟨fg, q4⟩ => ?_⟩
    refine htt _ _ _ ⟨τ4, M4, _, s4, m4, q4, fun b M5 H5 m5 e5 q5 => ?_⟩
    cases b with
    | true =>
      rw [if_pos rfl] at q5 ⊢
      refine ⟨τ4, M5, _, s4.mono e5, m5, q5, fun y M6 v H6 m6 e6 i6 q6 => ?_⟩
      obtain ⟨rfl, fy⟩ := q6
      obtain ⟨ys, hy, iy⟩ := m6 l _ updM_same
      refine ⟨ys, hy, by rw [iy.length]; exact hlen, ds.length - (i + 1), by omega, rfl, hlt, ?_⟩
      obtain ⟨m7, e7⟩ := m6.setL updM_same hy (iy.append (.cons i6 .nil))
      refine ⟨((s4.forget fg).mono (e5.trans e6)).mono e7, ?_, e2.trans (e4.trans (e5.trans (e6.trans e7)))⟩
      rw [tk, fy]
      rw [updM_upd] at m7
      exact m7
    | false =>
      rw [if_neg Bool.false_ne_true] at q5 ⊢
      obtain ⟨rfl, fy⟩ := q5
      refine ⟨ds.length - (i + 1), by omega, rfl, hlt, (s4.forget fg).mono e5, ?_, e2.trans (e4.trans e5)⟩
      rw [tk, fy, List.append_nil]
      exact m5
  · have e : i = ds.length := by omega
    subst e
    refine .inl ⟨G.stop, ?_⟩
    have q := done l hMl
    rw [List.take_length] at m2
    exact hq _ _ _ _ m2 (e1.trans e2) (.ref l) q
theorem d_comp {ti ted : TEd} {gd : TGd} {ttd : TTd} (O : CompOk X Nc js scope cl) (hc : X.calm = true) (hi : PE X iter (low X.K ti)) (hg : ∀ C s H fp, PG (compCx X Nc scope cl C s H fp) tg (lowG X.K gd)) (hif : ∀ C s H fp, DIfs (compCx X Nc scope cl C s H fp) ifs ttd) (he : ∀ C s H fp, PE (compCx X Nc scope cl C s H fp) elt (low X.K ted))
    (hs : ∀ x, foldedSetIterable iter X.env x = pure x := by intro _; rfl) : PE X (.ListComp elt [⟨tg, iter, ifs, 0⟩] scope pos) (low X.K (eComp ti gd ttd ted js)) := by
  intro pins s0 σ0 H0 Q0 I0 hw
  obtain ⟨ttv, hif', htt⟩ : ∃ ttv : TT, (∀ C s H fp, PIfs (compCx X Nc scope cl C s H fp) ifs ttv) ∧ ∀ σ H R, lowT X.K ttd σ H R → ttv σ H R := by
    rcases hif 0 s0 H0 [] with ⟨e1, e2⟩ | ⟨c, e1, _⟩
    · subst e1 e2
      exact ⟨_, fun _ _ _ _ => .inl ⟨rfl, rfl⟩, fun σ H R ⟨τ, M, Q', _, hm, h, hq⟩ => hq true M H hm (Ext.refl H) h⟩
    · subst e1
      refine ⟨lowT X.K ttd, fun C s H fp => ?_, fun σ H R h => h⟩
      rcases hif C s H fp with ⟨e1, _⟩ | ⟨c', e1, h⟩
      · cases e1
      · cases e1
        exact .inr ⟨c, rfl, h⟩
  refine ((pe_comp O hc (pi_any hi) hg hif' he hs).imp (t' := low X.K (eComp ti gd ttd ted js)) fun σ H Q ⟨τ, M, Q', hs, hm, h, hq⟩ => ⟨τ, M, _, hs, hm, h, fun x M1 v H1 m1 e1 i1 h1 => ?_⟩) pins s0 σ0 H0 Q0 I0 hw
  cases i1 with
  | @tup a xs ds hx hxs => exact .inl ⟨a, rfl, .inr ⟨⟨xs, hx⟩, low_comp (hs.mono e1) e1 m1 hq htt (fun l M2 H2 m2 e2 _ _ => gives_tup (e2.t _ _ hx) (hxs.mono e2)) h1⟩⟩
  | @rol a xs ds hx hxs => exact .inl ⟨a, rfl, .inl ⟨⟨xs, hx.sq⟩, low_comp (hs.mono e1) e1 m1 hq htt (fun l M2 H2 m2 e2 _ _ => gives_list (e2.f _ _ hx).sq (hxs.mono e2)) h1⟩⟩
  | str z => exact .inr ⟨z, rfl, low_comp (hs.mono e1) e1 m1 hq htt (fun l M2 H2 m2 e2 _ _ => gives_str z) h1⟩
  | ref l0 =>
    obtain ⟨ds, hl, w⟩ := h1
    obtain ⟨xs, hx, hxs⟩ := m1 l0 _ hl
    exact .inl ⟨l0, rfl, .inl ⟨⟨xs, SqL.of hx⟩, low_comp (hs.mono e1) e1 m1 hq htt (fun l M2 H2 m2 e2 hk _ => let ⟨ys, hy, iy⟩ := m2.lst (hk l0 ds hl); gives_list hy iy) w⟩⟩
  | _ => exact h1.elim
end
end DL

/-! Further rules over data. -/
namespace DL
open PySem PySem.Spec PyProof.Rows L2

section
variable {X : Cx} {e a b c tg : Expr} {pos : Pos} {ta tb te : TEd} {tc : TTd}
/-! ### - x, x if c else y, return -/
def eNeg (te : TEd) : TEd := fun τ M Q => te τ M fun x M1 => onInt x fun i => Q (.int (-i)) M1
theorem d_neg (h : PE X a (low X.K ta)) : PE X (.UnaryOp .USub a pos) (low X.K (eNeg ta)) :=
  L2.PE.imp (pe_un un_neg h) fun σ H Q ⟨τ, M, Q', hs, hm, h, hq⟩ => ⟨τ, M, _, hs, hm, h, fun x M1 v H1 m1 e1 i1 h1 => by
    cases i1 with
    | int i => exact ⟨i, rfl, hq _ M1 _ H1 m1 e1 (.int _) h1⟩
    | _ => exact h1.elim⟩
def eIfx (t : TTd) (ta tb : TEd) : TEd := fun τ M Q => t τ M fun k M1 => if k = true then ta τ M1 Q else tb τ M1 Q
theorem d_ifx (hc : PT X c (lowT X.K tc)) (ha : PE X a (low X.K ta)) (hb : PE X b (low X.K tb)) : PE X (.IfExp c a b pos) (low X.K (eIfx tc ta tb)) :=
  L2.PE.imp (pe_ifExp hc ha hb) fun σ H Q ⟨τ, M, Q', hs, hm, h, hq⟩ => ⟨τ, M, _, hs, hm, h, fun k M1 H1 m1 e1 h1 => by
    cases k with
    | true => rw [if_pos rfl] at h1 ⊢; exact ⟨τ, M1, Q', hs.mono e1, m1, h1, hq.ext e1⟩
    | false => rw [if_neg Bool.false_ne_true] at h1 ⊢; exact ⟨τ, M1, Q', hs.mono e1, m1, h1, hq.ext e1⟩⟩
def sRetN : TSd := fun E _ M => E.rt .non M
theorem s_retN : PS X (.Return none pos) (lowS X.K sRetN) := ps_retN.imp fun D σ H ⟨τ, M, D', hs, hm, h, hd⟩ => hd.rt _ M _ H hm (Ext.refl H) .non h
def sBreak : TSd := fun E τ M => E.bk τ M
def sCont : TSd := fun E τ M => E.ct τ M
theorem s_break : PS X (.Break pos) (lowS X.K sBreak) := ps_break.imp fun D σ H ⟨τ, M, D', hs, hm, h, hd⟩ => hd.bk τ M σ H hs hm (Ext.refl H) h
theorem s_continue : PS X (.Continue pos) (lowS X.K sCont) := ps_continue.imp fun D σ H ⟨τ, M, D', hs, hm, h, hd⟩ => hd.ct τ M σ H hs hm (Ext.refl H) h
/-! ### <=, in of texts -/
def leSD : D → D → DH → KD → Prop
  | .int i, .int j, M, Q => Q (.bl (decide (i ≤ j))) M
  | .str i, .str j, M, Q => Q (.bl (!decide (j.cps.toList < i.cps.toList))) M
  | _, _, _, _ => False
theorem od_le : OpD X (compareOp .LtE) leSD := by
  intro pins s σ H vx vy v u Q I rx ry ⟨x, y, M, Q', ix, iy, hm, q, hq⟩
  cases ix with
  | int i => cases iy with
    | int j => exact op_le pins s σ H _ _ v u Q I rx ry ⟨_, _, rfl, rfl, hq.here hm (.bl _) q⟩
    | _ => exact q.elim
  | str i => cases iy with
    | str j =>
      obtain ⟨t, rfl⟩ := rx
      obtain ⟨t', rfl⟩ := ry
      exact PySem.P.le_str ⟨.bl _, H, I, rfl, hq.here hm (.bl _) q⟩
    | _ => exact q.elim
  | _ => cases iy <;> exact q.elim
/-- one sign in a text -/
def inD (neg : Bool) : D → D → DH → KD → Prop
  | .str i, .str j, M, Q => ∃ k, i.cps.toList = [k] ∧ Q (.bl (if neg then !decide (k ∈ j.cps.toList) else decide (k ∈ j.cps.toList))) M
  | _, _, _, _ => False
theorem one_sign {i : Str} {k : Nat} (h : i.cps.toList = [k]) : i = ⟨#[k]⟩ := by
  cases i with
  | mk cps => have : cps = #[k] := by rw [← Array.toArray_toList (xs := cps), h]
              rw [this]
theorem od_in : OpD X (compareOp .In) (inD false) := by
  intro pins s σ H vx vy v u Q I rx ry ⟨x, y, M, Q', ix, iy, hm, q, hq⟩
  cases ix with
  | str i => cases iy with
    | str j =>
      obtain ⟨k, hk, q⟩ := q
      · refine op_in_str pins s σ H _ _ v u Q I rx ry ⟨_, _, rfl, rfl, ?_⟩
        rw [one_sign hk, PySem.StrLaws.found_one]
        exact hq.here hm (.bl _) (by simpa using q)
    | _ => exact q.elim
  | _ => cases iy <;> exact q.elim
theorem od_notin : OpD X (compareOp .NotIn) (inD true) := by
  intro pins s σ H vx vy v u Q I rx ry ⟨x, y, M, Q', ix, iy, hm, q, hq⟩
  cases ix with
  | str i => cases iy with
    | str j =>
      obtain ⟨k, hk, q⟩ := q
      · refine op_notin_str pins s σ H _ _ v u Q I rx ry ⟨_, _, rfl, rfl, ?_⟩
        rw [one_sign hk, PySem.StrLaws.found_one]
        exact hq.here hm (.bl _) (by simpa using q)
    | _ => exact q.elim
  | _ => cases iy <;> exact q.elim
/-! ### range(a, b, -1) -/
def Itd (lo : Int) (n : Nat) : It := Itf n fun i => .int (lo - i)
def for3D (g : TGd) (tb : TSd) (E : EndsD) (τ : DSt) : List D → DH → Prop
  | [.int lo, .int j, .int st], M => (st = -1 ∧ -(2 ^ 62) ≤ lo ∧ lo < 2 ^ 62 ∧ -(2 ^ 62) ≤ j ∧ j < 2 ^ 62) ∧ walkR (fun i => lo - (i : Int)) (lo - j).toNat g tb E τ M
  | _, _ => False
def sFor3 (ta : TAd) (g : TGd) (tb : TSd) : TSd := fun E τ M => ta τ M fun vs M1 => for3D g tb E τ vs M1
/-! ### max of a list of ints, all of a list of truth values -/
def maxL : List D → DH → KD → Prop
  | [.ref l], M, Q => ∃ ns : List Int, ns ≠ [] ∧ M l = some (.lst (ns.map .int)) ∧ ∀ m, m ∈ ns → (∀ k ∈ ns, k ≤ m) → Q (.int m) M
  | _, _, _ => False
theorem ints_of {K : PySem.W.Frag} {H : Hp} : ∀ {vs : List V} {us : List Value} {ns : List Int}, Iss K H vs (ns.map D.int) → Vals vs us → IntsAre us ns
  | _, _, [], .nil, .nil => .nil
  | _, _, n :: ns, .cons i t, .cons r t' => by
    cases i
    obtain ⟨tk, rfl⟩ := r
    exact .cons n tk (ints_of t t')
theorem cd_maxL (hc : X.calm = true) : CallD X (.builtin "max") maxL := by
  intro pins s σ H vs us Q I r ⟨ds, M, Q', iss, hm, q, hq⟩
  match ds, q, iss with
  | [.ref l], q, iss =>
    obtain ⟨v, rfl, i⟩ := iss1 iss
    cases i with
    | ref =>
      obtain ⟨ns, hne, hl, q⟩ := q
      obtain ⟨u, rfl, rx⟩ := vals1 r
      cases rx
      obtain ⟨xs, hx, hxs⟩ := hm.lst hl
      obtain ⟨its, r1, p1, _⟩ := I.list hx
      have hi := ints_of hxs r1
      obtain ⟨ys, e⟩ := hi.allInts.items
      have hns : ns = ys.toList.map (·.1) := by rw [← hi.numsOf, ← nums_intItems, ← e]
      have hsz : 0 < ys.size := by
        cases ns with
        | nil => exact absurd rfl hne
        | cons n ns => have := congrArg List.length hns; simp at this; omega
      have p2 := p1.isList
      rw [e] at p2
      refine max_intList (I.ok.hd hc) p2 hsz fun v h' tk hv hk => ?_
      obtain ⟨t, rfl⟩ := intItems_at hv
      obtain ⟨h1, h2⟩ := argBest_gt (numAt ys) (ys.size - 1)
      refine ⟨.int _, H, I.kept hk, ⟨t, rfl⟩, hq.here hm (.int _) (q _ ?_ fun a ha => ?_)⟩
      · rw [hns, numAt_eq]; exact getD_mem (by rw [List.length_map, Array.length_toList]; omega)
      · rw [hns] at ha
        obtain ⟨j, hj, rfl⟩ := mem_getD ha
        rw [List.length_map, Array.length_toList] at hj
        rw [← numAt_eq]; exact h2 j (by omega)
def allD : List D → DH → KD → Prop
  | [.ref l], M, Q => ∃ bs : List Bool, M l = some (.lst (bs.map .bl)) ∧ Q (.bl (bs.all id)) M
  | _, _, _ => False
theorem bools_get {K : PySem.W.Frag} {H : Hp} : ∀ {vs : List V} {us : List Value} {bs : List Bool} {i : Nat} {v : Value}, Iss K H vs (bs.map D.bl) → Vals vs us → us[i]? = some v → ∃ b, bs[i]? = some b ∧ v = .bool b
  | _, _, [], _, _, .nil, .nil, e => by simp at e
  | _, _, b :: bs, 0, v, .cons i t, .cons r t', e => by
    simp at e
    subst e
    cases i
    cases r
    exact ⟨b, rfl, rfl⟩
  | _, _, b :: bs, k + 1, v, .cons i t, .cons r t', e => by
    obtain ⟨b', h1, h2⟩ := bools_get (i := k) t t' (by simpa using e)
    exact ⟨b', by simpa using h1, h2⟩
theorem cd_all (hc : X.calm = true) : CallD X (.builtin "all") allD := by
  intro pins s σ H vs us Q I r ⟨ds, M, Q', iss, hm, q, hq⟩
  match ds, q, iss with
  | [.ref l], q, iss =>
    obtain ⟨v, rfl, i⟩ := iss1 iss
    cases i with
    | ref =>
      obtain ⟨bs, hl, q⟩ := q
      obtain ⟨u, rfl, rx⟩ := vals1 r
      cases rx
      obtain ⟨xs, hx, hxs⟩ := hm.lst hl
      obtain ⟨its, r1, p1, _⟩ := I.list hx
      have p2 := p1.isList
      have hlt : l < s.heap.objs.size := by obtain ⟨_, e, _⟩ := p2; exact Heap.lt_size e
      have hlen : its.toArray.size = bs.length := by rw [List.size_toArray, ← r1.length, hxs.length, List.length_map]
      refine call_all_walk (wpAny_pyIter_list p2 ?_)
      refine ⟨s.heap.objs.size, [s.heap.objs.size, l], [s.heap.objs.size], its.toArray.size, _, _, fun i => (bs[i]?).getD true, rfl, Walks.list (A := X.A.in1) (I.ok.hd hc) _ l (Nat.ne_of_lt hlt) its.toArray,
        ⟨⟨_, Heap.get?_push_size _ rfl, rfl, rfl⟩, p2.push _⟩, fun i v s' Q' E' hP hQ => ?_, fun h' tk hk => ?_⟩
      · obtain ⟨b, e, rfl⟩ := bools_get hxs r1 (by simpa using hP)
        simp only [e, Option.getD_some] at hQ
        exact wpAny_truthy_bool hQ
      · have e : ((List.range its.toArray.size).all fun i => (bs[i]?).getD true) = bs.all id := by
          rw [hlen]
          clear hlen hxs hl q
          induction bs with
          | nil => rfl
          | cons b bs ih =>
            rw [List.length_cons, List.range_succ_eq_map, List.all_cons, List.all_map, List.all_cons]
            have : ((fun i => ((b :: bs)[i]?).getD true) ∘ Nat.succ) = fun i => (bs[i]?).getD true := by funext i; simp
            rw [this, ih]
            rfl
        rw [e]
        exact ⟨.bl _, H, I.kept fun b x eb => hk b x (fun hm => by rw [List.mem_singleton.mp hm] at eb; exact Nat.lt_irrefl _ (Heap.lt_size eb)) (Heap.get?_push_of_some _ eb), rfl, hq.here hm (.bl _) q⟩
theorem len_2 {i j : Nat} : ∀ ds τ M Q, hCons (hName i) (hCons (hName j) hNil) ds τ M Q → ds.length = 2 := fun ds τ M Q h => by
  match ds, h with
  | [], h => exact h.elim
  | [_], h => exact h.elim
  | [_, _], h => rfl
  | _ :: _ :: _ :: _, h => exact h.elim
/-! ### what Python's names stand for -/
theorem bt_len : bootBuiltins "len" = some (.builtin "len") := by decide +kernel
theorem bt_max : bootBuiltins "max" = some (.builtin "max") := by decide +kernel
theorem bt_min : bootBuiltins "min" = some (.builtin "min") := by decide +kernel
theorem bt_all : bootBuiltins "all" = some (.builtin "all") := by decide +kernel
theorem bt_isinstance : bootBuiltins "isinstance" = some (.builtin "isinstance") := by decide +kernel
theorem bt_int : bootBuiltins "int" = some (.type "int") := by decide +kernel
theorem bt_bool : bootBuiltins "bool" = some (.type "bool") := by decide +kernel
theorem bt_str : bootBuiltins "str" = some (.type "str") := by decide +kernel
theorem bt_tuple : bootBuiltins "tuple" = some (.type "tuple") := by decide +kernel
theorem bt_list : bootBuiltins "list" = some (.type "list") := by decide +kernel
/-! ### a comprehension without names of the def around it -/
theorem comp_ok0 {Nc : List Str} {js : List (Option Nat)} {scope : Scope} (hf : ∀ x ∈ scope.names, x.2 ≠ .free) (hc : ∀ y ∈ scope.names, y.2 ≠ .cell) (hn : ∀ y ∈ scope.names, y.2 = .local → scope.names.lookup y.1 = some .local)
    (hk : scope.kind = .function) (hj : js = Nc.map fun _ => none) : CompOk X Nc js scope [] := by
  have hr : (relabel scope X.env).names = scope.names := by
    unfold relabel
    show scope.names.map _ = scope.names
    refine map_eq_self fun x hx => ?_
    obtain ⟨n, k⟩ := x
    have h1 : (k == NameKind.free) = false := by simpa using hf _ hx
    simp [h1]
  refine ⟨hk, closureFor_none hf, hc, hn, fun p hp => (nomatch hp), ?_, by rw [hj, List.length_map], fun i j x h => ?_⟩
  · rw [hr, List.all_eq_true]
    intro p hp
    have h1 : (p.2 != NameKind.cell) = true := by simpa using hc p hp
    have h2 : (p.2 != NameKind.free) = true := by simpa using hf p hp
    simp [h1, h2]
  · rw [hj, List.getElem?_map] at h
    cases q : Nc[i]? with
    | none => rw [q] at h; cases h
    | some y => rw [q] at h; cases h
/-! ### * -/
theorem mul_len (x : Str) (n : Int) : (Txt.mul x n).length ≤ x.length * n.toNat + x.length := by
  unfold Txt.mul
  split
  · show (0 : Nat) ≤ _; exact Nat.zero_le _
  · split
    · exact Nat.le_add_left _ _
    · have : ∀ (k : Nat) (a : Array Nat), ((List.replicate k x.cps).foldl (· ++ ·) a).size = a.size + x.cps.size * k := by
        intro k
        induction k with
        | zero => intro a; simp
        | succ k ih => intro a; rw [List.replicate_succ, List.foldl_cons, ih]; simp [Array.size_append, Nat.mul_add]; omega
      show ((List.replicate n.toNat x.cps).foldl (· ++ ·) #[]).size ≤ _
      rw [this]
      show 0 + x.length * n.toNat ≤ _
      omega
def mulSD : D → D → DH → KD → Prop
  | .int i, .int j, M, Q => CMul i j ∧ Q (.int (i * j)) M
  | .str z, .int n, M, Q => (z.length ≤ 100000 ∧ 0 ≤ n ∧ n ≤ 100) ∧ Q (.str (Txt.mul z n)) M
  | _, _, _, _ => False
theorem od_mulS : OpD X (binaryOp .Mult) mulSD := by
  intro pins s σ H vx vy v u Q I rx ry ⟨x, y, M, Q', ix, iy, hm, q, hq⟩
  cases ix with
  | int i => cases iy with
    | int j => exact op_mul pins s σ H _ _ v u Q I rx ry ⟨_, _, rfl, rfl, q.1, hq.here hm (.int _) q.2⟩
    | _ => exact q.elim
  | str z => cases iy with
    | int n =>
      obtain ⟨⟨h1, h2, h3⟩, q⟩ := q
      obtain ⟨t, rfl⟩ := rx
      obtain ⟨t', rfl⟩ := ry
      have hz : z.length * n.toNat ≤ 100000 * 100 := Nat.mul_le_mul h1 (by omega)
      refine SB.mul ⟨?_, fun h4 _ => ?_, fun _ _ => ?_⟩ fun t2 k => ⟨.str _, H, I.tok k, ⟨_, rfl⟩, hq.here hm (.str _) q⟩
      · have e1 : decide (n < -(2 ^ 63 : Int)) = false := decide_eq_false (by omega)
        have e2 : decide (n ≥ 2 ^ 63) = false := decide_eq_false (by omega)
        rw [e1, e2]; rfl
      · have h5 : (100 : Int) * 92233720368547758 ≤ (2 ^ 63 - 1) := by decide
        have h6 : (92233720368547758 : Int) ≤ (2 ^ 63 - 1) / n := by
          rw [Int.le_ediv_iff_mul_le (by omega)]
          calc (92233720368547758 : Int) * n ≤ 92233720368547758 * 100 := Int.mul_le_mul_of_nonneg_left h3 (by decide)
            _ ≤ _ := by decide
        omega
      · unfold Builtin.Str.tooLong
        simp only [decide_eq_false_iff_not]
        have h3 : sizeLine = 16777216 := sizeLine_eq
        omega
    | _ => exact q.elim
  | _ => cases iy <;> exact q.elim
end
end DL

/-! range(a, b, -1); comprehensions with a name of the def around them. -/
namespace DL
open PySem PySem.Spec PyProof.Rows L2
section
variable {X : Cx} {tg : Expr} {g : TGd} {tb : TSd} {pos : Pos}
def iRng3 (ta : TA) : TI := fun σ H R => ta σ H fun vs H1 => ∃ i j : Int, vs = [.int i, .int j, .int (-1)] ∧ (-(2 ^ 62) ≤ i ∧ i < 2 ^ 62 ∧ -(2 ^ 62) ≤ j ∧ j < 2 ^ 62) ∧ R (Itf (i - j).toNat fun k => .int (i - k)) H1
theorem pi_range3 {a b c : Expr} {ta : TA} {p cpos : Pos} (hg : Gl X "range") (hm : X.mg "range" = none) (ha : PA X [a, b, c] ta) (hs : starEach [a, b, c] X.env = (false, eval a X.env) :: starEach [b, c] X.env := by rfl)
    (hpl : (backTo cpos (starEach [b, c] X.env)).any (·.1) = false := by rfl) : PI X tg (.Call (.Name "range" p) [a, b, c] [] cpos) (iRng3 ta) := by
  intro pins s σ H R I h
  refine Call_ (ld_blt I hg hm boot_range (PyProof.Rows.callWith_type1 (thn (ha cpos pins s σ H _ I h) fun us s1 ⟨vs, H1, I1, r1, q1⟩ => ?_) hs hpl))
  obtain ⟨i, j, e, ⟨q1, q2, q3, q4⟩, q⟩ := q1
  subst e
  cases r1 with
  | cons r rr =>
    cases rr with
    | cons r' rr =>
      cases rr with
      | cons r'' rr =>
        cases rr
        obtain ⟨t, rfl⟩ := r
        obtain ⟨t', rfl⟩ := r'
        obtain ⟨t'', rfl⟩ := r''
        refine call_range_3 (by decide) ?_ (.inl (PyProof.noPylong_small (by decide)))
        refine wpAny_pyIter_range (IsRange.new ..) (PySem.W.small_down q1 q2 q3 q4) ?_
        have I2 : Inv X pins σ H1 { s1 with heap := s1.heap.push { cls := .type "range", data := .fields #[.int i t, .int j t', .int (-1) t''] }, toks := s1.toks } := I1.kept fun b o e => Heap.get?_push_of_some _ e
        refine ⟨(s1.heap.push { cls := .type "range", data := .fields #[.int i t, .int j t', .int (-1) t''] }).objs.size, [(s1.heap.push { cls := .type "range", data := .fields #[.int i t, .int j t', .int (-1) t''] }).objs.size], _, _, H1, rfl,
          I2.kept (t' := s1.toks) fun b o e => Heap.get?_push_of_some _ e, turn_walks _ (i - j).toNat (fun k => .int (i - k)) (fun k h => IsRangeIter h (s1.heap.push { cls := .type "range", data := .fields #[.int i t, .int j t', .int (-1) t''] }).objs.size (i + (k : Nat) * (-1)) (((i - j).toNat : Int) - (k : Nat)) (-1))
            (fun A hA => walks_imp (Walks.range (A := A) hA _ i (-1) (i - j).toNat) fun k v ⟨tk, e⟩ => ⟨tk, by rw [e]; congr 1; omega⟩) (fun k h st => ⟨_, _, _, st, rfl, rfl, by decide⟩) (fun _ _ _ _ _ st h => wpAny_pyIter_rangeiter st h), ?_, fun b hb => ?_, q⟩
        · have e1 : i + ((0 : Nat) : Int) * (-1) = i := by omega
          have e2 : (((i - j).toNat : Nat) : Int) - ((0 : Nat) : Int) = Builtin.Range.rangeSize i j (-1) := by rw [PySem.W.rangeSize_downNat]; omega
          show IsRangeIter _ _ (i + ((0 : Nat) : Int) * (-1)) ((((i - j).toNat : Nat) : Int) - ((0 : Nat) : Int)) (-1)
          rw [e1, e2]
          exact Heap.get?_push_size _ rfl
        · have e : b = (s1.heap.push { cls := .type "range", data := .fields #[.int i t, .int j t', .int (-1) t''] }).objs.size := by simpa using hb
          subst e
          exact I2.fpOk (Nat.le_refl _) (I2.hok.fresh (Nat.le_refl _))
theorem gives_f {K : PySem.W.Frag} {H : Hp} (n : Nat) (f : Nat → Int) : Gives K (Itf n fun k => .int (f k)) ((List.range n).map fun k => D.int (f k)) H :=
  ⟨fun j hj => by rw [List.length_map, List.length_range] at hj; exact hj, fun j x H' hj ⟨e, y⟩ => by
    rw [List.length_map, List.length_range] at hj
    exact ⟨e, .int (f j), by rw [List.getElem?_map, List.getElem?_range hj]; rfl, by rw [y]; exact .int _⟩, by rw [List.length_map, List.length_range]; exact rfl⟩
theorem walk_rd {f : Nat → Int} {n : Nat} {E : EndsD} {τ : DSt} {M : DH} (h : walkR f n g tb E τ M) : walkD ((List.range n).map fun k => D.int (f k)) (fun _ => True) g tb E τ M := by
  obtain ⟨W, w0, turn, done⟩ := h
  refine ⟨W, w0, fun _ _ _ _ _ => trivial, fun i d τ M ed w => ?_, fun τ M w => done τ M (by rw [List.length_map, List.length_range] at w; exact w)⟩
  rw [List.getElem?_map] at ed
  cases q : (List.range n)[i]? with
  | none => rw [q] at ed; cases ed
  | some k =>
    rw [q] at ed
    cases ed
    have hk := List.getElem?_eq_some_iff.mp q
    obtain ⟨hl, e⟩ := hk
    rw [List.getElem_range] at e
    subst e
    rw [List.length_range] at hl
    exact turn _ τ M hl w
theorem s_for3 {a b c : Expr} {ta : TAd} {body : List Stmt} {p cpos : Pos} (hp : PassesOwn (model X.prog X.w) X.A X.env X.xe) (hc : X.calm = true) (hm : X.mg "range" = none) (ha : PA X [a, b, c] (lowA X.K ta)) (hg : PG X tg (lowG X.K g)) (hb : PSs X body (lowS X.K tb)) (hgl : Gl X "range" := by rfl)
    (hst : starEach [a, b, c] X.env = (false, eval a X.env) :: starEach [b, c] X.env := by rfl) (hpl : (backTo cpos (starEach [b, c] X.env)).any (·.1) = false := by rfl) (hs : ∀ x, foldedSetIterable (.Call (.Name "range" p) [a, b, c] [] cpos) X.env x = pure x := by intro _; rfl) :
    PS X (.For tg (.Call (.Name "range" p) [a, b, c] [] cpos) body [] pos) (lowS X.K (sFor3 ta g tb)) :=
  (ps_for hp hc (pi_range3 hgl hm ha hst hpl) hg hb hs).imp fun D σ H ⟨τ, M, D', hs, hm, h, hd⟩ => ⟨τ, M, _, hs, hm, h, fun ds M1 vs H1 m1 e1 i1 h1 => by
    match ds, h1, i1 with
    | [.int lo, .int j, .int st], h1, i1 =>
      obtain ⟨⟨es, q⟩, w⟩ := h1
      subst es
      cases i1 with
      | cons i i1 =>
        obtain ⟨v, v', rfl, i', i''⟩ := iss2 i1
        cases i
        cases i'
        cases i''
        exact ⟨lo, j, rfl, q, for_gives hd e1 (hs.mono e1) m1 (fun M2 H2 m2 e2 _ => gives_f _ _) (walk_rd w)⟩⟩
end
end DL

/-! Comprehensions with names of the def around them. -/
namespace DL
open PySem PySem.Spec PyProof.Rows L2
/-- the cells of the free names -/
def cloF (cells : List (Str × Addr)) : List (Str × NameKind) → List (Str × Addr) → List (Str × Addr)
  | [], acc => acc
  | (n, k) :: r, acc => cloF cells r (if k == .free then (n, (cells.lookup n).getD 0) :: acc else acc)
theorem clos_for {env : Env} : ∀ (names : List (Str × NameKind)) (acc : List (Str × Addr)), (∀ y ∈ names, y.2 = .free → ∃ c, env.cells.lookup y.1 = some c) →
    (forIn (m := Sem) names acc fun x cs => if x.2 == NameKind.free then do let c ← cellOf env x.1; pure (ForInStep.yield ((x.1, c) :: cs)) else pure (ForInStep.yield cs)) = pure (cloF env.cells names acc)
  | [], acc, _ => rfl
  | (n, k) :: r, acc, h => by
    rw [List.forIn_cons]
    have ih := fun acc' => clos_for (env := env) r acc' fun y hy => h y (List.mem_cons_of_mem _ hy)
    by_cases hk : (k == NameKind.free) = true
    · obtain ⟨c, hc⟩ := h (n, k) List.mem_cons_self (by simpa using hk)
      have hc' : env.cells.lookup n = some c := hc
      have e1 : cellOf env n = pure c := by unfold cellOf; rw [hc']
      simp only [hk, if_true, e1, pure_bind, ih]
      rw [cloF, if_pos hk, hc']
      rfl
    · have hk' : (k == NameKind.free) = false := by simpa using hk
      simp only [hk', Bool.false_eq_true, if_false, pure_bind, ih]
      rw [cloF, if_neg (by simp [hk'])]
theorem clos_of {env : Env} {scope : Scope} (h : ∀ y ∈ scope.names, y.2 = .free → ∃ c, env.cells.lookup y.1 = some c) : closureFor scope env = pure (cloF env.cells scope.names []) := by
  have z := clos_for (env := env) scope.names [] h
  simp only [closureFor]
  first
    | exact z
    | (simp only [bind_pure]; exact z)
    | (rw [z]; rfl)
theorem cloF_mem {cells : List (Str × Addr)} : ∀ (names : List (Str × NameKind)) (acc : List (Str × Addr)) (p : Str × Addr), (∀ y ∈ names, y.2 = .free → ∃ c, cells.lookup y.1 = some c) → p ∈ cloF cells names acc → p ∈ acc ∨ cells.lookup p.1 = some p.2
  | [], acc, p, _, h => .inl h
  | (n, k) :: r, acc, p, hf, h => by
    rw [cloF] at h
    rcases cloF_mem r _ p (fun y hy => hf y (List.mem_cons_of_mem _ hy)) h with h | h
    · by_cases hk : (k == NameKind.free) = true
      · rw [if_pos hk] at h
        rcases List.mem_cons.mp h with rfl | h
        · obtain ⟨c, hc⟩ := hf (n, k) List.mem_cons_self (by simpa using hk)
          have hc' : cells.lookup n = some c := hc
          exact .inr (by show cells.lookup n = some ((cells.lookup n).getD 0); rw [hc']; rfl)
        · exact .inl h
      · rw [if_neg hk] at h; exact .inl h
    · exact .inr h
theorem cloF_some {cells : List (Str × Addr)} {x : Str} : ∀ (names : List (Str × NameKind)) (acc : List (Str × Addr)), (x, NameKind.free) ∈ names ∨ (acc.lookup x).isSome = true → ((cloF cells names acc).lookup x).isSome = true
  | [], acc, h => h.elim (fun h => (nomatch h)) id
  | (n, k) :: r, acc, h => by
    rw [cloF]
    refine cloF_some r _ ?_
    by_cases hk : (k == NameKind.free) = true
    · rw [if_pos hk]
      by_cases hx : (x == n) = true
      · exact .inr (by rw [List.lookup_cons, hx]; rfl)
      · have hx' : (x == n) = false := by simpa using hx
        rcases h with h | h
        · rcases List.mem_cons.mp h with h | h
          · cases h; simp at hx
          · exact .inl h
        · exact .inr (by rw [List.lookup_cons, hx']; exact h)
    · rw [if_neg hk]
      rcases h with h | h
      · rcases List.mem_cons.mp h with h | h
        · cases h; simp at hk
        · exact .inl h
      · exact .inr h
theorem relabel_free {env : Env} (hk : env.scope.kind = .function) : ∀ {names : List (Str × NameKind)} {x : Str}, names.lookup x = some .free → env.kindOf x = some .cell →
    (names.map fun (n, k) => if (k == NameKind.free && env.scope.kind == .function && env.kindOf n == some .cell) then (n, NameKind.cell) else (n, k)).lookup x = some .cell
  | [], _, h, _ => by simp at h
  | (n, k) :: r, x, h, hx => by
    have ih := @relabel_free env hk r x
    show List.lookup x ((if (k == NameKind.free && env.scope.kind == .function && env.kindOf n == some .cell) = true then (n, NameKind.cell) else (n, k)) :: _) = _
    cases e : x == n with
    | true =>
      simp only [List.lookup_cons, e] at h
      cases h
      have en : x = n := by simpa using e
      subst en
      rw [if_pos (by simp [hk, hx])]
      simp [List.lookup_cons]
    | false =>
      simp only [List.lookup_cons, e] at h
      by_cases hc : (k == NameKind.free && env.scope.kind == .function && env.kindOf n == some .cell) = true
      · rw [if_pos hc]; simp only [List.lookup_cons, e]; exact ih h hx
      · rw [if_neg hc]; simp only [List.lookup_cons, e]; exact ih h hx
def frOk (N : List Str) (ns : List (Str × NameKind)) : List (Option Nat) → List Str → Bool
  | none :: js, _ :: Nc => frOk N ns js Nc
  | some j :: js, x :: Nc => decide (N[j]? = some x) && decide (ns.lookup x = some .free) && frOk N ns js Nc
  | [], [] => true
  | _, _ => false
theorem frOk_len {N : List Str} {ns : List (Str × NameKind)} : ∀ {js : List (Option Nat)} {Nc : List Str}, frOk N ns js Nc = true → js.length = Nc.length
  | [], [], _ => rfl
  | [], _ :: _, h => by simp [frOk] at h
  | none :: _, [], h => by simp [frOk] at h
  | some _ :: _, [], h => by simp [frOk] at h
  | none :: js, _ :: Nc, h => by rw [frOk] at h; simp [frOk_len h]
  | some j :: js, x :: Nc, h => by simp only [frOk, Bool.and_eq_true] at h; simp [frOk_len h.2]
theorem frOk_get {N : List Str} {ns : List (Str × NameKind)} : ∀ {js : List (Option Nat)} {Nc : List Str} {i j : Nat} {x : Str}, frOk N ns js Nc = true → js[i]? = some (some j) → Nc[i]? = some x → N[j]? = some x ∧ ns.lookup x = some .free
  | [], _, _, _, _, _, e, _ => by simp at e
  | _ :: _, [], _, _, _, _, _, e => by simp at e
  | none :: js, _ :: Nc, 0, _, _, _, e, _ => by simp at e
  | none :: js, _ :: Nc, i + 1, j, x, h, e1, e2 => by rw [frOk] at h; exact frOk_get (i := i) h (by simpa using e1) (by simpa using e2)
  | some j' :: js, y :: Nc, 0, j, x, h, e1, e2 => by
    simp at e1 e2
    subst e1 e2
    simp only [frOk, Bool.and_eq_true, decide_eq_true_eq] at h
    exact h.1
  | some j' :: js, y :: Nc, i + 1, j, x, h, e1, e2 => by
    simp only [frOk, Bool.and_eq_true] at h
    exact frOk_get (i := i) h.2 (by simpa using e1) (by simpa using e2)
section
variable {X : Cx}
theorem comp_okF {Nc : List Str} {js : List (Option Nat)} {scope : Scope} {n : Nat} (N : List Str) (ns : List (Str × NameKind)) (hN : X.N = N) (hS : X.env.scope.names = ns) (hE : X.env.cells = cellsFrom n X.env.scope.names []) (hK : X.env.scope.kind = .function)
    (hfr : ∀ y ∈ scope.names, y.2 = .free → ns.lookup y.1 = some .cell) (hc : ∀ y ∈ scope.names, y.2 ≠ .cell) (hn : ∀ y ∈ scope.names, y.2 = .local → scope.names.lookup y.1 = some .local)
    (hk : scope.kind = .function) (hj : frOk N scope.names js Nc = true) : CompOk X Nc js scope (cloF X.env.cells scope.names []) := by
  have hcell : ∀ y ∈ scope.names, y.2 = .free → ∃ c, X.env.cells.lookup y.1 = some c := fun y hy hf => by
    rw [hE, hS]; exact L2.cell_has (sc := { X.env.scope with names := ns }) (hfr y hy hf)
  refine ⟨hk, clos_of hcell, hc, hn, fun p hp => ?_, ?_, frOk_len hj, fun i j x e1 e2 => ?_⟩
  · rcases cloF_mem _ _ p hcell hp with h | h
    · cases h
    · exact h
  · unfold relabel
    rw [List.all_map, List.all_eq_true]
    rintro ⟨y, k⟩ hp
    by_cases hf : k = .free
    · subst hf
      have z := cloF_some (cells := X.env.cells) (x := y) scope.names [] (.inl hp)
      simp only [Function.comp]
      split <;> (rw [z]; simp)
    · have h1 : (k == NameKind.free) = false := by simpa using hf
      have h2 : k ≠ .cell := hc _ hp
      simp [h1, h2, hf]
  · obtain ⟨h1, h2⟩ := frOk_get hj e1 e2
    have hx : X.env.kindOf x = some .cell := by
      show X.env.scope.names.lookup x = _
      rw [hS]; exact hfr (x, .free) (PySem.mem_of_lookup h2) rfl
    exact ⟨by rw [hN]; exact h1, .inl hx, .inl (relabel_free hK h2 hx), rfl⟩
end
end DL

/-! Dicts over data: keys ints and texts. -/
namespace DL
open PySem PySem.Spec PyProof.Rows L2
def keyD : Key → D
  | .inl i => .int i
  | .inr x => .str x
def keyOf : D → Option Key
  | .int i => some (.inl i)
  | .str x => some (.inr x)
  | _ => none
theorem keyOf_keyD (k : Key) : keyOf (keyD k) = some k := by cases k <;> rfl
def valD (kvs : List (Key × D)) (k : Key) : Option D := (kvs.find? fun kv => decide (kv.1 = k)).map (·.2)
def putD (kvs : List (Key × D)) (k : Key) (d : D) : List (Key × D) :=
  if (kvs.any fun kv => decide (kv.1 = k)) = true then kvs.map (fun kv => if kv.1 = k then (kv.1, d) else kv) else kvs ++ [(k, d)]
theorem valD_nil {k : Key} : valD [] k = none := rfl
theorem valD_pos {p : Key × D} {r : List (Key × D)} {k : Key} (e : p.1 = k) : valD (p :: r) k = some p.2 := by simp [valD, List.find?_cons, e]
theorem valD_neg {p : Key × D} {r : List (Key × D)} {k : Key} (e : ¬ p.1 = k) : valD (p :: r) k = valD r k := by simp [valD, List.find?_cons, e]
theorem valD_any (k : Key) : ∀ kvs : List (Key × D), (kvs.any fun kv => decide (kv.1 = k)) = (valD kvs k).isSome
  | [] => rfl
  | p :: r => by
    rw [List.any_cons]
    by_cases e : p.1 = k
    · rw [valD_pos e, decide_eq_true e]; rfl
    · rw [valD_neg e, decide_eq_false e, Bool.false_or]; exact valD_any k r
theorem putD_new {kvs : List (Key × D)} {k : Key} (d : D) (h : valD kvs k = none) : putD kvs k d = kvs ++ [(k, d)] := by
  unfold putD; rw [valD_any, h]; exact if_neg (by decide)
theorem putD_old {kvs : List (Key × D)} {k : Key} (d : D) (h : (valD kvs k).isSome = true) : putD kvs k d = kvs.map fun kv => if kv.1 = k then (kv.1, d) else kv := by
  unfold putD; rw [valD_any, h]; exact if_pos rfl
theorem valD_snoc (k j : Key) (d : D) : ∀ kvs : List (Key × D), valD kvs k = none → valD (kvs ++ [(k, d)]) j = if j = k then some d else valD kvs j
  | [], _ => by
    by_cases e : k = j
    · rw [if_pos e.symm]; exact valD_pos (p := (k, d)) e
    · rw [if_neg (fun z => e z.symm)]; exact valD_neg (p := (k, d)) e
  | p :: r, hn => by
    rw [List.cons_append]
    have hk : ¬ p.1 = k := fun z => by rw [valD_pos z] at hn; cases hn
    rw [valD_neg hk] at hn
    have ih := valD_snoc k j d r hn
    by_cases e : p.1 = j
    · rw [valD_pos e, valD_pos e, if_neg (fun z => hk (e.trans z))]
    · rw [valD_neg e, valD_neg e, ih]
abbrev PKD (K : PySem.W.Frag) (H : Hp) : List (Key × V) → List (Key × D) → Prop := Paired fun (p : Key × V) (q : Key × D) => p.1 = q.1 ∧ Is K H p.2 q.2
section
variable {K : PySem.W.Frag} {M : DH} {H H' : Hp} {kx : List (Key × V)} {kvs : List (Key × D)} {k : Key} {p : Addr}
theorem key_is {v : V} {d : D} (i : Is K H v d) (e : keyOf d = some k) : v = kV k := by
  cases i with
  | int j => cases e; rfl
  | str x => cases e; rfl
  | _ => cases e
theorem pkd_some (r : PKD K H kx kvs) {d : D} (e : valD kvs k = some d) : ∃ v, valV kx k = some v ∧ Is K H v d := by
  induction r with
  | nil => rw [valD_nil] at e; cases e
  | @cons a b as bs h t ih =>
    by_cases hk : b.1 = k
    · rw [valD_pos hk] at e
      cases e
      exact ⟨a.2, valV_pos (h.1.trans hk), h.2⟩
    · rw [valD_neg hk] at e
      obtain ⟨v, h1, h2⟩ := ih e
      exact ⟨v, by rw [valV_neg fun z => hk (h.1.symm.trans z)]; exact h1, h2⟩
theorem pkd_none (r : PKD K H kx kvs) (e : valD kvs k = none) : valV kx k = none := by
  induction r with
  | nil => rfl
  | @cons a b as bs h t ih =>
    have hk : ¬ b.1 = k := fun z => by rw [valD_pos z] at e; cases e
    rw [valD_neg hk] at e
    rw [valV_neg fun z => hk (h.1.symm.trans z)]
    exact ih e
theorem pkd_isSome (r : PKD K H kx kvs) : (valV kx k).isSome = (valD kvs k).isSome := by
  cases e : valD kvs k with
  | none => rw [pkd_none r e]; rfl
  | some d => obtain ⟨v, h1, _⟩ := pkd_some r e; rw [h1]; rfl
theorem pkd_length (r : PKD K H kx kvs) : kx.length = kvs.length := Paired.length r
theorem pkd_mono0 (e : Ext0 K H H') (r : PKD K H kx kvs) : PKD K H' kx kvs := r.impP fun _ _ ⟨r1, r2⟩ => ⟨r1, r2.mono0 e⟩
theorem pkd_mono (e : Ext K H H') (r : PKD K H kx kvs) : PKD K H' kx kvs := r.impP fun _ _ ⟨r1, r2⟩ => ⟨r1, r2.mono e⟩
theorem pkd_put (r : PKD K H kx kvs) {v : V} {d : D} (i : Is K H v d) : PKD K H (putK kx k v) (putD kvs k d) := by
  have e : (kx.any fun kv => decide (kv.1 = k)) = kvs.any fun kv => decide (kv.1 = k) := by rw [valV_any, valD_any, pkd_isSome r]
  unfold putK putD
  rw [e]
  by_cases q : (kvs.any fun kv => decide (kv.1 = k)) = true
  · rw [if_pos q, if_pos q]
    clear e q
    induction r with
    | nil => exact .nil
    | @cons a b as bs h t ih =>
      rw [List.map_cons, List.map_cons]
      refine .cons ?_ ih
      by_cases z : b.1 = k
      · rw [if_pos z, if_pos (h.1.trans z)]; exact ⟨h.1, i⟩
      · rw [if_neg z, if_neg fun y => z (h.1.symm.trans y)]; exact h
  · rw [if_neg q, if_neg q]; exact Paired.snoc r ⟨rfl, i⟩
/-- a dict that is read: one that may change, or one that a loop walks -/
abbrev DicAt (M : DH) (a : Addr) (kvs : List (Key × D)) : Prop := M a = some (.dic kvs) ∨ M a = some (.fdc kvs)
theorem HAbs.dic {kvs : List (Key × D)} {a : Addr} (h : HAbs K M H) (e : DicAt M a kvs) : ∃ kx, Rd H a (.dK kx) ∧ PKD K H kx kvs := by
  rcases e with e | e
  · obtain ⟨kx, h1, h2⟩ := h a _ e; exact ⟨kx, .inl h1, h2⟩
  · obtain ⟨o, kx, h1, h2⟩ := h a _ e; exact ⟨kx, .inr ⟨o, h1⟩, h2⟩
theorem HAbs.newK (h : HAbs K M H) (e : H p = none) : HAbs K (updM M p (.dic [])) (upd H p (.dK [])) := h.newM e (show MOk K _ p (.dic []) from ⟨[], upd_same, .nil⟩)
theorem HAbs.setK {es : List (Key × D)} {ys : List (Key × V)} (h : HAbs K M H) (hx : H p = some (.dK kx)) (hy : PKD K H ys es) : HAbs K (updM M p (.dic es)) (upd H p (.dK ys)) ∧ Ext K H (upd H p (.dK ys)) := by
  have ex : Ext K H (upd H p (.dK ys)) := ext_upd (fun zs s => by rcases s with s | ⟨u, s⟩ <;> rw [hx] at s <;> cases s) (fun u xs s => by rw [hx] at s; cases s)
  refine ⟨fun a u q => ?_, ex⟩
  by_cases z : a = p
  · subst z; rw [updM_same] at q; cases q; exact ⟨ys, upd_same, pkd_mono ex hy⟩
  · rw [updM_ne z] at q
    exact (h a u q).mono ex.e0 (fun v w => by rw [upd_ne z]; exact w) (fun dx w => by rw [upd_ne (ne_of w hx (by intro k; cases k))]; exact w)
end
section
variable {X : Cx} {e a b c o f : Expr} {es : List Expr} {pos apos cpos : Pos} {ta tb tc te td ty tx : TEd} {n : Nat}
def eDict0 : TEd := fun _ M Q => ∀ p, M p = none → Q (.ref p) (updM M p (.dic []))
theorem d_dict0 : PE X (.Dict [] [] pos) (low X.K eDict0) :=
  pe_dnewK.imp fun σ H Q ⟨τ, M, Q', hs, hm, h, hq⟩ p hp => hq _ _ _ _ (hm.newK hp) (ext_new hp) (.ref p) (h p (hm.free hp))
/-! ### in, not in -/
def D.flat : D → Bool
  | .non => true
  | .bl _ => true
  | .int _ => true
  | .str _ => true
  | _ => false
theorem flat_of {K : PySem.W.Frag} {H : Hp} {v : V} {d : D} (i : Is K H v d) (h : D.flat d = true) : flatV v = true := by
  cases i <;> first | rfl | (cases h; done)
theorem flat_all {K : PySem.W.Frag} {H : Hp} : ∀ {vs : List V} {ds : List D}, Iss K H vs ds → ds.all D.flat = true → vs.all flatV = true
  | _, _, .nil, _ => rfl
  | _, _, .cons i t, h => by
    rw [List.all_cons, Bool.and_eq_true] at h
    rw [List.all_cons, flat_of i h.1, flat_all t h.2]
    rfl
theorem flat_eqV {K : PySem.W.Frag} {H : Hp} {v v' : V} {d d' : D} (i : Is K H v d) (i' : Is K H v' d') (h : D.flat d = true) (h' : D.flat d' = true) : eqV v v' = D.eq d d' :=
  (flat_eq i i' (by cases d <;> cases d' <;> first | rfl | (cases h; done) | (cases h'; done)) (by cases d <;> first | rfl | (cases h; done))).2.2
theorem flat_any {K : PySem.W.Frag} {H : Hp} {v : V} {d : D} (i : Is K H v d) (h : D.flat d = true) : ∀ {vs : List V} {ds : List D}, Iss K H vs ds → ds.all D.flat = true → inV v vs = ds.any fun y => D.eq y d
  | _, _, .nil, _ => rfl
  | _, _, .cons j t, hh => by
    rw [List.all_cons, Bool.and_eq_true] at hh
    have ih := flat_any i h t hh.2
    unfold inV at ih ⊢
    rw [List.any_cons, List.any_cons, ih, flat_eqV j i hh.1 h]
/-- one sign in a text; a key in a dict; a thing in a list of flat ones -/
def inXD (neg : Bool) : D → D → DH → KD → Prop
  | .str i, .str j, M, Q => ∃ k, i.cps.toList = [k] ∧ Q (.bl (if neg then !decide (k ∈ j.cps.toList) else decide (k ∈ j.cps.toList))) M
  | d, .ref l, M, Q => (∃ k kvs, keyOf d = some k ∧ DicAt M l kvs ∧ Q (.bl (if neg then !(valD kvs k).isSome else (valD kvs k).isSome)) M) ∨
      ∃ xs, M l = some (.lst xs) ∧ D.flat d = true ∧ xs.all D.flat = true ∧ Q (.bl (if neg then !(xs.any fun y => D.eq y d) else xs.any fun y => D.eq y d)) M
  | _, _, _, _ => False
theorem inXD_ref {neg : Bool} {x : D} {l : Addr} {M : DH} {Q : KD} (h : inXD neg x (.ref l) M Q) : (∃ k kvs, keyOf x = some k ∧ DicAt M l kvs ∧ Q (.bl (if neg then !(valD kvs k).isSome else (valD kvs k).isSome)) M) ∨
      ∃ xs, M l = some (.lst xs) ∧ D.flat x = true ∧ xs.all D.flat = true ∧ Q (.bl (if neg then !(xs.any fun y => D.eq y x) else xs.any fun y => D.eq y x)) M := by
  cases x <;> exact h
theorem inXD_str {neg : Bool} {x : D} {j : Str} {M : DH} {Q : KD} (h : inXD neg x (.str j) M Q) : ∃ i k, x = .str i ∧ i.cps.toList = [k] ∧ Q (.bl (if neg then !decide (k ∈ j.cps.toList) else decide (k ∈ j.cps.toList))) M := by
  cases x with
  | str i => obtain ⟨k, h1, h2⟩ := h; exact ⟨i, k, rfl, h1, h2⟩
  | _ => exact h.elim
theorem od_inX (hr : Room n X.A) : OpD X (compareOp .In) (inXD false) := by
  intro pins s σ H vx vy v u Q I rx ry ⟨x, y, M, Q', ix, iy, hm, q, hq⟩
  cases iy with
  | str j =>
    obtain ⟨i, k, rfl, hk, q⟩ := inXD_str q
    cases ix
    refine op_in_str pins s σ H _ _ v u Q I rx ry ⟨_, _, rfl, rfl, ?_⟩
    rw [one_sign hk, PySem.StrLaws.found_one]
    exact hq.here hm (.bl _) (by simpa using q)
  | ref l =>
    cases ry
    rcases inXD_ref q with ⟨k, kvs, hk, hl, q⟩ | ⟨xs, hl, h1, h2, q⟩
    · obtain ⟨kx, hx, hp⟩ := hm.dic hl
      have hv := key_is ix hk
      subst hv
      refine d_in (hu_of hr) I (.inl ⟨kx, k, hx, rfl, rfl⟩) rx fun s' I' => ⟨.bl _, H, I', rfl, ?_⟩
      rw [pkd_isSome hp]
      exact hq.here hm (.bl _) q
    · obtain ⟨ys, hy, iy⟩ := hm.lst hl
      refine op_in_seq pins s σ H _ (.ref l) v _ Q I rx rfl ⟨l, ys, rfl, .inl hy, flat_of ix h1, flat_all iy h2, ?_⟩
      rw [flat_any ix h1 iy h2]
      exact hq.here hm (.bl _) q
  | _ => cases ix <;> exact q.elim
theorem od_notinX (hr : Room n X.A) : OpD X (compareOp .NotIn) (inXD true) := by
  intro pins s σ H vx vy v u Q I rx ry ⟨x, y, M, Q', ix, iy, hm, q, hq⟩
  cases iy with
  | str j =>
    obtain ⟨i, k, rfl, hk, q⟩ := inXD_str q
    cases ix
    refine op_notin_str pins s σ H _ _ v u Q I rx ry ⟨_, _, rfl, rfl, ?_⟩
    rw [one_sign hk, PySem.StrLaws.found_one]
    exact hq.here hm (.bl _) (by simpa using q)
  | ref l =>
    cases ry
    rcases inXD_ref q with ⟨k, kvs, hk, hl, q⟩ | ⟨xs, hl, h1, h2, q⟩
    · obtain ⟨kx, hx, hp⟩ := hm.dic hl
      have hv := key_is ix hk
      subst hv
      refine d_notIn (hu_of hr) I (.inl ⟨kx, k, hx, rfl, rfl⟩) rx fun s' I' => ⟨.bl _, H, I', rfl, ?_⟩
      rw [pkd_isSome hp]
      exact hq.here hm (.bl _) q
    · obtain ⟨ys, hy, iy⟩ := hm.lst hl
      refine op_notIn_seq pins s σ H _ (.ref l) v _ Q I rx rfl ⟨l, ys, rfl, .inl hy, flat_of ix h1, flat_all iy h2, ?_⟩
      rw [flat_any ix h1 iy h2]
      exact hq.here hm (.bl _) q
  | _ => cases ix <;> exact q.elim
/-! ### d[k] -/
def ixKD : D → D → DH → KD → Prop
  | .ref l, y, M, Q => ∃ k kvs d, keyOf y = some k ∧ DicAt M l kvs ∧ valD kvs k = some d ∧ Q d M
  | _, _, _, _ => False
theorem d_ixK (hr : Room n X.A) (ha : PE X a (low X.K ta)) (hb : PE X b (low X.K tb)) (hs : NoSl b := by intro _ _; rfl) : PE X (.Subscript a b pos) (low X.K (eOp ixKD ta tb)) :=
  (pe_dget (hu_of hr) ha hb hs).imp fun σ H Q ⟨τ, M, Q', hs, hm, h, hq⟩ =>
    ⟨τ, M, _, hs, hm, h, fun x M1 vx H1 m1 e1 i1 h1 => ⟨τ, M1, _, hs.mono e1, m1, h1, fun y M2 vy H2 m2 e2 i2 h2 => by
      cases i1 with
      | ref l =>
        obtain ⟨k, kvs, d, hk, hl, hd, q⟩ := h2
        obtain ⟨kx, hx, hp⟩ := m2.dic hl
        obtain ⟨v, hv, iv⟩ := pkd_some hp hd
        have hy := key_is i2 hk
        subst hy
        exact ⟨l, v, rfl, .inl ⟨kx, k, hx, rfl, hv.symm⟩, hq d M2 v H2 m2 (e1.trans e2) iv q⟩
      | _ => exact h2.elim⟩⟩
/-! ### d[k] = v -/
def setKD : D → D → D → DH → (DH → Prop) → Prop
  | .ref l, y, d, M, Q => ∃ k kvs, keyOf y = some k ∧ M l = some (.dic kvs) ∧ kvs.length < sizeLine ∧ Q (updM M l (.dic (putD kvs k d)))
  | _, _, _, _, _ => False
def hSubK (to ti : TEd) : TGd := fun d τ M Q => to τ M fun x M1 => ti τ M1 fun y M2 => setKD x y d M2 fun M3 => Q τ M3
def rSetK : TSet := fun x y v H R => ∃ l H', x = .ref l ∧ DPut H l y v H' ∧ R H'
theorem set_dict (hr : Room n X.A) : PSet X rSetK := by
  intro pins s σ H o i v ov iv u Q I ro ri rv ⟨l, H', e, g, q⟩
  subst e
  cases ro
  exact d_setItem (hu_of hr) I g ri rv fun s' I' => ⟨H', I', q⟩
theorem g_subK {i : Expr} {to ti : TEd} (hr : Room n X.A) (ho : PE X o (low X.K to)) (hi : PE X i (low X.K ti))
    (ha : ∀ v, assign (.Subscript o i pos) X.env v = (do
      let ov ← holding [v] (eval o X.env)
      let iv ← holding [v, ov] (eval i X.env)
      standAt pos
      holding [v, ov, iv] (setItem ov iv v)
      release [v, ov, iv] []) := by intro _; rfl) : PG X (.Subscript o i pos) (lowG X.K (hSubK to ti)) :=
  (pg_sub ho hi (set_dict hr) ha).imp fun v σ H Q ⟨d, τ, M, Q', i, hs, hm, h, hq⟩ =>
    ⟨τ, M, _, hs, hm, h, fun x M1 vx H1 m1 e1 i1 h1 => ⟨τ, M1, _, hs.mono e1, m1, h1, fun y M2 vy H2 m2 e2 i2 h2 => by
      cases i1 with
      | ref l =>
        obtain ⟨k, kvs, hk, hl, hz, q⟩ := h2
        obtain ⟨kx, hx, hp⟩ := m2 l _ hl
        have hy := key_is i2 hk
        subst hy
        have e12 := e1.trans e2
        obtain ⟨m3, e3⟩ := m2.setK hx (pkd_put (k := k) hp (i.mono e12))
        exact ⟨l, _, rfl, DPut.k (k := k) hx (by rw [pkd_length hp]; exact hz), hq τ _ σ _ (hs.mono (e12.trans e3)) m3 (e12.trans e3) q⟩
      | _ => exact h2.elim⟩⟩
/-! ### d.get(k, x) -/
def isDic : D → DH → Prop
  | .ref l, M => ∃ kvs, DicAt M l kvs
  | _, _ => False
def getKD : D → D → D → DH → KD → Prop
  | .ref l, y, z, M, Q => ∃ k kvs, keyOf y = some k ∧ DicAt M l kvs ∧ Q ((valD kvs k).getD z) M
  | _, _, _, _, _ => False
def eGet2 (td ty tx : TEd) : TEd := fun τ M Q => td τ M fun x M1 => isDic x M1 ∧ ty τ M1 fun y M2 => tx τ M2 fun z M3 => getKD x y z M3 Q
theorem d_get2D (hr : Room n X.A) (ho : PE X o (low X.K td)) (he : PE X e (low X.K ty)) (hf : PE X f (low X.K tx)) (m : M2 X o "get" apos e f cpos := by exact ⟨rfl, rfl, rfl, rfl⟩) : PE X (.Call (.Attribute o "get" apos) [e, f] [] cpos) (low X.K (eGet2 td ty tx)) :=
  (pe_dget2 (hu_of hr) ho he hf m).imp fun σ H Q ⟨τ, M, Q', hs, hm, h, hq⟩ =>
    ⟨τ, M, _, hs, hm, h, fun x M1 vx H1 m1 e1 i1 ⟨h0, h1⟩ => by
      cases i1 with
      | ref l =>
        obtain ⟨kvs, hl⟩ := h0
        obtain ⟨kx, hx, hp⟩ := m1.dic hl
        refine ⟨l, rfl, .inl ⟨kx, hx⟩, τ, M1, _, hs.mono e1, m1, h1, fun y M2 vy H2 m2 e2 i2 h2 => ⟨τ, M2, _, hs.mono (e1.trans e2), m2, h2, fun z M3 vz H3 m3 e3 i3 h3 => ?_⟩⟩
        obtain ⟨k, kvs', hk, hl', q⟩ := h3
        obtain ⟨kx', hx', hp'⟩ := m3.dic hl'
        have hy := key_is i2 hk
        subst hy
        refine ⟨valV kx' k, .inl ⟨kx', k, hx', rfl, rfl⟩, hq _ M3 _ H3 m3 (e1.trans (e2.trans e3)) ?_ q⟩
        cases ev : valD kvs' k with
        | none => rw [pkd_none hp' ev]; exact i3
        | some d => obtain ⟨v, h4, h5⟩ := pkd_some hp' ev; rw [h4]; exact h5
      | _ => exact h0.elim⟩
/-! ### len(d), list(d) -/
def lenKD : List D → DH → KD → Prop
  | [.ref l], M, Q => ∃ kvs, DicAt M l kvs ∧ Q (.int kvs.length) M
  | _, _, _ => False
theorem cd_lenK : CallD X (.builtin "len") lenKD := by
  intro pins s σ H vs us Q I r ⟨ds, M, Q', iss, hm, q, hq⟩
  match ds, q, iss with
  | [.ref l], q, iss =>
    obtain ⟨v, rfl, i⟩ := iss1 iss
    cases i
    obtain ⟨kvs, hl, q⟩ := q
    obtain ⟨kx, hx, hp⟩ := hm.dic hl
    obtain ⟨u, rfl, rx⟩ := vals1 r
    cases rx
    exact d_len I hx fun t s' I' => ⟨.int kx.length, H, I', ⟨t, rfl⟩, hq.here hm (.int _) (by rw [pkd_length hp]; exact q)⟩
def listKD : List D → DH → KD → Prop
  | [.ref l], M, Q => ∃ kvs, DicAt M l kvs ∧ ∀ p, M p = none → Q (.ref p) (updM M p (.lst (kvs.map fun kv => keyD kv.1)))
  | _, _, _ => False
theorem vals_by : ∀ {xs : List V} {us : List Value}, us.length = xs.length → (∀ (j : Nat) x u, xs[j]? = some x → us[j]? = some u → RelV x u) → Vals xs us
  | [], [], _, _ => .nil
  | [], _ :: _, h, _ => by simp at h
  | _ :: _, [], h, _ => by simp at h
  | x :: xs, u :: us, h, r => .cons (r 0 x u rfl rfl) (vals_by (by simpa using h) fun j y w e1 e2 => r (j + 1) y w (by simpa using e1) (by simpa using e2))
theorem keys_is {K : PySem.W.Frag} {H H' : Hp} : ∀ {kx : List (Key × V)} {kvs : List (Key × D)}, PKD K H kx kvs → Iss K H' (kx.map fun kv => kV kv.1) (kvs.map fun kv => keyD kv.1)
  | _, _, .nil => .nil
  | (k, v) :: _, (k', d) :: _, .cons h t => by
    have e : k = k' := h.1
    subst e
    refine .cons ?_ (keys_is t)
    cases k with
    | inl i => exact .int i
    | inr x => exact .str x
theorem cd_listK (hc : X.calm = true) : CallD X (.type "list") listKD := by
  intro pins s σ H vs us Q I r ⟨ds, M, Q', iss, hm, q, hq⟩
  match ds, q, iss with
  | [.ref l], q, iss =>
    obtain ⟨v, rfl, i⟩ := iss1 iss
    cases i
    obtain ⟨kvs, hl, q⟩ := q
    obtain ⟨kx, hx, hp⟩ := hm.dic hl
    obtain ⟨u, rfl, rx⟩ := vals1 r
    cases rx
    obtain ⟨z, hd, vs, rel, dd⟩ := dk_rd I.hok hx
    obtain ⟨ep, hat⟩ := dd.dictAt
    have hf : H s.heap.objs.size = none := I.fresh
    refine PySem.W.kdl_call (PySem.W.kdl_dict hd) (I.ok.hd hc) hat (by rw [← rel.length]; exact z) fun h' tk acc' c' kp e hacc => ?_
    have hv : Vals (kx.map fun kv => kV kv.1) acc'.toList := by
      refine vals_by (by rw [Array.length_toList, hacc.1, List.length_map, rel.length]) fun j x w e1 e2 => ?_
      obtain ⟨k, y, h1, h2⟩ := hacc.2 j w (by rw [← Array.getElem?_toList]; exact e2)
      rw [List.getElem?_map] at e1
      cases e3 : kx[j]? with
      | none => rw [e3] at e1; cases e1
      | some pr =>
        rw [e3] at e1
        cases e1
        have e4 : (kx.map (·.1))[j]? = some pr.1 := by rw [List.getElem?_map, e3]; rfl
        rw [rel.keys, List.getElem?_map, h1] at e4
        have e5 : k = pr.1 := Option.some.inj e4
        subst e5
        show RelV (kV pr.1) w
        rcases keyIs_shape h2 with ⟨i, t, e6, rfl⟩ | ⟨i, t, e6, rfl⟩
        · rw [e6]; exact ⟨t, rfl⟩
        · rw [e6]; exact ⟨t, rfl⟩
    refine ⟨.ref s.heap.objs.size, _, I.laid (t' := tk) kp (Nat.le_refl _) (show ObjOk X.prog X.w _ h' _ (.lst (kx.map fun kv => kV kv.1)) from ⟨by rw [List.length_map]; exact z, acc'.toList, c', hv, by rw [Array.toArray_toList]; exact e⟩), rfl, ?_⟩
    exact hq _ _ _ _ (hm.newL hf (keys_is hp)) (ext_new hf) (.ref _) (q _ (hm.free hf))
end
end DL

/-! enumerate of a tuple or a list, for loops. -/
namespace DL
open PySem PySem.Spec PyProof.Rows L2
section
variable {prog : Program} {w : World} {A : Around} {E : Value → Shared → Prop} {z : Shared}
theorem nextOf_tup {j u : Addr} {i : Nat} {ys : Array Value} {x : Value} {Q : Value → Shared → Prop} (hj : z.heap.IsTupleIter j u i) (hu : z.heap.IsTuple u ys) (hx : ys[i]? = some x)
    (hQ : ∀ g, g.IsTupleIter j u (i + 1) → Heap.SameBut j z.heap g → Q x { z with heap := g }) : wpAny (model prog w) A (Builtin.SmallTypes.nextOf (.ref j)) Q E z := by
  obtain ⟨o, ho, hc, hd⟩ := id hj
  obtain ⟨o2, ho2, _, n2, hd2⟩ := hu
  unfold Builtin.SmallTypes.nextOf
  refine wpAny_bind (wpAny_callSpecial?_slot (name := Str.ofString "__next__") hj.typeIs PySem.F.slot_tuple_iterator_next (wpAny_call_entry PySem.F.slot_tuple_iterator_next hj.typeIs PySem.F.entry_tuple_iterator_next ?_ (PySem.F.args_tuple_iterator_next_1 _)))
  show wpAny _ _ (field (.ref j) 0 >>= _) _ _ z
  refine wpAny_bind (wpAny_field ho hd (x := .ref u) rfl ?_)
  show wpAny _ _ (if (Value.ref u == Value.none) = true then _ else _) _ _ z
  rw [if_neg (show ¬ ((Value.ref u == Value.none) = true) from Bool.false_ne_true)]
  show wpAny _ _ (field (.ref j) 1 >>= _) _ _ z
  refine wpAny_bind (wpAny_field ho hd (x := .int i 0) rfl ?_); show wpAny _ _ (seqItems? (.ref u) >>= _) _ _ z
  refine wpAny_bind (wpAny_seqItems ho2 hd2 ?_)
  simp only [Int.toNat_natCast, hx]
  refine wpAny_bind (wpAny_setField ho hd (by simp) (wpAny_pure ⟨x, rfl, wpAny_pure (hQ _ ⟨_, Heap.get?_update_self _ ho (Obj.isFreed_of_fields (Obj.data_mapFields hd _)), (Obj.cls_mapFields ..).trans hc, ?_⟩ (Heap.SameBut.update ..))⟩))
  rw [Obj.data_mapFields hd]; simp [rawInt]
theorem nextOf_tup_end {j u : Addr} {i : Nat} {ys : Array Value} {Q : Value → Shared → Prop} (hh : A.handled = none) (hj : z.heap.IsTupleIter j u i) (hu : z.heap.IsTuple u ys) (hx : ys[i]? = none)
    (hE : ∀ g e, Heap.ExtBut j z.heap g → (∃ o, g.get? e = some o ∧ o.cls = .type "StopIteration") → E (.ref e) { z with heap := g }) : wpAny (model prog w) A (Builtin.SmallTypes.nextOf (.ref j)) Q E z := by
  obtain ⟨o, ho, hc, hd⟩ := id hj
  obtain ⟨o2, ho2, _, n2, hd2⟩ := hu
  unfold Builtin.SmallTypes.nextOf
  refine wpAny_bind (wpAny_callSpecial?_slot (name := Str.ofString "__next__") hj.typeIs PySem.F.slot_tuple_iterator_next (wpAny_call_entry PySem.F.slot_tuple_iterator_next hj.typeIs PySem.F.entry_tuple_iterator_next ?_ (PySem.F.args_tuple_iterator_next_1 _)))
  show wpAny _ _ (field (.ref j) 0 >>= _) _ _ z
  refine wpAny_bind (wpAny_field ho hd (x := .ref u) rfl ?_)
  show wpAny _ _ (if (Value.ref u == Value.none) = true then _ else _) _ _ z
  rw [if_neg (show ¬ ((Value.ref u == Value.none) = true) from Bool.false_ne_true)]
  show wpAny _ _ (field (.ref j) 1 >>= _) _ _ z
  refine wpAny_bind (wpAny_field ho hd (x := .int i 0) rfl ?_); show wpAny _ _ (seqItems? (.ref u) >>= _) _ _ z
  refine wpAny_bind (wpAny_seqItems ho2 hd2 ?_)
  simp only [Int.toNat_natCast, hx]
  refine wpAny_bind (wpAny_rule (wpAny_bind (wpAny_setField ho hd (by simp) ?_))); show wpAny _ _ (newExc (.type "StopIteration") [] >>= _) _ _ _
  refine wpAny_bind ?_; simp only [newExc, newTuple]
  refine wpAny_bind (wpAny_newObj_type ?_ (by size_fits)); refine wpAny_bind (m := firstArgMember _ _) (wpAny_of_eq (a := Value.none) (by first | rfl | (simp only [firstArgMember]; rfl)) ?_)
  refine wpAny_newObj_type ?_ (by size_fits); simp only [raiseNew]; refine wpAny_bind (wpAny_handled ?_)
  first | rw [show A.in1.handled = none from hh]; skip | rw [hh]; skip
  refine wpAny_bind (wpAny_pure (wpAny_throw (hE _ _ (((Heap.SameBut.update ..).extBut.push _).push _) ⟨_, Heap.get?_push_size _ rfl, rfl⟩)))
def SeqB : Bool → Heap → Addr → Array Value → Prop
  | true, h, a, ys => h.IsTuple a ys
  | false, h, a, ys => h.IsList a ys
def IterB : Bool → Heap → Addr → Addr → Nat → Prop
  | true, h, j, a, i => h.IsTupleIter j a i
  | false, h, j, a, i => h.IsListIter j a i
def SqB (K : PySem.W.Frag) (H : Hp) (a : Addr) (xs : List V) : Bool → Prop
  | true => SqT K H a xs
  | false => SqL K H a xs
theorem IterB.keep {b : Bool} {h h' : Heap} {j a : Addr} {i : Nat} (x : IterB b h j a i) (k : ∀ o, h.get? j = some o → h'.get? j = some o) : IterB b h' j a i := by
  cases b with
  | true => obtain ⟨o, e, r⟩ := x; exact ⟨o, k o e, r⟩
  | false => obtain ⟨o, e, r⟩ := x; exact ⟨o, k o e, r⟩
theorem IterB.obj {b : Bool} {h : Heap} {j a : Addr} {i : Nat} (x : IterB b h j a i) : ∃ o, h.get? j = some o ∧ ∃ vs, o.data = .fields vs := by
  cases b with
  | true => obtain ⟨o, e, _, d⟩ := x; exact ⟨o, e, _, d⟩
  | false => obtain ⟨o, e, _, d⟩ := x; exact ⟨o, e, _, d⟩
theorem SeqB.keep {b : Bool} {h h' : Heap} {a : Addr} {ys : Array Value} (x : SeqB b h a ys) (k : ∀ o, h.get? a = some o → h'.get? a = some o) : SeqB b h' a ys := by
  cases b with
  | true => obtain ⟨o, e, r⟩ := x; exact ⟨o, k o e, r⟩
  | false => obtain ⟨o, e, r⟩ := x; exact ⟨o, k o e, r⟩
theorem SeqB.obj {b : Bool} {h : Heap} {a : Addr} {ys : Array Value} (x : SeqB b h a ys) : ∃ o, h.get? a = some o ∧ ∃ n, o.data = .seq ys n := by
  cases b with
  | true => obtain ⟨o, e, _, n, d⟩ := x; exact ⟨o, e, n, d⟩
  | false => obtain ⟨o, e, _, n, d⟩ := x; exact ⟨o, e, n, d⟩
theorem drawsB (b : Bool) (hh : A.handled = none) (j a : Addr) (hne : a ≠ j) (ys : Array Value) : Draws prog w A j [j, a] ys.size (fun i v => ys[i]? = some v) (fun i h => IterB b h j a i ∧ SeqB b h a ys) where
  live := fun _ _ st => let ⟨o, e, _⟩ := st.1.obj; ⟨o, e⟩
  frame := fun _ _ _ st k => ⟨st.1.keep fun o e => k j (by simp) o e, st.2.keep fun o e => k a (by simp) o e⟩
  item := fun i s Q E hi st hQ => by
    have hx : ys[i]? = some ys[i] := by simp [hi]
    cases b with
    | true => exact nextOf_tup st.1 st.2 hx fun g hg hs => hQ _ g s.toks hx ⟨hg, SeqB.keep (b := true) st.2 fun o e => (hs.2 a hne).trans e⟩ hs
    | false => exact wpAny_nextOf_list_item st.1 st.2 hx fun g hg hs => hQ _ g s.toks hx ⟨hg, SeqB.keep (b := false) st.2 fun o e => (hs.2 a hne).trans e⟩ hs
  done := fun s Q E st hE => by
    cases b with
    | true => exact nextOf_tup_end hh st.1 st.2 (by simp) hE
    | false => exact wpAny_nextOf_list_end hh st.1 st.2 (by simp) hE
theorem drawsC {it : Addr} {fp : List Addr} {n : Nat} {P : Nat → Value → Prop} {St : Nat → Heap → Prop} (D : Draws prog w A it fp n P St) (c : Nat) : Draws prog w A it fp (n + c) (fun i v => P (i - c) v) (fun i h => c ≤ i ∧ St (i - c) h) where
  live := fun i h st => D.live _ h st.2
  frame := fun i h h' st k => ⟨st.1, D.frame _ h h' st.2 k⟩
  item := fun i s Q E hi st hQ => D.item (i - c) s Q E (by omega) st.2 fun x h' tk p st' sb => hQ x h' tk p ⟨by omega, by rw [show i + 1 - c = i - c + 1 by omega]; exact st'⟩ sb
  done := fun s Q E st hE => D.done s Q E (by have z := st.2; rw [Nat.add_sub_cancel] at z; exact z) hE
theorem enum_newT (l : Addr) (ys : Array Value) (n : Nat) (dx : Option Addr) (sx : Array (Option Value)) :
    Meets (Builtin.«enumerate.__new__» ⟨[.type "enumerate", .ref l], []⟩) (fun _ R s => s.heap.get? l = some { cls := .type "tuple", dict := dx, data := .seq ys n, slots := sx } ∧
      R (.ok (.ret (.ref (s.heap.push { cls := .type "tuple_iterator", data := .fields #[.ref l, .int 0 0] }).objs.size)))
        { s with heap := (s.heap.push { cls := .type "tuple_iterator", data := .fields #[.ref l, .int 0 0] }).push { cls := .type "enumerate", data := .fields #[.none, .bool false, .ref s.heap.objs.size, rawInt 0, .none, .none] } }) :=
  .of_wp fun prog w A R s h => by
    obtain ⟨hp, g, d, tk, os⟩ := s
    obtain ⟨hl, h⟩ := h
    have hsub := sub_enumerate
    have hT : Heap.IsTuple (Shared.heap ⟨hp, g, d, tk, os⟩) l ys := ⟨_, hl, rfl, n, rfl⟩
    wp_walk using AutoSeq1.wpAny_loadPart' hl
    refine wpAny_stack_any fun st => wpAny_pure ?_; split
    · rename_i c _ _ _ _ _
      cases (c == Value.type "enumerate")
      · wp_walk using AutoSeq1.wpAny_loadPart' hl, wpAny_pyIter_tuple hT
        exact ⟨_, rfl, h⟩
      · wp_walk using AutoSeq1.wpAny_loadPart' hl, wpAny_pyIter_tuple hT
        exact ⟨_, rfl, h⟩
    · wp_walk using AutoSeq1.wpAny_loadPart' hl, wpAny_pyIter_tuple hT
      exact ⟨_, rfl, h⟩
theorem enum_call {b : Bool} {l : Addr} {ys : Array Value} {Q : Value → Shared → Prop} (hL : SeqB b z.heap l ys)
    (h : ∀ g, IsEnum g (z.heap.objs.size + 1) z.heap.objs.size 0 .none → IterB b g z.heap.objs.size l 0 → (∀ b o, z.heap.get? b = some o → g.get? b = some o) → Q (.ref (z.heap.objs.size + 1)) { z with heap := g }) :
    wpAny (model prog w) A (call (.type "enumerate") [.ref l]) Q E z := by
  cases b with
  | false => exact call_enumerate_list hL fun g h1 h2 _ h4 => h g h1 h2 h4
  | true =>
    obtain ⟨⟨c, dx, dt, sx⟩, hl, hc, n, hd⟩ := hL
    replace hc : c = .type "tuple" := hc
    replace hd : dt = .seq ys n := hd
    subst hc hd
    refine callType_new PySem.F.called_enumerate (by decide) (PySem.F.typeCall_enumerate_1 _) (PySem.F.newCall_enumerate_1 _) (fun obj => PySem.F.args_object_init_2 obj _) PySem.F.entry_enumerate_new (enum_newT l ys n dx sx) ⟨hl, ?_⟩
    have hz : (z.heap.push { cls := .type "tuple_iterator", data := .fields #[.ref l, .int 0 0] }).objs.size = z.heap.objs.size + 1 := Heap.size_push ..
    show _ ∧ _
    rw [hz]
    have he : IsEnum ((z.heap.push { cls := .type "tuple_iterator", data := .fields #[.ref l, .int 0 0] }).push { cls := .type "enumerate", data := .fields #[.none, .bool false, .ref z.heap.objs.size, rawInt 0, .none, .none] }) (z.heap.objs.size + 1) z.heap.objs.size 0 .none := by
      have q := Heap.get?_push_size (z.heap.push { cls := .type "tuple_iterator", data := .fields #[.ref l, .int 0 0] }) (o := { cls := .type "enumerate", data := .fields #[.none, .bool false, .ref z.heap.objs.size, rawInt 0, .none, .none] }) rfl
      rw [hz] at q
      exact q
    exact ⟨⟨_, he, rfl⟩, h _ he (show Heap.IsTupleIter _ _ _ _ from ⟨_, Heap.get?_push_of_some _ (Heap.get?_push_size _ rfl), rfl, rfl⟩) fun b o x => Heap.get?_push_of_some _ (Heap.get?_push_of_some _ x)⟩
end
/-- the pairs (c + i, thing) -/
def Ite (K : PySem.W.Frag) (b : Bool) (c : Nat) (a : Addr) : It :=
  ⟨fun i H => ∃ xs x, SqB K H a xs b ∧ xs[i]? = some x, fun i H x H' => ∃ T, H T = none ∧ x = .ref T ∧ ∀ xs, SqB K H a xs b → ∃ y, xs[i]? = some y ∧ H' = upd H T (.tup [.int ((c + i : Nat) : Int), y]), fun i H => ∃ xs, SqB K H a xs b ∧ xs.length = i⟩
theorem seqB_at {X : Cx} {pins : List (Addr × Obj)} {σ : St} {H : Hp} {s : Shared} {b : Bool} {a : Addr} {xs : List V} (I : Inv X pins σ H s) (h : SqB X.K H a xs b) : ∃ its, Vals xs its ∧ SeqB b s.heap a its.toArray := by
  cases b with
  | true => obtain ⟨its, r, p, _⟩ := I.tuple h; exact ⟨its, r, p⟩
  | false => obtain ⟨its, r, p, _⟩ := I.list h; exact ⟨its, r, p.isList⟩
theorem sqB_inj {X : Cx} {pins : List (Addr × Obj)} {σ : St} {H : Hp} {s : Shared} {b : Bool} {a : Addr} {xs ys : List V} (I : Inv X pins σ H s) (h : SqB X.K H a xs b) (h' : SqB X.K H a ys b) : xs = ys := by
  cases b with
  | true => exact I.tuple_inj h h'
  | false => exact I.list_inj h h'
theorem turn_enum {P : Program} {w : World} {K : PySem.W.Frag} {elts : List Expr} {k : Nat} {tpos : Pos} (b : Bool) (c : Nat) (a e j : Addr) (hej : e ≠ j) : Turn P w K (.Tuple elts k tpos) (Ite K b c a) [e, j] e (fun i h => (∃ old, IsEnum h e j ((i + c : Nat) : Int) old) ∧ IterB b h j a i) where
  mem := by simp
  obj := fun i h st x hx => by
    obtain ⟨⟨old, he⟩, hi⟩ := st
    rcases List.mem_cons.mp hx with rfl | hx
    · exact ⟨_, he, fun v z => by
        have z' : Data.fields _ = Data.cell v := z
        cases z'⟩
    · cases List.mem_singleton.mp hx
      obtain ⟨o, e1, vs, e2⟩ := hi.obj
      exact ⟨o, e1, fun v z => by rw [e2] at z; cases z⟩
  keep := fun i h h' st kp => ⟨let ⟨old, he⟩ := st.1; ⟨old, kp e (by simp) _ he⟩, st.2.keep fun o q => kp j (by simp) o q⟩
  item := by
    intro X hP hw hK hc i pins s σ H E I hf st hg
    subst hP hw hK
    obtain ⟨xs, x, hq, hx⟩ := hg
    obtain ⟨its, rv, p⟩ := seqB_at I hq
    obtain ⟨u, hu, ru⟩ := rv.get hx
    obtain ⟨⟨old, he⟩, hi⟩ := st
    obtain ⟨f0, f1, f2, f3, f4, f5⟩ := hf e (by simp)
    obtain ⟨g0, g1, g2, g3, g4, g5⟩ := hf j (by simp)
    obtain ⟨oa, ha1, na, ha2⟩ := p.obj
    have hea : e ≠ a := fun z => by
      subst z
      have he' := Option.some.inj (ha1.symm.trans he)
      subst he'
      cases ha2
    have haj : a ≠ j := fun z => by
      subst z
      obtain ⟨o, e1, vs, e2⟩ := hi.obj
      rw [ha1] at e1
      cases e1
      rw [ha2] at e2
      cases e2
    have hlt : i < its.toArray.size := by
      rw [List.size_toArray]
      exact (List.getElem?_eq_some_iff.mp hu).1
    refine wpAny_pyNext_enum_itemD (drawsC (drawsB (A := X.A.in1) b (I.ok.hd hc) j a haj its.toArray) c) he ⟨Nat.le_add_left _ _, by rw [Nat.add_sub_cancel]; exact ⟨hi, p⟩⟩ (by omega) hej (by simp [hej, hea]) fun y h1 tk hy ho hst hT hsz hk => ?_
    rw [Nat.add_sub_cancel] at hy
    have hyu : y = u := by
      have : its.toArray[i]? = some u := by simpa using hu
      rw [this] at hy
      exact (Option.some.inj hy).symm
    subst hyu
    refine ⟨_, rfl, wpAny_letOwnedTupleGo_enum (s := { s with heap := h1, toks := tk + 1 }) ho fun h2 he2 hs2 => ?_⟩
    have hi2 : IterB b h1 j a (i + 1) := by have z := hst.2.1; rw [show i + c + 1 - c = i + 1 by omega] at z; exact z
    have hj2 : IterB b h2 j a (i + 1) := hi2.keep fun o q => (hs2.2 j (Ne.symm hej)).trans q
    obtain ⟨oj, hoj, vj, dj⟩ := hj2.obj
    obtain ⟨oj0, hoj0, vj0, dj0⟩ := hi.obj
    have he' : h2.get? e = some { cls := .type "enumerate", dict := none, data := .fields #[.none, .bool false, .ref j, rawInt (((i + c : Nat) : Int) + 1), .none, y], slots := #[] } := he2
    let oe : Obj := { cls := .type "enumerate", dict := none, data := .fields #[.none, .bool false, .ref j, rawInt (((i + c : Nat) : Int) + 1), .none, y], slots := #[] }
    have s1 : Heap.SameBut e s.heap (s.heap.update e fun _ => oe) := Heap.SameBut.update ..
    have s2 : Heap.SameBut j (s.heap.update e fun _ => oe) ((s.heap.update e fun _ => oe).update j fun _ => oj) := Heap.SameBut.update ..
    have q1 : (s.heap.update e fun _ => oe).get? e = some oe := Heap.get?_update_self _ he (Obj.isFreed_of_fields rfl)
    have q2 : ((s.heap.update e fun _ => oe).update j fun _ => oj).get? j = some oj := Heap.get?_update_self _ ((s1.2 j (Ne.symm hej)).trans hoj0) (Obj.isFreed_of_fields dj)
    have I1 : Inv X pins σ H { s with heap := s.heap.update e fun _ => oe, toks := s.toks } := I.turned (fun b o hb q => (s1.2 b hb).trans q) f0 f1 f3 f4 f5
    have I2 : Inv X pins σ H { s with heap := (s.heap.update e fun _ => oe).update j fun _ => oj, toks := s.toks } := I1.turned (fun b o hb q => (s2.2 b hb).trans q) g0 g1 g3 g4 g5
    have hT2 : h2.get? s.heap.objs.size = some { cls := .type "tuple", data := .seq #[.int ((i + c : Nat) : Int) tk, y] } := (hs2.2 _ (Nat.ne_of_gt (Heap.lt_size he))).trans hT
    have I3 : Inv X pins σ (upd H s.heap.objs.size (.tup [.int ((c + i : Nat) : Int), x])) { s with heap := h2, toks := tk + 1 } := by
      refine I2.laid (t' := tk + 1) (fun b o q => ?_) (by show _ ≤ _; rw [s2.1, s1.1]; exact Nat.le_refl _) (show ObjOk X.prog X.w _ h2 _ (.tup [.int ((c + i : Nat) : Int), x]) from ⟨by show 2 ≤ sizeLine; decide, [.int ((i + c : Nat) : Int) tk, y], .cons ⟨tk, by rw [Nat.add_comm]⟩ (.cons ru .nil), _, hT2, rfl, _, rfl⟩)
      by_cases hbj : b = j
      · subst hbj
        rw [q2] at q
        cases q
        exact hoj
      · rw [s2.2 b hbj] at q
        by_cases hbe : b = e
        · subst hbe
          rw [q1] at q
          cases q
          exact he'
        · rw [s1.2 b hbe] at q
          exact (hs2.2 b hbe).trans (hk b o hbe hbj q)
    have hfr : H s.heap.objs.size = none := I.fresh
    refine ⟨.ref s.heap.objs.size, _, I3, rfl, ⟨_, hfr, rfl, fun ys hy => ⟨x, by rw [sqB_inj I hy hq]; exact hx, rfl⟩⟩, ⟨⟨y, ?_⟩, hj2⟩, fun b hb => ?_⟩
    · have en : ((i + 1 + c : Nat) : Int) = ((i + c : Nat) : Int) + 1 := by omega
      rw [en]
      exact he2
    · rcases List.mem_cons.mp hb with rfl | hb
      · rw [upd_ne (Nat.ne_of_lt (Heap.lt_size he))]; exact f0
      · cases List.mem_singleton.mp hb
        rw [upd_ne (Nat.ne_of_lt (Heap.lt_size hoj0))]; exact g0
  done := by
    intro X hP hw hK hc i pins s σ H E I hf st hg
    subst hP hw hK
    obtain ⟨xs, hq, hx⟩ := hg
    subst hx
    obtain ⟨its, rv, p⟩ := seqB_at I hq
    obtain ⟨⟨old, he⟩, hi⟩ := st
    obtain ⟨g0, g1, g2, g3, g4, g5⟩ := hf j (by simp)
    obtain ⟨oa, ha1, na, ha2⟩ := p.obj
    have haj : a ≠ j := fun z => by
      subst z
      obtain ⟨o, e1, vs, e2⟩ := hi.obj
      rw [ha1] at e1
      cases e1
      rw [ha2] at e2
      cases e2
    have hn : its.toArray.size = xs.length := by rw [List.size_toArray, rv.length]
    exact wpAny_pyNext_enum_endD (drawsC (drawsB (A := X.A.in1) b (I.ok.hd hc) j a haj its.toArray) c) he ⟨Nat.le_add_left _ _, by rw [Nat.add_sub_cancel, hn]; exact ⟨hi, p⟩⟩ fun h' eb => ⟨rfl, I.turned (t' := s.toks) (fun b o hb q => eb b o hb q) g0 g1 g3 g4 g5⟩
  self := fun A i s Q E st h => by
    obtain ⟨⟨old, he⟩, _⟩ := st
    exact wpAny_pyIter_enum he h
section
variable {X : Cx} {elts : List Expr} {k : Nat} {tpos pos : Pos} {g : TGd} {tb : TSd}
def iEnum (K : PySem.W.Frag) (ta : TA) : TI := fun σ H R => ta σ H fun vs H1 => ∃ a b, vs = [.ref a] ∧ (∃ xs, SqB K H1 a xs b) ∧ R (Ite K b 0 a) H1
theorem pi_enum {a : Expr} {ta : TA} {p cpos : Pos} (hg : Gl X "enumerate") (hm : X.mg "enumerate" = none) (ha : PA X [a] ta) (hs : starEach [a] X.env = [(false, eval a X.env)] := by rfl) : PI X (.Tuple elts k tpos) (.Call (.Name "enumerate" p) [a] [] cpos) (iEnum X.K ta) := by
  intro pins s σ H R I h
  refine Call_ (ld_blt I hg hm boot_enumerate (PyProof.Rows.callWith_type1 (thn (ha cpos pins s σ H _ I h) fun us s1 ⟨vs, H1, I1, r1, q1⟩ => ?_) hs rfl))
  obtain ⟨l, b, e, ⟨xs, hq⟩, q⟩ := q1
  subst e
  cases r1 with
  | cons r rr =>
    cases rr
    cases r
    obtain ⟨its, rv, p⟩ := seqB_at I1 hq
    refine enum_call p fun g he hi hk => wpAny_pyIter_enum (s := { s1 with heap := g }) he ?_
    refine ⟨s1.heap.objs.size + 1, [s1.heap.objs.size + 1, s1.heap.objs.size], _, _, H1, rfl, I1.kept (t' := s1.toks) hk, turn_enum b 0 l _ _ (Nat.succ_ne_self _), ⟨⟨_, by simpa using he⟩, hi⟩, fun x hx => ?_, q⟩
    rcases List.mem_cons.mp hx with rfl | hx
    · exact I1.fpOk (Nat.le_succ _) (I1.hok.fresh (Nat.le_succ _))
    · cases List.mem_singleton.mp hx
      exact I1.fpOk (Nat.le_refl _) (I1.hok.fresh (Nat.le_refl _))
def enumL : Nat → List D → List D
  | _, [] => []
  | c, d :: ds => .tup [.int (c : Int), d] :: enumL (c + 1) ds
theorem enumL_len : ∀ (ds : List D) (c : Nat), (enumL c ds).length = ds.length
  | [], _ => rfl
  | d :: ds, c => by rw [enumL, List.length_cons, enumL_len ds (c + 1), List.length_cons]
theorem enumL_get : ∀ {ds : List D} {c i : Nat} {d : D}, ds[i]? = some d → (enumL c ds)[i]? = some (.tup [.int ((c + i : Nat) : Int), d])
  | [], _, _, _, e => by simp at e
  | d :: ds, c, 0, _, e => by simp at e; subst e; rfl
  | d :: ds, c, i + 1, _, e => by
    have := enumL_get (ds := ds) (c := c + 1) (i := i) (by simpa using e)
    rw [enumL, List.getElem?_cons_succ, this, show c + 1 + i = c + (i + 1) by omega]
def forED (c : Nat) (g : TGd) (tb : TSd) (E : EndsD) (τ : DSt) : List D → DH → Prop
  | [.tup ds], M => walkD (enumL c ds) (fun _ => True) g tb E τ M
  | [.ref l], M => ∃ ds, M l = some (.lst ds) ∧ walkD (enumL c ds) (fun M => M l = some (.lst ds)) g tb E τ M
  | _, _ => False
def sForE (c : Nat) (ta : TAd) (g : TGd) (tb : TSd) : TSd := fun E τ M => ta τ M fun vs M1 => forED c g tb E τ vs M1
theorem enum_walk {K : PySem.W.Frag} {b : Bool} {c : Nat} {a : Addr} {ds : List D} {st : DH → Prop} {D' : EndsD} {E : Ends} {τ : DSt} {σ : St} {M : DH} {H H1 : Hp} (hd : LowD K H D' E) (e1 : Ext K H H1) (s1 : SAbs K τ σ H1) (m1 : HAbs K M H1)
    (hg : ∀ M2 H2, HAbs K M2 H2 → Ext K H1 H2 → st M2 → ∃ xs, SqB K H2 a xs b ∧ Iss K H2 xs ds) (h : walkD (enumL c ds) st g tb D' τ M) :
    ∃ W : Nat → Nat → St → Hp → Prop, (∃ m, W 0 m σ H1) ∧ ∀ i m σ H, W i m σ H →
      ((Ite K b c a).stop i H ∧ E.nx σ H) ∨ ((Ite K b c a).go i H ∧ ∃ N : St → Hp → Prop, (∀ σ' H', N σ' H' → ∃ m', m' < m ∧ W (i + 1) m' σ' H') ∧ ∀ x H', (Ite K b c a).yld i H x H' → lowG K g x σ H' fun σ2 H2 => lowS K tb { E with nx := N, ct := N, bk := E.nx } σ2 H2) := by
  obtain ⟨W, w0, stay, turn, done⟩ := h
  rw [enumL_len] at done
  refine ⟨fun i m σ2 H2 => m = ds.length - i ∧ i ≤ ds.length ∧ ∃ τ2 M2, SAbs K τ2 σ2 H2 ∧ HAbs K M2 H2 ∧ Ext K H1 H2 ∧ W i τ2 M2, ⟨ds.length, by simp, Nat.zero_le _, τ, M, s1, m1, Ext.refl H1, w0⟩, ?_⟩
  rintro i m σ2 H2 ⟨rfl, hi, τ2, M2, s2, m2, e2, w2⟩
  obtain ⟨xs, hq, iss⟩ := hg M2 H2 m2 e2 (stay i τ2 M2 (by rw [enumL_len]; exact hi) w2)
  by_cases hlt : i < ds.length
  · obtain ⟨v, ev, iv⟩ := iss.get (List.getElem?_eq_getElem hlt)
    refine .inr ⟨⟨xs, v, hq, ev⟩, fun σ3 H3 => ∃ τ3 M3, SAbs K τ3 σ3 H3 ∧ HAbs K M3 H3 ∧ Ext K H1 H3 ∧ W (i + 1) τ3 M3, fun σ3 H3 p => ⟨ds.length - (i + 1), by omega, rfl, hlt, p⟩, fun x H' y => ?_⟩
    obtain ⟨T, hT, rfl, hall⟩ := y
    obtain ⟨y, ey, rfl⟩ := hall xs hq
    rw [ev] at ey
    cases ey
    exact low_turn (hd.ext e1) (e2.trans (ext_new hT)) (.tup (SqT.of upd_same) (.cons (.int _) (.cons (iv.mono (ext_new hT)) .nil))) (s2.mono (ext_new hT)) (m2.new hT) (turn i _ τ2 M2 (enumL_get (List.getElem?_eq_getElem hlt)) w2)
  · have e : i = ds.length := by omega
    subst e
    exact .inl ⟨⟨xs, hq, iss.length⟩, hd.nx τ2 M2 σ2 H2 s2 m2 (e1.trans e2) (done τ2 M2 w2)⟩
theorem s_forE {a : Expr} {ta : TAd} {body : List Stmt} {p cpos : Pos} (hp : PassesOwn (model X.prog X.w) X.A X.env X.xe) (hc : X.calm = true) (hm : X.mg "enumerate" = none) (ha : PA X [a] (lowA X.K ta)) (hg : PG X (.Tuple elts k tpos) (lowG X.K g)) (hb : PSs X body (lowS X.K tb)) (hgl : Gl X "enumerate" := by rfl)
    (hst : starEach [a] X.env = [(false, eval a X.env)] := by rfl) (hs : ∀ x, foldedSetIterable (.Call (.Name "enumerate" p) [a] [] cpos) X.env x = pure x := by intro _; rfl) : PS X (.For (.Tuple elts k tpos) (.Call (.Name "enumerate" p) [a] [] cpos) body [] pos) (lowS X.K (sForE 0 ta g tb)) :=
  (ps_for hp hc (pi_enum hgl hm ha hst) hg hb hs).imp fun D σ H ⟨τ, M, D', hs, hm, h, hd⟩ => ⟨τ, M, _, hs, hm, h, fun ds M1 vs H1 m1 e1 i1 h1 => by
    match ds, h1, i1 with
    | [.tup ds], h1, i1 =>
      obtain ⟨v, rfl, i⟩ := iss1 i1
      cases i with
      | @tup l xs _ hx hxs => exact ⟨l, true, rfl, ⟨xs, hx⟩, enum_walk hd e1 (hs.mono e1) m1 (fun M2 H2 m2 e2 _ => ⟨xs, e2.t _ _ hx, hxs.mono e2⟩) h1⟩
    | [.ref l], h1, i1 =>
      obtain ⟨v, rfl, i⟩ := iss1 i1
      cases i with
      | ref =>
        obtain ⟨ds, hl, w⟩ := h1
        obtain ⟨xs, hx, hxs⟩ := m1.lst hl
        exact ⟨l, false, rfl, ⟨xs, hx⟩, enum_walk hd e1 (hs.mono e1) m1 (fun M2 H2 m2 e2 hl2 => m2.lst hl2) w⟩⟩
end
end DL

/-! for over a dict. -/
namespace DL
open PySem PySem.Spec PyProof.Rows L2
section
variable {X : Cx} {pins : List (Addr × Obj)} {σ : St} {H : Hp} {s : Shared}
/-- what is told of a thing changes, the thing does not -/
theorem inv_swap {d : Addr} {u v : HO} (I : Inv X pins σ H s) (hd : H d = some u) (n1 : ∀ xs, X.H₀ d ≠ some (.tup xs)) (n2 : ∀ o x, X.H₀ d ≠ some (.frz o x)) (n3 : ∀ ps, X.H₀ d ≠ some (.tbl ps)) (n4 : ∀ xs, u ≠ .tup xs) (n5 : ∀ a, u ≠ .own a)
    (new : ObjOk X.prog X.w (upd H d v) s.heap d v) : Inv X pins σ (upd H d v) s := by
  have hne : ∀ b, H b = none → b ≠ d := fun b e z => by subst z; rw [hd] at e; cases e
  refine ⟨I.ok, I.os, I.bare, ⟨I.base.keep, I.base.slot, fun b o e n hx => ?_, I.base.there, fun b xs e => ?_, fun b o x e => ?_, fun b ps e => ?_⟩, I.loc, I.cell, ?_, fun x c e => ?_, fun p hp => ?_, fun b o e => ?_, I.len⟩
  · have z := I.base.free b o e n hx
    rw [upd_ne (hne b z)]; exact z
  · rw [upd_ne (by intro z; subst z; exact n1 xs e)]; exact I.base.tups b xs e
  · rw [upd_ne (by intro z; subst z; exact n2 o x e)]; exact I.base.frzs b o x e
  · obtain ⟨more, q⟩ := I.base.tbls b ps e
    exact ⟨more, by rw [upd_ne (by intro z; subst z; exact n3 ps e)]; exact q⟩
  · rw [upd_ne (hne _ I.free)]; exact I.free
  · rw [upd_ne (hne _ (I.freeC x c e))]; exact I.freeC x c e
  · obtain ⟨h1, h2, h3⟩ := I.pin p hp
    exact ⟨h1, by rw [upd_ne (hne _ h2)]; exact h2, h3⟩
  · by_cases z : b = d
    · subst z; rw [upd_same] at e; cases e; exact new
    · rw [upd_ne z] at e
      exact (I.hok b o e).stay (fun c w _ q => q) (fun c q => by rw [upd_ne (by intro y; subst y; rw [hd] at q; cases q; exact n5 _ rfl)]; exact q) fun c xs q => by rw [upd_ne (by intro y; subst y; rw [hd] at q; cases q; exact n4 _ rfl)]; exact q
theorem inv_freeze {d : Addr} {kx : List (Key × V)} (I : Inv X pins σ H s) (hd : H d = some (.dK kx)) : ∃ (o : Obj) (vs : List (Key × Value)) (ep : Nat), s.heap.get? d = some o ∧ KV kx vs ∧ s.heap.DictAt (mixKind X.prog X.w) d vs ep ∧ (∃ es, o.data = .dict es ep) ∧ (d == sysModules) = false ∧
    (∀ o x, X.H₀ d ≠ some (.frz o x)) ∧ Inv X pins σ (upd H d (.frz o (.dK kx))) s := by
  obtain ⟨z, y, vs, r, o, es, ep, h1, h2⟩ := dk_of I.hok hd
  have n2 : ∀ o x, X.H₀ d ≠ some (.frz o x) := fun o x e => by have := I.base.frzs d o x e; rw [hd] at this; cases this
  refine ⟨o, vs, ep, h1, r, ⟨o, es, h1, h2⟩, ⟨es, h2.2.1⟩, y, n2, inv_swap I hd (fun xs e => ?_) n2 (fun ps e => ?_) (fun xs e => nomatch e) (fun a e => nomatch e) ?_⟩
  · have := I.base.tups d xs e; rw [hd] at this; cases this
  · obtain ⟨more, this⟩ := I.base.tbls d ps e; rw [hd] at this; cases this
  · exact ⟨h1, z, y, vs, r, o, es, ep, h1, h2⟩
theorem inv_thaw {d : Addr} {o : Obj} {kx : List (Key × V)} (I : Inv X pins σ H s) (hd : H d = some (.frz o (.dK kx))) (n2 : ∀ o x, X.H₀ d ≠ some (.frz o x)) : Inv X pins σ (upd H d (.dK kx)) s := by
  obtain ⟨h1, h2⟩ := I.hok d _ hd
  refine inv_swap I hd (fun xs e => ?_) n2 (fun ps e => ?_) (fun xs e => nomatch e) (fun a e => nomatch e) h2
  · have := I.base.tups d xs e; rw [hd] at this; cases this
  · obtain ⟨more, this⟩ := I.base.tbls d ps e; rw [hd] at this; cases this
end
def Itk (d : Addr) (o : Obj) (kx : List (Key × V)) : It :=
  ⟨fun i H => H d = some (.frz o (.dK kx)) ∧ i < kx.length, fun i H x H' => H' = H ∧ ∃ k v, kx[i]? = some (k, v) ∧ x = kV k, fun i H => H d = some (.frz o (.dK kx)) ∧ i = kx.length⟩
theorem frz_at {X : Cx} {pins : List (Addr × Obj)} {σ : St} {H : Hp} {s : Shared} {d : Addr} {o : Obj} {kx : List (Key × V)} {es : Array DictEntry} {ep : Nat} (I : Inv X pins σ H s) (hd : H d = some (.frz o (.dK kx))) (ho : o.data = .dict es ep) : ∃ vs, KV kx vs ∧ s.heap.DictAt (mixKind X.prog X.w) d vs ep := by
  obtain ⟨h1, z, y, vs, r, o', es', ep', h2, h3, h4, h5⟩ := I.hok d _ hd
  rw [h1] at h2
  cases h2
  rw [ho] at h4
  cases h4
  exact ⟨vs, r, o, es, h1, h3, ho, h5⟩
theorem key_rel {P : Program} {w : World} {k : Key} {v : Value} (h : (mixKind P w).is k v = true) : RelV (kV k) v := by
  rcases keyIs_shape h with ⟨i, t, e, rfl⟩ | ⟨i, t, e, rfl⟩
  · rw [e]; exact ⟨t, rfl⟩
  · rw [e]; exact ⟨t, rfl⟩
theorem turn_dict {P : Program} {w : World} {K : PySem.W.Frag} {tg : Expr} {d it : Addr} {o : Obj} {kx : List (Key × V)} {es : Array DictEntry} {ep : Nat} (ho : o.data = .dict es ep) : Turn P w K tg (Itk d o kx) [it] it (fun i h => h.IsKeyIter it d i kx.length ep) where
  mem := by simp
  obj := fun i h st b hb => by
    have e : b = it := by simpa using hb
    subst e
    obtain ⟨ob, e, c, dd⟩ := st
    exact ⟨ob, e, fun v z => by rw [dd] at z; cases z⟩
  keep := fun i h h' st k => st.at fun ob e => k it (by simp) ob e
  item := by
    intro X hP hw hK hc i pins s σ H E I hf st hg
    subst hP hw hK
    obtain ⟨hd, hi⟩ := hg
    obtain ⟨vs, rel, hat⟩ := frz_at I hd ho
    obtain ⟨f0, f1, f2, f3, f4, f5⟩ := hf it (by simp)
    have hne : d ≠ it := by intro z; subst z; rw [hd] at f0; cases f0
    have hlen : kx.length = vs.length := rel.length
    rw [hlen] at st hi
    refine (Walks.dictKeys (I.ok.hd hc) it d hne vs ep).item i s _ _ hi ⟨st, hat⟩ fun v h' tk hv st' kk => ?_
    obtain ⟨k, x, h1, h2⟩ := hv
    have I1 : Inv X pins σ H { s with heap := h', toks := tk } := I.turned (fun b ob hb e => kk b ob (by simpa using hb) e) f0 f1 f3 f4 f5
    obtain ⟨ob, e2, c2, d2⟩ := id st'.1
    have hk : (kx.map (·.1))[i]? = some k := by rw [rel.keys, List.getElem?_map, h1]; rfl
    rw [List.getElem?_map] at hk
    cases e3 : kx[i]? with
    | none => rw [e3] at hk; cases hk
    | some pr =>
      rw [e3] at hk
      cases hk
      exact ⟨v, rfl, go_of (s := { s with heap := h', toks := tk }) e2 c2 d2 (by decide) ⟨kV pr.1, H, I1, key_rel h2, ⟨rfl, pr.1, pr.2, e3, rfl⟩, by rw [hlen]; exact st'.1, fun b hb => (hf b hb).1⟩⟩
  done := by
    intro X hP hw hK hc i pins s σ H E I hf st hg
    subst hP hw hK
    obtain ⟨hd, hi⟩ := hg
    obtain ⟨vs, rel, hat⟩ := frz_at I hd ho
    obtain ⟨f0, f1, f2, f3, f4, f5⟩ := hf it (by simp)
    have hne : d ≠ it := by intro z; subst z; rw [hd] at f0; cases f0
    have hlen : kx.length = vs.length := rel.length
    rw [hlen] at st hi
    subst hi
    exact (Walks.dictKeys (I.ok.hd hc) it d hne vs ep).done s _ _ ⟨st, hat⟩ fun h' tk kk => ⟨rfl, I.turned (fun b ob hb e => kk b ob (by simpa using hb) e) f0 f1 f3 f4 f5⟩
  self := fun _ _ _ _ _ st h => wpAny_pyIter_keyiter st h
section
variable {X : Cx} {tg : Expr} {pos : Pos} {g : TGd} {tb : TSd} {te : TEd}
def iDict (X : Cx) (tl : TE) : TI := fun σ H R => tl σ H fun x H1 => ∃ d kx, x = .ref d ∧ H1 d = some (.dK kx) ∧ ∀ o, (∀ o x, X.H₀ d ≠ some (.frz o x)) → R (Itk d o kx) (upd H1 d (.frz o (.dK kx)))
theorem pi_dict {l : Expr} {tl : TE} (hl : PE X l tl) : PI X tg l (iDict X tl) := by
  intro pins s σ H R I h
  refine thn (hl pins s σ H _ I h) fun v s1 ⟨x, H1, I1, r1, q1⟩ => ?_
  obtain ⟨d, kx, e, hd, q⟩ := q1
  subst e
  cases r1
  obtain ⟨o, vs, ep, h1, rel, hat, ⟨es, ho⟩, lo, nf, I2⟩ := inv_freeze I1 hd
  refine wpAny_pyIter_dict lo hat ?_
  refine ⟨s1.heap.objs.size, [s1.heap.objs.size], _, _, _, rfl, I2.kept (t' := s1.toks) fun b ob e => Heap.get?_push_of_some _ e, turn_dict ho, ⟨_, Heap.get?_push_size _ rfl, rfl, by rw [rel.length]; rfl⟩, fun b hb => ?_, q o nf⟩
  have e : b = s1.heap.objs.size := by simpa using hb
  subst e
  exact I2.fpOk (Nat.le_refl _) (I2.hok.fresh (Nat.le_refl _))
/-- the ends of a loop over a dict: it may be changed again -/
def thawed (X : Cx) (D : Ends) : Ends where
  nx := fun σ H => ∃ d o kx, H d = some (.frz o (.dK kx)) ∧ (∀ o x, X.H₀ d ≠ some (.frz o x)) ∧ D.nx σ (upd H d (.dK kx))
  rt := fun v H => ∃ d o kx, H d = some (.frz o (.dK kx)) ∧ (∀ o x, X.H₀ d ≠ some (.frz o x)) ∧ D.rt v (upd H d (.dK kx))
  bk := fun σ H => ∃ d o kx, H d = some (.frz o (.dK kx)) ∧ (∀ o x, X.H₀ d ≠ some (.frz o x)) ∧ D.bk σ (upd H d (.dK kx))
  ct := fun σ H => ∃ d o kx, H d = some (.frz o (.dK kx)) ∧ (∀ o x, X.H₀ d ≠ some (.frz o x)) ∧ D.ct σ (upd H d (.dK kx))
theorem ps_forK {iter : Expr} {body : List Stmt} {tl : TE} {gv : TG} {tbv : TS} (hp : PassesOwn (model X.prog X.w) X.A X.env X.xe) (hc : X.calm = true) (hl : PE X iter tl) (hg : PG X tg gv) (hb : PSs X body tbv)
    (hs : ∀ x, foldedSetIterable iter X.env x = pure x := by intro _; rfl) : PS X (.For tg iter body [] pos) (fun D σ H => tFor (iDict X tl) gv tbv (thawed X D) σ H) := by
  intro pins s σ H D I h
  refine thn (ps_for hp hc (pi_dict hl) hg hb hs pins s σ H (thawed X D) I h) fun f s1 q => ?_
  cases f with
  | next => obtain ⟨σ1, H1, I1, d, o, kx, hd, nf, q⟩ := q; exact ⟨σ1, _, inv_thaw I1 hd nf, q⟩
  | cont => obtain ⟨σ1, H1, I1, d, o, kx, hd, nf, q⟩ := q; exact ⟨σ1, _, inv_thaw I1 hd nf, q⟩
  | brk => obtain ⟨σ1, H1, I1, d, o, kx, hd, nf, q⟩ := q; exact ⟨σ1, _, inv_thaw I1 hd nf, q⟩
  | ret v => obtain ⟨x, σ1, H1, I1, r, d, o, kx, hd, nf, q⟩ := q; exact ⟨x, σ1, _, inv_thaw I1 hd nf, r, q⟩
/-! over data -/
theorem pkd_keys {K : PySem.W.Frag} {H : Hp} {kx : List (Key × V)} {kvs : List (Key × D)} (r : PKD K H kx kvs) : kx.map (·.1) = kvs.map (·.1) := by
  induction r with
  | nil => rfl
  | cons h t ih => rw [List.map_cons, List.map_cons, ih, h.1]
section
variable {K : PySem.W.Frag} {M : DH} {H : Hp} {l : Addr} {o : Obj} {kx : List (Key × V)} {kvs : List (Key × D)}
theorem ext_freeze (hx : H l = some (.dK kx)) : Ext K H (upd H l (.frz o (.dK kx))) := ext_upd (fun zs s => by rcases s with s | ⟨u, s⟩ <;> rw [hx] at s <;> cases s) (fun u x s => by rw [hx] at s; cases s)
theorem HAbs.freeze (h : HAbs K M H) (hx : H l = some (.dK kx)) (hp : PKD K H kx kvs) : HAbs K (updM M l (.fdc kvs)) (upd H l (.frz o (.dK kx))) := fun a u q => by
  by_cases z : a = l
  · subst z; rw [updM_same] at q; cases q; exact ⟨o, kx, upd_same, pkd_mono (ext_freeze hx) hp⟩
  · rw [updM_ne z] at q
    exact (h a u q).mono (ext_freeze hx).e0 (fun v w => by rw [upd_ne z]; exact w) (fun dx w => by rw [upd_ne (ne_of w hx (by intro k; cases k))]; exact w)
theorem ext_thaw (hx : H l = some (.frz o (.dK kx))) : Ext0 K H (upd H l (.dK kx)) := ⟨fun a xs s => by
  rcases s with s | s
  · have hne : a ≠ l := by intro z; subst z; rcases s with s | ⟨u, s⟩ <;> rw [hx] at s <;> cases s
    rcases s with s | ⟨u, s⟩
    · exact .inl (.inl (by rw [upd_ne hne]; exact s))
    · exact .inl (.inr ⟨u, by rw [upd_ne hne]; exact s⟩)
  · exact .inr s, fun a xs s => by
  rcases s with ⟨u, s⟩ | s
  · exact .inl ⟨u, by rw [upd_ne (by intro z; subst z; rw [hx] at s; cases s)]; exact s⟩
  · exact .inr s⟩
theorem HAbs.thaw (h : HAbs K M H) (hx : H l = some (.frz o (.dK kx))) (hl : M l = some (.fdc kvs)) : HAbs K (updM M l (.dic kvs)) (upd H l (.dK kx)) := fun a u q => by
  obtain ⟨o', kx', h1, hp⟩ := h l _ hl
  rw [hx] at h1
  cases h1
  by_cases z : a = l
  · subst z; rw [updM_same] at q; cases q; exact ⟨kx, upd_same, pkd_mono0 (ext_thaw hx) hp⟩
  · rw [updM_ne z] at q
    exact (h a u q).mono (ext_thaw hx) (fun v w => by rw [upd_ne z]; exact w) (fun dx w => by rw [upd_ne (ne_of w hx (by intro k; cases k))]; exact w)
/-- from ahead of the loop to behind it -/
theorem ext_loop {H1 H2 : Hp} (h1 : H1 l = some (.dK kx)) (e : Ext K (upd H1 l (.frz o (.dK kx))) H2) : Ext K H1 (upd H2 l (.dK kx)) := by
  have h2 : H2 l = some (.frz o (.dK kx)) := e.z _ _ _ upd_same
  refine ⟨fun a xs s => (ext_thaw h2).t a xs (e.t a xs ((ext_freeze h1).t a xs s)), fun a u x s => ?_⟩
  have hne : a ≠ l := by intro z; subst z; rw [h1] at s; cases s
  rw [upd_ne hne]
  exact e.z a u x (by rw [upd_ne hne]; exact s)
end
def forKD (g : TGd) (tb : TSd) (E : EndsD) (τ : DSt) : D → DH → Prop
  | .ref l, M => ∃ kvs, M l = some (.dic kvs) ∧ ∃ W : Nat → DSt → DH → Prop, W 0 τ (updM M l (.fdc kvs)) ∧ (∀ i τ M, i ≤ kvs.length → W i τ M → M l = some (.fdc kvs)) ∧
      (∀ i k d τ M, kvs[i]? = some (k, d) → W i τ M → g (keyD k) τ M fun τ2 M2 => tb { nx := W (i + 1), ct := W (i + 1), bk := fun τ M => M l = some (.fdc kvs) ∧ E.nx τ (updM M l (.dic kvs)), rt := fun d M => M l = some (.fdc kvs) ∧ E.rt d (updM M l (.dic kvs)) } τ2 M2) ∧
      ∀ τ M, W kvs.length τ M → E.nx τ (updM M l (.dic kvs))
  | _, _ => False
def sForK (te : TEd) (g : TGd) (tb : TSd) : TSd := fun E τ M => te τ M fun x M1 => forKD g tb E τ x M1
theorem s_forK {iter : Expr} {body : List Stmt} (hp : PassesOwn (model X.prog X.w) X.A X.env X.xe) (hc : X.calm = true) (hi : PE X iter (low X.K te)) (hg : PG X tg (lowG X.K g)) (hb : PSs X body (lowS X.K tb))
    (hs : ∀ x, foldedSetIterable iter X.env x = pure x := by intro _; rfl) : PS X (.For tg iter body [] pos) (lowS X.K (sForK te g tb)) :=
  (ps_forK hp hc hi hg hb hs).imp fun D σ H ⟨τ, M, D', hs, hm, h, hd⟩ => ⟨τ, M, _, hs, hm, h, fun x M1 v H1 m1 e1 i1 h1 => by
    cases i1 with
    | ref l =>
      obtain ⟨kvs, hl, W, w0, stay, turn, done⟩ := h1
      obtain ⟨kx, hx, hpk⟩ := m1 l _ hl
      have hlen := pkd_length hpk
      refine ⟨l, kx, rfl, hx, fun o nf => ?_⟩
      refine ⟨fun i m σ2 H2 => m = kvs.length - i ∧ i ≤ kvs.length ∧ ∃ τ2 M2, SAbs X.K τ2 σ2 H2 ∧ HAbs X.K M2 H2 ∧ Ext X.K (upd H1 l (.frz o (.dK kx))) H2 ∧ W i τ2 M2, ⟨kvs.length, by simp, Nat.zero_le _, τ, _, (hs.mono e1).mono (ext_freeze hx), m1.freeze hx hpk, Ext.refl _, w0⟩, ?_⟩
      rintro i m σ2 H2 ⟨rfl, hi, τ2, M2, s2, m2, e2, w2⟩
      have hz : H2 l = some (.frz o (.dK kx)) := e2.z _ _ _ upd_same
      by_cases hlt : i < kvs.length
      · refine .inr ⟨⟨hz, by omega⟩, fun σ3 H3 => ∃ τ3 M3, SAbs X.K τ3 σ3 H3 ∧ HAbs X.K M3 H3 ∧ Ext X.K (upd H1 l (.frz o (.dK kx))) H3 ∧ W (i + 1) τ3 M3, fun σ3 H3 p => ⟨kvs.length - (i + 1), by omega, rfl, hlt, p⟩, fun x H' y => ?_⟩
        obtain ⟨rfl, k, vv, ek, rfl⟩ := y
        obtain ⟨q, hq⟩ : ∃ q, kvs[i]? = some q := ⟨_, List.getElem?_eq_getElem hlt⟩
        have ekk : q.1 = k := by
          have h1 : (kx.map (·.1))[i]? = (kvs.map (·.1))[i]? := by
            rw [pkd_keys hpk]
          rw [List.getElem?_map, List.getElem?_map, ek, hq] at h1
          exact (Option.some.inj h1).symm
        subst ekk
        refine ⟨keyD q.1, τ2, M2, _, by cases q.1 with | inl n => exact .int n | inr z => exact .str z, s2, m2, turn i q.1 q.2 τ2 M2 hq w2, fun τ3 M3 σ3 H3 s3 m3 e3 q3 => ⟨τ3, M3, _, s3, m3, q3, ⟨?_, ?_, ?_, ?_⟩⟩⟩
        · intro τ4 M4 σ4 H4 s4 m4 e4 q4
          exact ⟨τ4, M4, s4, m4, e2.trans (e3.trans e4), q4⟩
        · intro d4 M4 v4 H4 m4 e4 i4 ⟨hf4, q4⟩
          have e5 := e2.trans (e3.trans e4)
          have hz4 : H4 l = some (.frz o (.dK kx)) := e5.z _ _ _ upd_same
          exact ⟨l, o, kx, hz4, nf, hd.rt _ _ _ _ (m4.thaw hz4 hf4) (e1.trans (ext_loop hx e5)) (i4.mono0 (ext_thaw hz4)) q4⟩
        · intro τ4 M4 σ4 H4 s4 m4 e4 ⟨hf4, q4⟩
          have e5 := e2.trans (e3.trans e4)
          have hz4 : H4 l = some (.frz o (.dK kx)) := e5.z _ _ _ upd_same
          exact ⟨l, o, kx, hz4, nf, hd.nx _ _ _ _ (s4.mono0 (ext_thaw hz4)) (m4.thaw hz4 hf4) (e1.trans (ext_loop hx e5)) q4⟩
        · intro τ4 M4 σ4 H4 s4 m4 e4 q4
          exact ⟨τ4, M4, s4, m4, e2.trans (e3.trans e4), q4⟩
      · have e : i = kvs.length := by omega
        subst e
        have hf := stay _ τ2 M2 (Nat.le_refl _) w2
        exact .inl ⟨⟨hz, hlen.symm⟩, l, o, kx, hz, nf, hd.nx _ _ _ _ (s2.mono0 (ext_thaw hz)) (m2.thaw hz hf) (e1.trans (ext_loop hx e2)) (done τ2 M2 w2)⟩
    | _ => exact h1.elim⟩
end
end DL

/-! enumerate(x, start=1), for loops. -/
namespace DL
open PySem PySem.Spec PyProof.Rows L2
section
variable {prog : Program} {w : World} {A : Around} {E : Value → Shared → Prop} {z : Shared}
theorem init_kw {T newId : String} {self : Value} {rest : List Value} {kw : List (Str × Value)} (hl : typeLookup (.type T) "__init__" = pure (some (.builtin "object.__init__"))) (hm : Bind.madeBy (.type T) = pure (some newId)) (hne : (some newId != some "object.__new__") = true) :
    Meets (Builtin.«object.__init__» ⟨self :: rest, kw⟩) (fun _ R s => s.TypeIs self T ∧ R (.ok (.ret .none)) s) := by
  refine Meets.of_wp fun prog w A R s ⟨hT, hq⟩ => ?_
  cases rest with
  | nil =>
    cases kw with
    | nil => exact wpAny_pure ⟨_, rfl, hq⟩
    | cons k kw => (repeat (any_goals (first | assumption | wp_step))); exact ⟨_, rfl, hq⟩
  | cons a rest => (repeat (any_goals (first | assumption | wp_step))); exact ⟨_, rfl, hq⟩
theorem type_kw {T newId : String} {Bn : Builtin} {args : List Value} {kw : List (Str × Value)} {S : PySem.Spec} {Q : Value → Shared → Prop} (ft : TypeCalled T newId "object.__init__") (hne : (some newId != some "object.__new__") = true)
    (hct : checkTypeCall T ⟨args, kw⟩ = pure ()) (hcn : checkBuiltinCall newId ⟨.type T :: args, kw⟩ = pure ()) (hok : ∀ obj, argsOk "object.__init__" ⟨obj :: args, kw⟩) (entryN : entryFor table newId = some Bn) (g : Meets (Bn ⟨.type T :: args, kw⟩) S)
    (h : S A.in1 (wants (fun obj s₁ => s₁.TypeIs obj T ∧ Q obj s₁) E) z) : wpAny (model prog w) A (call (.type T) args kw) Q E z := by
  obtain ⟨c, tl, hmro⟩ := ft.mro
  have hmade := ft.made
  have hsub := ft.sub
  refine wpAny_call (codeAny_of_tree ?_); show wpAny _ _ (callAny (.type T) _) _ _ _
  refine wpAny_pure ⟨Code.quiet_builtin _ (by decide +kernel), codeAny_builtin PySem.F.entry_type_call ?_⟩
  rw [Around.under_plain (weight_type_call_type T args kw) (units_type_call_type T args kw)]
  have h1 := ft.notType
  have h2 := ft.canCreate
  (repeat (any_goals (first | assumption | wp_step)))
  refine codeAny_mono (codeAny_call_builtin ft.plain entryN (wpAny_of_eq hcn (g prog w A.in1 _ z h))) fun r s₁ hr => ?_
  cases r with
  | error e => exact hr
  | ok fl =>
    cases fl with
    | ret obj =>
      obtain ⟨hT, hq⟩ := hr
      have hli := ft.init.lookup
      have hbi := ft.init.bind obj
      (repeat (any_goals (first | assumption | wp_step)))
      refine codeAny_mono (codeAny_call_builtin ft.init.plain PySem.F.entry_object_init (ft.init.check _ _ _ _ _ _ _ _ hT (hok obj) (init_kw ft.init.lookup ft.made hne prog w A.in1 (wants (fun r s₂ => r = .none ∧ Q obj s₂) E) s₁ ⟨hT, rfl, hq⟩))) fun r₂ s₂ hr₂ => ?_
      cases r₂ with
      | error e => exact hr₂
      | ok fl₂ =>
        cases fl₂ with
        | ret r =>
          obtain ⟨rfl, hq⟩ := hr₂
          (repeat (any_goals (first | assumption | wp_step)))
        | _ => exact hr₂.elim
    | _ => exact hr.elim
theorem enum_newL1 (l : Addr) (ys : Array Value) (n : Nat) (dx : Option Addr) (sx : Array (Option Value)) (t : Tok) :
    Meets (Builtin.«enumerate.__new__» ⟨[.type "enumerate", .ref l], [("start", .int 1 t)]⟩) (fun _ R s => s.heap.get? l = some { cls := .type "list", dict := dx, data := .seq ys n, slots := sx } ∧
      R (.ok (.ret (.ref (s.heap.push { cls := .type "list_iterator", data := .fields #[.ref l, .int 0 0] }).objs.size)))
        { s with heap := (s.heap.push { cls := .type "list_iterator", data := .fields #[.ref l, .int 0 0] }).push { cls := .type "enumerate", data := .fields #[.none, .bool false, .ref s.heap.objs.size, rawInt 1, .none, .none] } }) :=
  .of_wp fun prog w A R s h => by
    obtain ⟨hp, g, d, tk, os⟩ := s
    obtain ⟨hl, h⟩ := h
    have hsub := sub_enumerate
    have hT : Heap.IsList (Shared.heap ⟨hp, g, d, tk, os⟩) l ys := ⟨_, hl, rfl, n, rfl⟩
    wp_walk using AutoSeq1.wpAny_loadPart' hl
    refine wpAny_stack_any fun st => wpAny_pure ?_; split
    · rename_i c _ _ _ _ _
      cases (c == Value.type "enumerate")
      · wp_walk using AutoSeq1.wpAny_loadPart' hl, wpAny_pyIter_list hT
        exact ⟨_, rfl, h⟩
      · wp_walk using AutoSeq1.wpAny_loadPart' hl, wpAny_pyIter_list hT
        exact ⟨_, rfl, h⟩
    · wp_walk using AutoSeq1.wpAny_loadPart' hl, wpAny_pyIter_list hT
      exact ⟨_, rfl, h⟩
theorem kw_type (v x : Value) : checkTypeCall "enumerate" ⟨[v], [("start", x)]⟩ = pure () := by kernel_rfl
theorem kw_new (v x : Value) : checkBuiltinCall "enumerate.__new__" ⟨[.type "enumerate", v], [("start", x)]⟩ = pure () := by kernel_rfl
theorem kw_init (v x y : Value) : argsOk "object.__init__" ⟨[v, x], [("start", y)]⟩ := by unfold argsOk; rw [signature?_of (id := "object.__init__") (n := ['_', '_', 't', 'i', 'n', 'i', '_', '_']) (o := ['t', 'c', 'e', 'j', 'b', 'o']) (by kernel_rfl) PySem.F.owner_object]; kernel_rfl
theorem enum1_call {l : Addr} {ys : Array Value} {t : Tok} {Q : Value → Shared → Prop} (hL : z.heap.IsList l ys)
    (h : ∀ g, IsEnum g (z.heap.objs.size + 1) z.heap.objs.size 1 .none → g.IsListIter z.heap.objs.size l 0 → (∀ b o, z.heap.get? b = some o → g.get? b = some o) → Q (.ref (z.heap.objs.size + 1)) { z with heap := g }) :
    wpAny (model prog w) A (call (.type "enumerate") [.ref l] [("start", .int 1 t)]) Q E z := by
  obtain ⟨⟨c, dx, dt, sx⟩, hl, hc, n, hd⟩ := hL
  replace hc : c = .type "list" := hc
  replace hd : dt = .seq ys n := hd
  subst hc hd
  refine type_kw PySem.F.called_enumerate (by decide) (kw_type _ _) (kw_new _ _) (fun obj => kw_init obj _ _) PySem.F.entry_enumerate_new (enum_newL1 l ys n dx sx t) ⟨hl, ?_⟩
  have hz : (z.heap.push { cls := .type "list_iterator", data := .fields #[.ref l, .int 0 0] }).objs.size = z.heap.objs.size + 1 := Heap.size_push ..
  show _ ∧ _
  rw [hz]
  have he : IsEnum ((z.heap.push { cls := .type "list_iterator", data := .fields #[.ref l, .int 0 0] }).push { cls := .type "enumerate", data := .fields #[.none, .bool false, .ref z.heap.objs.size, rawInt 1, .none, .none] }) (z.heap.objs.size + 1) z.heap.objs.size 1 .none := by
    have q := Heap.get?_push_size (z.heap.push { cls := .type "list_iterator", data := .fields #[.ref l, .int 0 0] }) (o := { cls := .type "enumerate", data := .fields #[.none, .bool false, .ref z.heap.objs.size, rawInt 1, .none, .none] }) rfl
    rw [hz] at q
    exact q
  exact ⟨⟨_, he, rfl⟩, h _ he ⟨_, Heap.get?_push_of_some _ (Heap.get?_push_size _ rfl), rfl, rfl⟩ fun b o x => Heap.get?_push_of_some _ (Heap.get?_push_of_some _ x)⟩
end
end DL

/-! enumerate(x, start=1), for loops: the rules. -/
namespace DL
open PySem PySem.Spec PyProof.Rows L2
section
variable {X : Cx} {elts : List Expr} {k : Nat} {tpos pos : Pos} {g : TGd} {tb : TSd}
def iEnum1 (K : PySem.W.Frag) (ta : TA) : TI := fun σ H R => ta σ H fun vs H1 => ∃ a, vs = [.ref a] ∧ (∃ xs, SqL K H1 a xs) ∧ R (Ite K false 1 a) H1
theorem pi_enum1 {a : Expr} {ta : TA} {p cpos kpos ipos : Pos} {j} (hg : Gl X "enumerate") (hm : X.mg "enumerate" = none) (ha : PA X [a] ta) (hs : starEach [a] X.env = (false, eval a X.env) :: starEach [] X.env := by rfl)
    (hall : (backToKw cpos (keywordEach [⟨some "start", .Constant (.int 1) j ipos, kpos⟩] X.env)).all (·.1.isSome) = true := by rfl) (hks : (backToKw cpos (keywordEach [⟨some "start", .Constant (.int 1) j ipos, kpos⟩] X.env)).filterMap (·.1) = [(Str.ofString "start")] := by rfl)
    (hpl : ((backTo cpos (starEach [a] X.env)).any (·.1) || (backToKw cpos (keywordEach [⟨some "start", .Constant (.int 1) j ipos, kpos⟩] X.env)).any (·.1.isNone)) = false := by rfl) :
    PI X (.Tuple elts k tpos) (.Call (.Name "enumerate" p) [a] [⟨some "start", .Constant (.int 1) j ipos, kpos⟩] cpos) (iEnum1 X.K ta) := by
  intro pins s σ H R I h
  refine wpAny_Call_Name_kw (ld_blt I hg hm boot_enumerate ?_)
  refine PySem.W.callWith_of (P := fun _ => True) hpl (fun h' _ => ⟨.machine, .inr (.inl rfl), ?_⟩) (evalArgs_kw2 hall (thn (ha cpos pins s σ H _ I h) fun us s1 ⟨vs, H1, I1, r1, q1⟩ => ?_) hs)
  · exact PySem.W.Looks.of_pure rfl
  · refine thn (pk_cons (nm := some "start") (kpos := kpos) pe_int pk_nil cpos pins s1 σ H1 (fun zs H2 => zs = [.int 1] ∧ H2 = H1) I1 ⟨rfl, rfl⟩) fun ws s2 ⟨zs, H2, I2, rz, ez, eH⟩ => ⟨trivial, ?_⟩
    subst ez eH
    obtain ⟨w1, rfl, t, rfl⟩ := vals1 rz
    rw [hks]
    obtain ⟨l, e, ⟨xs, hq⟩, q⟩ := q1
    subst e
    obtain ⟨u, rfl, ru⟩ := vals1 r1
    cases ru
    obtain ⟨its, rv, pl, _⟩ := I2.list hq
    refine enum1_call (l := l) (t := t) pl.isList fun g he hi hk => wpAny_pyIter_enum (s := { s2 with heap := g }) he ?_
    refine ⟨s2.heap.objs.size + 1, [s2.heap.objs.size + 1, s2.heap.objs.size], _, _, H2, rfl, I2.kept (t' := s2.toks) hk, turn_enum false 1 l _ _ (Nat.succ_ne_self _), ⟨⟨_, by simpa using he⟩, hi⟩, fun x hx => ?_, q⟩
    rcases List.mem_cons.mp hx with rfl | hx
    · exact I2.fpOk (Nat.le_succ _) (I2.hok.fresh (Nat.le_succ _))
    · cases List.mem_singleton.mp hx
      exact I2.fpOk (Nat.le_refl _) (I2.hok.fresh (Nat.le_refl _))
def forE1 (g : TGd) (tb : TSd) (E : EndsD) (τ : DSt) : List D → DH → Prop
  | [.ref l], M => ∃ ds, M l = some (.lst ds) ∧ walkD (enumL 1 ds) (fun M => M l = some (.lst ds)) g tb E τ M
  | _, _ => False
def sForE1 (ta : TAd) (g : TGd) (tb : TSd) : TSd := fun E τ M => ta τ M fun vs M1 => forE1 g tb E τ vs M1
theorem s_forE1 {a : Expr} {ta : TAd} {body : List Stmt} {p cpos kpos ipos : Pos} {j} (hp : PassesOwn (model X.prog X.w) X.A X.env X.xe) (hc : X.calm = true) (hm : X.mg "enumerate" = none) (ha : PA X [a] (lowA X.K ta)) (hg : PG X (.Tuple elts k tpos) (lowG X.K g)) (hb : PSs X body (lowS X.K tb)) (hgl : Gl X "enumerate" := by rfl)
    (hst : starEach [a] X.env = (false, eval a X.env) :: starEach [] X.env := by rfl) (hall : (backToKw cpos (keywordEach [⟨some "start", .Constant (.int 1) j ipos, kpos⟩] X.env)).all (·.1.isSome) = true := by rfl) (hks : (backToKw cpos (keywordEach [⟨some "start", .Constant (.int 1) j ipos, kpos⟩] X.env)).filterMap (·.1) = [(Str.ofString "start")] := by rfl)
    (hpl : ((backTo cpos (starEach [a] X.env)).any (·.1) || (backToKw cpos (keywordEach [⟨some "start", .Constant (.int 1) j ipos, kpos⟩] X.env)).any (·.1.isNone)) = false := by rfl) (hs : ∀ x, foldedSetIterable (.Call (.Name "enumerate" p) [a] [⟨some "start", .Constant (.int 1) j ipos, kpos⟩] cpos) X.env x = pure x := by intro _; rfl) :
    PS X (.For (.Tuple elts k tpos) (.Call (.Name "enumerate" p) [a] [⟨some "start", .Constant (.int 1) j ipos, kpos⟩] cpos) body [] pos) (lowS X.K (sForE1 ta g tb)) :=
  (ps_for hp hc (pi_enum1 hgl hm ha hst hall hks hpl) hg hb hs).imp fun D σ H ⟨τ, M, D', hs, hm, h, hd⟩ => ⟨τ, M, _, hs, hm, h, fun ds M1 vs H1 m1 e1 i1 h1 => by
    match ds, h1, i1 with
    | [.ref l], h1, i1 =>
      obtain ⟨v, rfl, i⟩ := iss1 i1
      cases i with
      | ref =>
        obtain ⟨ds, hl, w⟩ := h1
        obtain ⟨xs, hx, hxs⟩ := m1.lst hl
        exact ⟨l, rfl, ⟨xs, hx⟩, enum_walk hd e1 (hs.mono e1) m1 (fun M2 H2 m2 e2 hl2 => m2.lst hl2) w⟩⟩
end
end DL

/-! is, == of lists, comprehensions over a range. -/
namespace DL
open PySem PySem.Spec PyProof.Rows L2
section
variable {X : Cx} {k : Nat}
def D.isNon : D → Bool
  | .non => true
  | _ => false
/-- is, is not: of truth values, of anything with None -/
def isD (neg : Bool) : D → D → DH → KD → Prop
  | .bl a, .bl b, M, Q => Q (.bl (if neg then !(a == b) else a == b)) M
  | x, .non, M, Q => Q (.bl (if neg then !x.isNon else x.isNon)) M
  | _, _, _, _ => False
theorem isD_non {neg : Bool} {x : D} {M : DH} {Q : KD} (h : isD neg x .non M Q) : Q (.bl (if neg then !x.isNon else x.isNon)) M := by cases x <;> exact h
theorem isNon_of {K : PySem.W.Frag} {H : Hp} {v : V} {d : D} (i : Is K H v d) : decide (v = .non) = d.isNon := by cases i <;> rfl
theorem od_is : OpD X (compareOp .Is) (isD false) := by
  intro pins s σ H vx vy v u Q I rx ry ⟨x, y, M, Q', ix, iy, hm, q, hq⟩
  cases iy with
  | non =>
    have q' := isD_non q
    exact op_isN pins s σ H _ _ v u Q I rx ry ⟨rfl, hq.here hm (.bl _) (by rw [isNon_of ix]; exact q')⟩
  | bl b => cases ix with
    | bl a =>
      cases rx
      cases ry
      exact is_bool ⟨.bl _, H, I, rfl, hq.here hm (.bl _) q⟩
    | _ => exact q.elim
  | _ => cases ix <;> exact q.elim
theorem od_isnot : OpD X (compareOp .IsNot) (isD true) := by
  intro pins s σ H vx vy v u Q I rx ry ⟨x, y, M, Q', ix, iy, hm, q, hq⟩
  cases iy with
  | non =>
    have q' := isD_non q
    exact op_notN pins s σ H _ _ v u Q I rx ry ⟨rfl, hq.here hm (.bl _) (by rw [isNon_of ix]; exact q')⟩
  | bl b => cases ix with
    | bl a =>
      cases rx
      cases ry
      exact isnot_bool ⟨.bl _, H, I, rfl, hq.here hm (.bl _) q⟩
    | _ => exact q.elim
  | _ => cases ix <;> exact q.elim
/-! ### == of lists -/
theorem lists_at {pins : List (Addr × Obj)} {σ : St} {H : Hp} {s : Shared} {us ws : List V} {xs ys : List D} {its its2 : List Value} (I : Inv X pins σ H s) (i1 : Iss X.K H us xs) (i2 : Iss X.K H ws ys) (r1 : Vals us its) (r2 : Vals ws its2) (ok : D.eqOks xs ys = true) (dp : D.deps xs ≤ 150) {A : Around} (hu : A.units + 200 < cLine) :
    ∀ j (h1 : j < its.toArray.size) (h2 : j < its2.toArray.size), SeqAt.EqAt A s its.toArray[j] its2.toArray[j] (pairEq xs ys j) := by
  intro j h1 h2
  have n1 : its.toArray.size = xs.length := by rw [List.size_toArray, ← r1.length, i1.length]
  have n2 : its2.toArray.size = ys.length := by rw [List.size_toArray, ← r2.length, i2.length]
  have q1 : xs[j]? = some xs[j] := List.getElem?_eq_getElem (by omega)
  have q2 : ys[j]? = some ys[j] := List.getElem?_eq_getElem (by omega)
  obtain ⟨x, ex, ix⟩ := i1.get q1
  obtain ⟨y, ey, iy⟩ := i2.get q2
  obtain ⟨ux, eu, ru⟩ := r1.get ex
  obtain ⟨uy, ew, rw'⟩ := r2.get ey
  have g1 : its.toArray[j] = ux := by
    have : its[j]? = some its[j] := List.getElem?_eq_getElem (by simpa using h1)
    rw [this] at eu; simpa using eu
  have g2 : its2.toArray[j] = uy := by
    have : its2[j]? = some its2[j] := List.getElem?_eq_getElem (by simpa using h2)
    rw [this] at ew; simpa using ew
  rw [g1, g2]
  have pe : pairEq xs ys j = D.eq xs[j] ys[j] := by unfold pairEq; rw [q1, q2]
  rw [pe]
  have dg := deps_get q1
  exact (eqAt_D I 150 _ _ A x y ux uy (by omega) (by omega) (eqOks_get ok q1 q2) ix iy ru rw').1
theorem eqs_len : ∀ {xs ys : List D}, D.eqs xs ys = true → xs.length = ys.length
  | [], [], _ => rfl
  | [], _ :: _, h => by simp [D.eqs] at h
  | _ :: _, [], h => by simp [D.eqs] at h
  | x :: xs, y :: ys, h => by
    simp only [D.eqs, Bool.and_eq_true] at h
    rw [List.length_cons, List.length_cons, eqs_len h.2]
def neXD : D → D → DH → KD → Prop
  | .ref l, .ref r, M, Q => ∃ xs ys, LstAt M l xs ∧ LstAt M r ys ∧ D.eqOks xs ys = true ∧ D.deps xs ≤ 150 ∧ Q (.bl (!D.eqs xs ys)) M
  | .tup xs, .tup ys, M, Q => D.eqOks xs ys = true ∧ D.deps xs ≤ 150 ∧ Q (.bl (!D.eqs xs ys)) M
  | .int i, .int j, M, Q => Q (.bl (!decide (i = j))) M
  | .str i, .str j, M, Q => Q (.bl (!decide (i = j))) M
  | .bl i, .bl j, M, Q => Q (.bl (!decide (i = j))) M
  | _, _, _, _ => False
theorem od_neX (hk1 : Room (k + 1) X.A) : OpD X (compareOp .NotEq) neXD := by
  intro pins s σ H vx vy v u Q I rx ry ⟨x, y, M, Q', ix, iy, hm, q, hq⟩
  have hr := hk1.mono (Nat.le_succ k)
  have hu : X.A.units + 200 < cLine := by have := hr.un; omega
  by_cases hrr : ∃ l r, x = .ref l ∧ y = .ref r
  · obtain ⟨l, r, rfl, rfl⟩ := hrr
    obtain ⟨xs, ys, hl, hr', ok, dp, q⟩ := q
    cases ix
    cases iy
    cases rx
    cases ry
    obtain ⟨us, hu1, i1⟩ := hm.lst hl
    obtain ⟨ws, hw, i2⟩ := hm.lst hr'
    obtain ⟨its, r1, p1, _⟩ := I.list hu1
    obtain ⟨its2, r2, p2, _⟩ := I.list hw
    have n1 : its.toArray.size = xs.length := by rw [List.size_toArray, ← r1.length, i1.length]
    have n2 : its2.toArray.size = ys.length := by rw [List.size_toArray, ← r2.length, i2.length]
    by_cases hlen : xs.length = ys.length
    · refine SeqAt.RcNeAt.lists (e := pairEq xs ys) p1.isList p2.isList (by rw [n1, n2, hlen]) (by omega) (lists_at I i1 i2 r1 r2 ok dp (A := X.A.in1) (by rw [in1_units]; have := hk1.un; omega)) _ _ _ _ ⟨.bl _, H, I, rfl, hq.here hm (.bl _) ?_⟩
      have e := eqs_all xs ys
      rw [show min xs.length ys.length = xs.length by omega, show (xs.length == ys.length) = true by simpa using hlen, Bool.and_true] at e
      rw [n1, e]
      exact q
    · have hf : D.eqs xs ys = false := by
        cases h : D.eqs xs ys with
        | false => rfl
        | true => exact absurd (eqs_len h) hlen
      rw [hf] at q
      exact SeqAt.RcNeAt.lists_lengths p1.isList p2.isList (by rw [n1, n2]; simpa using hlen) (by omega) _ _ _ _ ⟨.bl _, H, I, rfl, hq.here hm (.bl _) q⟩
  · refine od_ne hr pins s σ H vx vy v u Q I rx ry ⟨x, y, M, Q', ix, iy, hm, ?_, hq⟩
    cases x <;> cases y <;> first | exact q | exact q.elim | exact absurd ⟨_, _, rfl, rfl⟩ hrr
end
/-! ### [.. for k in range(n)] -/
section
variable {X : Cx} {tg elt a : Expr} {ifs : List Expr} {scope : Scope} {pos p cpos : Pos} {js : List (Option Nat)} {Nc : List Str} {cl : List (Str × Addr)}
def compR (g : TGd) (tt : TTd) (te : TEd) (js : List (Option Nat)) (τ : DSt) : List D → DH → KD → Prop
  | [.int j], M, Q => (-(2 ^ 62) ≤ j ∧ j < 2 ^ 62) ∧ compD ((List.range j.toNat).map fun i : Nat => D.int (i : Int)) g tt te js τ M Q
  | _, _, _ => False
def eCompR (ta : TAd) (g : TGd) (tt : TTd) (te : TEd) (js : List (Option Nat)) : TEd := fun τ M Q => ta τ M fun vs M1 => compR g tt te js τ vs M1 Q
theorem gives_r {K : PySem.W.Frag} {H : Hp} (n : Nat) : Gives K (Itr 0 n) ((List.range n).map fun i : Nat => D.int (i : Int)) H :=
  ⟨fun j hj => by rw [List.length_map, List.length_range] at hj; exact hj, fun j x H' hj ⟨e, y⟩ => by
    rw [List.length_map, List.length_range] at hj
    refine ⟨e, .int (j : Int), by rw [List.getElem?_map, List.getElem?_range hj]; rfl, ?_⟩
    rw [y, Int.zero_add]
    exact .int _, by rw [List.length_map, List.length_range]; exact Nat.le_refl n⟩
theorem d_compR {ta : TAd} {ted : TEd} {gd : TGd} {ttd : TTd} (O : CompOk X Nc js scope cl) (hc : X.calm = true) (hmr : X.mg "range" = none) (ha : PA X [a] (lowA X.K ta)) (hg : ∀ C s H fp, PG (compCx X Nc scope cl C s H fp) tg (lowG X.K gd)) (hif : ∀ C s H fp, DIfs (compCx X Nc scope cl C s H fp) ifs ttd) (he : ∀ C s H fp, PE (compCx X Nc scope cl C s H fp) elt (low X.K ted))
    (hgl : Gl X "range" := by rfl) (hst : starEach [a] X.env = [(false, eval a X.env)] := by rfl) (hs : ∀ x, foldedSetIterable (.Call (.Name "range" p) [a] [] cpos) X.env x = pure x := by intro _; rfl) : PE X (.ListComp elt [⟨tg, .Call (.Name "range" p) [a] [] cpos, ifs, 0⟩] scope pos) (low X.K (eCompR ta gd ttd ted js)) := by
  intro pins s0 σ0 H0 Q0 I0 hw
  obtain ⟨ttv, hif', htt⟩ : ∃ ttv : TT, (∀ C s H fp, PIfs (compCx X Nc scope cl C s H fp) ifs ttv) ∧ ∀ σ H R, lowT X.K ttd σ H R → ttv σ H R := by
    rcases hif 0 s0 H0 [] with ⟨e1, e2⟩ | ⟨c, e1, _⟩
    · subst e1 e2
      exact ⟨_, fun _ _ _ _ => .inl ⟨rfl, rfl⟩, fun σ H R ⟨τ, M, Q', _, hm, h, hq⟩ => hq true M H hm (Ext.refl H) h⟩
    · subst e1
      refine ⟨lowT X.K ttd, fun C s H fp => ?_, fun σ H R h => h⟩
      rcases hif C s H fp with ⟨e1, _⟩ | ⟨c', e1, h⟩
      · cases e1
      · cases e1
        exact .inr ⟨c, rfl, h⟩
  refine ((pe_comp O hc (pi_range1 hgl hmr ha hst) hg hif' he hs).imp (t' := low X.K (eCompR ta gd ttd ted js)) fun σ H Q ⟨τ, M, Q', hs, hm, h, hq⟩ => ⟨τ, M, _, hs, hm, h, fun ds M1 vs H1 m1 e1 i1 h1 => ?_⟩) pins s0 σ0 H0 Q0 I0 hw
  match ds, h1, i1 with
  | [.int j], h1, i1 =>
    obtain ⟨v, rfl, i⟩ := iss1 i1
    cases i
    obtain ⟨⟨q1, q2⟩, w⟩ := h1
    exact ⟨j, rfl, q1, q2, low_comp (hs.mono e1) e1 m1 hq htt (fun l M2 H2 m2 e2 _ _ => gives_r j.toNat) w⟩
end
end DL

namespace Law
open PySem PySem.Spec PyProof.Rows L2 DL

def top (i : Nat) : Stmt := PySem.Challenge.pw_commonform_k21_whole_renamed_and_back.main.body.getD i (.Pass ⟨0, 0, 0, 0⟩)
abbrev s_parts_of : Stmt := top 4
theorem sc_parts_of : FnScope ["tree"] ["tree"] (defScope s_parts_of) := ⟨rfl, rfl, rfl, by decide +kernel, rfl, by decide +kernel, by decide +kernel⟩
abbrev s_knots_of : Stmt := top 5
theorem sc_knots_of : FnScope ["tree", "knots", "part"] ["tree"] (defScope s_knots_of) := ⟨rfl, rfl, rfl, by decide +kernel, rfl, by decide +kernel, by decide +kernel⟩
abbrev s_depth_of : Stmt := top 6
theorem sc_depth_of : FnScope ["tree", "deepest", "part"] ["tree"] (defScope s_depth_of) := ⟨rfl, rfl, rfl, by decide +kernel, rfl, by decide +kernel, by decide +kernel⟩
abbrev s_gather_places : Stmt := top 7
theorem sc_gather_places : FnScope ["tree", "place", "places", "number", "part"] ["tree", "place", "places"] (defScope s_gather_places) := ⟨rfl, rfl, rfl, by decide +kernel, rfl, by decide +kernel, by decide +kernel⟩
abbrev s_places_of : Stmt := top 8
theorem sc_places_of : FnScope ["tree", "places"] ["tree"] (defScope s_places_of) := ⟨rfl, rfl, rfl, by decide +kernel, rfl, by decide +kernel, by decide +kernel⟩
abbrev s_gather_blanks : Stmt := top 9
theorem sc_gather_blanks : FnScope ["tree", "found", "part"] ["tree", "found"] (defScope s_gather_blanks) := ⟨rfl, rfl, rfl, by decide +kernel, rfl, by decide +kernel, by decide +kernel⟩
abbrev s_blanks_of : Stmt := top 10
theorem sc_blanks_of : FnScope ["tree", "found"] ["tree"] (defScope s_blanks_of) := ⟨rfl, rfl, rfl, by decide +kernel, rfl, by decide +kernel, by decide +kernel⟩
abbrev s_exchanged : Stmt := top 14
theorem sc_exchanged : FnScope ["tree", "filling", "parts", "part"] ["tree", "filling"] (defScope s_exchanged) := ⟨rfl, rfl, rfl, by decide +kernel, rfl, by decide +kernel, by decide +kernel⟩
abbrev s_refuse_too_great : Stmt := top 15
theorem sc_refuse_too_great : FnScope ["tree"] ["tree"] (defScope s_refuse_too_great) := ⟨rfl, rfl, rfl, by decide +kernel, rfl, by decide +kernel, by decide +kernel⟩
abbrev s_filled : Stmt := top 16
theorem sc_filled : FnScope ["tree", "filling", "whole"] ["tree", "filling"] (defScope s_filled) := ⟨rfl, rfl, rfl, by decide +kernel, rfl, by decide +kernel, by decide +kernel⟩
abbrev s_one_behind : Stmt := top 17
theorem sc_one_behind : FnScope ["one", "other", "both", "number"] ["one", "other"] (defScope s_one_behind) := ⟨rfl, rfl, rfl, by decide +kernel, rfl, by decide +kernel, by decide +kernel⟩
abbrev s_plain : Stmt := top 18
theorem sc_plain : FnScope ["tree", "naming", "count", "number"] ["tree"] (defScope s_plain) := ⟨rfl, rfl, rfl, by decide +kernel, rfl, by decide +kernel, by decide +kernel⟩
abbrev s_alike : Stmt := top 19
theorem sc_alike : FnScope ["one", "other"] ["one", "other"] (defScope s_alike) := ⟨rfl, rfl, rfl, by decide +kernel, rfl, by decide +kernel, by decide +kernel⟩
abbrev s__law_cell_at : Stmt := top 21
theorem sc__law_cell_at : FnScope ["script", "k"] ["script", "k"] (defScope s__law_cell_at) := ⟨rfl, rfl, rfl, by decide +kernel, rfl, by decide +kernel, by decide +kernel⟩
abbrev s__law_draw : Stmt := top 22
theorem sc__law_draw : FnScope ["cell", "k", "many", "number"] ["cell", "k", "many"] (defScope s__law_draw) := ⟨rfl, rfl, rfl, by decide +kernel, rfl, by decide +kernel, by decide +kernel⟩
abbrev s__law_alike : Stmt := top 23
theorem sc__law_alike : FnScope ["found", "due", "k"] ["found", "due"] (defScope s__law_alike) := ⟨rfl, rfl, rfl, by decide +kernel, rfl, by decide +kernel, by decide +kernel⟩
abbrev s__law_names : Stmt := top 24
theorem sc__law_names : FnScope ["cell", "some", "size", "at", "names", "j", "many", "here", "step", "k", "sign"] ["cell"] (defScope s__law_names) := ⟨rfl, rfl, rfl, by decide +kernel, rfl, by decide +kernel, by decide +kernel⟩
abbrev s__law_leaf : Stmt := top 25
theorem sc__law_leaf : FnScope ["cell", "first", "names", "shares", "numbers"] ["cell", "first", "names", "shares"] (defScope s__law_leaf) := ⟨rfl, rfl, rfl, by decide +kernel, rfl, by decide +kernel, by decide +kernel⟩
abbrev s__law_tree : Stmt := top 26
theorem sc__law_tree : FnScope ["cells", "first", "shares", "names", "frames", "cell", "way", "top", "parts", "whole", "time"] ["cells", "first", "shares"] (defScope s__law_tree) := ⟨rfl, rfl, rfl, by decide +kernel, rfl, by decide +kernel, by decide +kernel⟩
abbrev s__law_places : Stmt := top 27
theorem sc__law_places : FnScope ["tree", "found", "waiting", "place", "here", "k"] ["tree"] (defScope s__law_places) := ⟨rfl, rfl, rfl, by decide +kernel, rfl, by decide +kernel, by decide +kernel⟩
abbrev s_law : Stmt := top 28
theorem sc_law : FnScope ["script", "first", "tree", "standing", "place", "here", "step", "there", "back", "home", "k", "number", "other"] ["script"] (defScope s_law) := ⟨rfl, rfl, rfl, by decide +kernel, rfl, by decide +kernel, by decide +kernel⟩
structure Txt (K : PySem.W.Frag) (mg : Str → Option Value) : Prop where
  f_parts_of : Stands K mg "parts_of" s_parts_of ["tree"]
  f_knots_of : Stands K mg "knots_of" s_knots_of ["tree"]
  f_depth_of : Stands K mg "depth_of" s_depth_of ["tree"]
  f_gather_places : Stands K mg "gather_places" s_gather_places ["tree", "place", "places"]
  f_places_of : Stands K mg "places_of" s_places_of ["tree"]
  f_gather_blanks : Stands K mg "gather_blanks" s_gather_blanks ["tree", "found"]
  f_blanks_of : Stands K mg "blanks_of" s_blanks_of ["tree"]
  f_exchanged : Stands K mg "exchanged" s_exchanged ["tree", "filling"]
  f_refuse_too_great : Stands K mg "refuse_too_great" s_refuse_too_great ["tree"]
  f_filled : Stands K mg "filled" s_filled ["tree", "filling"]
  f_one_behind : Stands K mg "one_behind" s_one_behind ["one", "other"]
  f_plain : Stands K mg "plain" s_plain ["tree"]
  f_alike : Stands K mg "alike" s_alike ["one", "other"]
  f__law_cell_at : Stands K mg "_law_cell_at" s__law_cell_at ["script", "k"]
  f__law_draw : Stands K mg "_law_draw" s__law_draw ["cell", "k", "many"]
  f__law_alike : Stands K mg "_law_alike" s__law_alike ["found", "due"]
  f__law_names : Stands K mg "_law_names" s__law_names ["cell"]
  f__law_leaf : Stands K mg "_law_leaf" s__law_leaf ["cell", "first", "names", "shares"]
  f__law_tree : Stands K mg "_law_tree" s__law_tree ["cells", "first", "shares"]
  f__law_places : Stands K mg "_law_places" s__law_places ["tree"]
  m_bool : mg "bool" = none
  m_enumerate : mg "enumerate" = none
  m_int : mg "int" = none
  m_isinstance : mg "isinstance" = none
  m_len : mg "len" = none
  m_list : mg "list" = none
  m_max : mg "max" = none
  m_min : mg "min" = none
  m_range : mg "range" = none
  m_str : mg "str" = none
  m_tuple : mg "tuple" = none
  g_MOST_TOLD_DEPTH : ∃ t, mg "MOST_TOLD_DEPTH" = some (.int 60 t)
  g_MOST_TOLD_KNOTS : ∃ t, mg "MOST_TOLD_KNOTS" = some (.int 400 t)
section
variable {P : Program} {w : World} {K : PySem.W.Frag} {mg : Str → Option Value} {base : Heap}
def kLaw : Nat := 160
theorem rt_done {Q : KD} {d : D} {M : DH} (q : Q d M) : (endsOf Q).rt d M := ⟨M, Sub.refl M, q⟩
/-! ### trees -/
inductive Tree where
  | block (n : Str) (ps : List Tree)
  | blank (k : Int)
mutual
def Tree.d : Tree → D
  | .block n ps => .tup [.str "block", .str n, .tup (Tree.ds ps)]
  | .blank k => .tup [.str "blank", .int k]
def Tree.ds : List Tree → List D
  | [] => []
  | t :: ts => t.d :: Tree.ds ts
end
mutual
def Tree.knots : Tree → Nat
  | .block _ ps => Tree.knotss ps + 1
  | .blank _ => 1
def Tree.knotss : List Tree → Nat
  | [] => 0
  | t :: ts => t.knots + Tree.knotss ts
end
mutual
def Tree.depth : Tree → Nat
  | .block _ ps => Tree.depths ps + 1
  | .blank _ => 1
def Tree.depths : List Tree → Nat
  | [] => 0
  | t :: ts => max t.depth (Tree.depths ts)
end
def Tree.parts : Tree → List Tree
  | .block _ ps => ps
  | .blank _ => []
theorem ds_map : ∀ ts : List Tree, Tree.ds ts = ts.map Tree.d
  | [] => rfl
  | t :: ts => by rw [Tree.ds, ds_map ts]; rfl
theorem knots_parts (t : Tree) : t.knots = Tree.knotss t.parts + 1 := by cases t <;> rfl
theorem depth_parts (t : Tree) : t.depth = Tree.depths t.parts + 1 := by cases t <;> rfl
theorem depth_get : ∀ {ts : List Tree} {i : Nat} {t : Tree}, ts[i]? = some t → t.depth ≤ Tree.depths ts
  | [], _, _, e => by simp at e
  | t :: ts, 0, _, e => by simp at e; subst e; simp only [Tree.depths]; omega
  | t :: ts, i + 1, _, e => by
    have := depth_get (ts := ts) (i := i) (by simpa using e)
    simp only [Tree.depths]; omega
theorem knotss_take : ∀ (ts : List Tree) (i : Nat) (t : Tree), ts[i]? = some t → Tree.knotss (ts.take (i + 1)) = Tree.knotss (ts.take i) + t.knots
  | [], _, _, e => by simp at e
  | t :: ts, 0, _, e => by simp at e; subst e; simp [Tree.knotss]
  | t :: ts, i + 1, _, e => by
    have := knotss_take ts i _ (by simpa using e)
    simp only [List.take_succ_cons, Tree.knotss] at this ⊢
    omega
theorem depths_take : ∀ (ts : List Tree) (i : Nat) (t : Tree), ts[i]? = some t → Tree.depths (ts.take (i + 1)) = max (Tree.depths (ts.take i)) t.depth
  | [], _, _, e => by simp at e
  | t :: ts, 0, _, e => by simp at e; subst e; simp [Tree.depths]
  | t :: ts, i + 1, _, e => by
    have := depths_take ts i _ (by simpa using e)
    simp only [List.take_succ_cons, Tree.depths] at this ⊢
    omega
/-! ### the program -/
def spParts : SpD := fun ds M Q => ∃ t : Tree, ds = [t.d] ∧ Q (.tup (t.parts.map Tree.d)) M
theorem ok_parts_of (T : Txt K mg) : FnD P w K mg base 1 "parts_of" ["tree"] spParts := by
  refine def_ok T.f_parts_of sc_parts_of (fun ds M Q h => ?_) fun f cdv A outer s H E hr => ⟨_, (ss_cons (s_if (dt_cmp (od_eq hr) (d_ix (d_var 0) d_int) d_str (nomark _)) (ss_one (s_ret (d_tup a_nil))) ss_nil)
 (ss_one (s_ret (d_ix (d_var 0) d_int)))), fun ds M Q h => ?_⟩
  · obtain ⟨t, rfl, _⟩ := h; rfl
  · obtain ⟨t, rfl, q⟩ := h
    cases t with
    | blank k => exact rt_done q
    | block n ps =>
      have q' : Q (.tup (Tree.ds ps)) M := by rw [ds_map]; exact q
      exact rt_done q'
theorem fn_none {x : Str} {ps : List Str} {sp : SpD} {st : Stmt} (T : Stands K mg x st ps) (no : ∀ ds M Q, ¬ sp ds M Q) : FnD P w K mg base 0 x ps sp := by
  obtain ⟨f, fd, F, hb, hm⟩ := T
  have no' : ∀ vs H Q E, ¬ lowSp K sp vs H Q E := fun vs H Q E ⟨ds, M, Q', _, _, h, _⟩ => no ds M Q' h
  exact ⟨f, fd, ⟨fun vs H Q E h => absurd h (no' vs H Q E), fun A outer s H args us vs Q E _ _ _ _ h => absurd h (no' vs H Q E)⟩, hm, F.kp, hb⟩
theorem depth_pos (t : Tree) : 0 < t.depth := by rw [depth_parts]; omega
mutual
theorem depth_le_knots : ∀ t : Tree, t.depth ≤ t.knots
  | .block n ps => by rw [Tree.depth, Tree.knots]; have := depths_le_knotss ps; omega
  | .blank k => Nat.le_refl _
theorem depths_le_knotss : ∀ ts : List Tree, Tree.depths ts ≤ Tree.knotss ts
  | [] => Nat.le_refl _
  | t :: ts => by rw [Tree.depths, Tree.knotss]; have := depth_le_knots t; have := depths_le_knotss ts; omega
end
theorem length_knotss : ∀ ts : List Tree, ts.length ≤ Tree.knotss ts
  | [] => Nat.le_refl _
  | t :: ts => by have h1 := length_knotss ts; have h2 := depth_le_knots t; have h3 := depth_pos t; rw [List.length_cons, Tree.knotss]; omega
def spKnots (n : Nat) : SpD := fun ds M Q => ∃ t : Tree, ds = [t.d] ∧ t.depth ≤ n ∧ Q (.int t.knots) M
def spDepth (n : Nat) : SpD := fun ds M Q => ∃ t : Tree, ds = [t.d] ∧ t.depth ≤ n ∧ Q (.int t.depth) M
theorem ok_knots_of (T : Txt K mg) : ∀ n : Nat, FnD P w K mg base (n + 1) "knots_of" ["tree"] (spKnots n)
  | 0 => (fn_none T.f_knots_of fun ds M Q ⟨t, _, h, _⟩ => by have := depth_pos t; omega).mono (by omega)
  | n + 1 => by
    have F_knots_of := ok_knots_of T n
    have F_parts_of := ok_parts_of (P := P) (w := w) (base := base) T
    refine def_ok T.f_knots_of sc_knots_of (fun ds M Q h => ?_) fun f cdv A outer s H E hr => ⟨_, (ss_cons (s_set (i := 1) sc_knots_of.nd d_int)
 (ss_cons (s_for PassesOwn.never rfl (d_call F_parts_of (hr.mono (by omega)) (a_cons (d_var 0) a_nil)) (g_name (i := 2) sc_knots_of.nd) (ss_one (s_aug (i := 1) sc_knots_of.nd (d_call F_knots_of (hr.mono (by omega)) (a_cons (d_var 2) a_nil)))))
 (ss_one (s_ret (d_var 1))))), fun ds M Q h => ?_⟩
    · obtain ⟨t, rfl, _⟩ := h; rfl
    · obtain ⟨t, rfl, hd, q⟩ := h
      rw [depth_parts] at hd
      rw [knots_parts] at q
      simp only [DL.sSeq, DL.sAsg, DL.sRet, DL.sRetN, DL.sIf, DL.sNext, DL.sDrop, DL.sAug, DL.sFor, DL.sFor1, DL.sFor2, DL.sFor3, DL.sWhile, DL.hName, DL.hTup, DL.hCons, DL.hNil, DL.hSub, DL.eVar, DL.eC, DL.eOp, DL.eTest, DL.eChain, DL.eTup, DL.eLst, DL.eCB, DL.eCall, DL.eSl, DL.eBM, DL.eBM0, DL.eTru, DL.eNeg, DL.eIfx, DL.eNil, DL.eCons, DL.oNone, DL.oSome, DL.bAnd, DL.bOr, DL.bNot, DL.vAnd, DL.vOr, DL.vNot, DL.dI, DL.dIC, DL.addD, DL.mulSD, DL.leSD, DL.eqD, DL.neD, DL.inD, DL.inXD, DL.eDict0, DL.ixKD, DL.setKD, DL.hSubK, DL.isDic, DL.getKD, DL.eGet2, DL.lenKD, DL.listKD, DL.keyOf, DL.sForE, DL.forED, DL.sForE1, DL.forE1, DL.sForK, DL.forKD, DL.isD, DL.neXD, DL.compR, DL.eCompR, DL.ixD, DL.slD, DL.appendD, DL.popD, DL.lenD, DL.intD, DL.max2D, DL.min2D, DL.tupleD, DL.listD, DL.maxL, DL.allD, DL.truD, DL.tyD, DL.iaddD, DL.startD, DL.onBl, DL.onInt, DL.onVal, DL.onSome, DL.setD, DL.forD, DL.for1D, DL.for2D, DL.for3D, DL.compX, DL.eComp, DL.tTrue, List.map_cons, List.map_nil, List.replicate, List.length_cons, List.length_nil, Nat.sub_self, List.append_nil, List.nil_append, List.cons_append, List.getElem?_cons_zero, List.getElem?_cons_succ, List.set_cons_zero, List.set_cons_succ, Nat.reduceAdd, Nat.reduceSub, Nat.zero_add, if_true, if_false, ite_true, ite_false, Bool.not_true, Bool.not_false, Bool.false_eq_true, reduceCtorEq]
      refine ⟨t, rfl, ?_⟩
      refine ⟨fun i τ M' => (∃ v : Option D, τ = [some t.d, some (.int ((Tree.knotss (t.parts.take i) + 1 : Nat) : Int)), v]) ∧ M' = M, ⟨⟨none, rfl⟩, rfl⟩, fun _ _ _ _ _ => trivial, ?_, ?_⟩
      · rintro i d τ M' ed ⟨⟨v, rfl⟩, rfl⟩
        rw [List.getElem?_map] at ed
        cases e : t.parts[i]? with
        | none => rw [e] at ed; cases ed
        | some p =>
          rw [e] at ed
          cases ed
          have h1 := depth_get e
          have h2 := knotss_take _ _ _ e
          refine ⟨p, rfl, by omega, ⟨some p.d, ?_⟩, rfl⟩
          rw [h2]
          show [_, some (D.int (((Tree.knotss (t.parts.take i) + 1 : Nat) : Int) + (p.knots : Int))), _] = _
          have e3 : (((Tree.knotss (t.parts.take i) + 1 : Nat) : Int) + (p.knots : Int)) = ((Tree.knotss (t.parts.take i) + p.knots + 1 : Nat) : Int) := by omega
          rw [e3]
      · rintro τ M' ⟨⟨v, rfl⟩, rfl⟩
        rw [List.length_map, List.take_length]
        exact rt_done q
theorem ok_depth_of (T : Txt K mg) : ∀ n : Nat, FnD P w K mg base (n + 1) "depth_of" ["tree"] (spDepth n)
  | 0 => (fn_none T.f_depth_of fun ds M Q ⟨t, _, h, _⟩ => by have := depth_pos t; omega).mono (by omega)
  | n + 1 => by
    have m_max := T.m_max
    have F_depth_of := ok_depth_of T n
    have F_parts_of := ok_parts_of (P := P) (w := w) (base := base) T
    refine def_ok T.f_depth_of sc_depth_of (fun ds M Q h => ?_) fun f cdv A outer s H E hr => ⟨_, (ss_cons (s_set (i := 1) sc_depth_of.nd d_int)
 (ss_cons (s_for PassesOwn.never rfl (d_call F_parts_of (hr.mono (by omega)) (a_cons (d_var 0) a_nil)) (g_name (i := 2) sc_depth_of.nd) (ss_one (s_set (i := 1) sc_depth_of.nd (d_callB (cd_max2 rfl) rfl m_max bt_max (a_cons (d_var 1) (a_cons (d_call F_depth_of (hr.mono (by omega)) (a_cons (d_var 2) a_nil)) a_nil))))))
 (ss_one (s_ret (d_op od_add (d_var 1) d_int))))), fun ds M Q h => ?_⟩
    · obtain ⟨t, rfl, _⟩ := h; rfl
    · obtain ⟨t, rfl, hd, q⟩ := h
      rw [depth_parts] at hd q
      simp only [DL.sSeq, DL.sAsg, DL.sRet, DL.sRetN, DL.sIf, DL.sNext, DL.sDrop, DL.sAug, DL.sFor, DL.sFor1, DL.sFor2, DL.sFor3, DL.sWhile, DL.hName, DL.hTup, DL.hCons, DL.hNil, DL.hSub, DL.eVar, DL.eC, DL.eOp, DL.eTest, DL.eChain, DL.eTup, DL.eLst, DL.eCB, DL.eCall, DL.eSl, DL.eBM, DL.eBM0, DL.eTru, DL.eNeg, DL.eIfx, DL.eNil, DL.eCons, DL.oNone, DL.oSome, DL.bAnd, DL.bOr, DL.bNot, DL.vAnd, DL.vOr, DL.vNot, DL.dI, DL.dIC, DL.addD, DL.mulSD, DL.leSD, DL.eqD, DL.neD, DL.inD, DL.inXD, DL.eDict0, DL.ixKD, DL.setKD, DL.hSubK, DL.isDic, DL.getKD, DL.eGet2, DL.lenKD, DL.listKD, DL.keyOf, DL.sForE, DL.forED, DL.sForE1, DL.forE1, DL.sForK, DL.forKD, DL.isD, DL.neXD, DL.compR, DL.eCompR, DL.ixD, DL.slD, DL.appendD, DL.popD, DL.lenD, DL.intD, DL.max2D, DL.min2D, DL.tupleD, DL.listD, DL.maxL, DL.allD, DL.truD, DL.tyD, DL.iaddD, DL.startD, DL.onBl, DL.onInt, DL.onVal, DL.onSome, DL.setD, DL.forD, DL.for1D, DL.for2D, DL.for3D, DL.compX, DL.eComp, DL.tTrue, List.map_cons, List.map_nil, List.replicate, List.length_cons, List.length_nil, Nat.sub_self, List.append_nil, List.nil_append, List.cons_append, List.getElem?_cons_zero, List.getElem?_cons_succ, List.set_cons_zero, List.set_cons_succ, Nat.reduceAdd, Nat.reduceSub, Nat.zero_add, if_true, if_false, ite_true, ite_false, Bool.not_true, Bool.not_false, Bool.false_eq_true, reduceCtorEq]
      refine ⟨t, rfl, ?_⟩
      refine ⟨fun i τ M' => (∃ v : Option D, τ = [some t.d, some (.int ((Tree.depths (t.parts.take i) : Nat) : Int)), v]) ∧ M' = M, ⟨⟨none, rfl⟩, rfl⟩, fun _ _ _ _ _ => trivial, ?_, ?_⟩
      · rintro i d τ M' ed ⟨⟨v, rfl⟩, rfl⟩
        rw [List.getElem?_map] at ed
        cases e : t.parts[i]? with
        | none => rw [e] at ed; cases ed
        | some p =>
          rw [e] at ed
          cases ed
          have h1 := depth_get e
          have h2 := depths_take _ _ _ e
          refine ⟨p, rfl, by omega, ⟨some p.d, ?_⟩, rfl⟩
          rw [h2]
          show [_, some (D.int (if (p.depth : Int) > ((Tree.depths (t.parts.take i) : Nat) : Int) then (p.depth : Int) else ((Tree.depths (t.parts.take i) : Nat) : Int))), _] = _
          have e3 : (if (p.depth : Int) > ((Tree.depths (t.parts.take i) : Nat) : Int) then (p.depth : Int) else ((Tree.depths (t.parts.take i) : Nat) : Int)) = ((max (Tree.depths (t.parts.take i)) p.depth : Nat) : Int) := by split <;> omega
          rw [e3]
      · rintro τ M' ⟨⟨v, rfl⟩, rfl⟩
        rw [List.length_map, List.take_length]
        refine rt_done ?_
        have e3 : ((Tree.depths t.parts : Nat) : Int) + 1 = ((Tree.depths t.parts + 1 : Nat) : Int) := by omega
        rw [e3]
        exact q
def spAlike : SpD := fun ds M Q => ∃ i : Int, ds = [.int i, .int i] ∧ Q (.bl true) M
theorem ok_alike (T : Txt K mg) : FnD P w K mg base 2 "_law_alike" ["found", "due"] spAlike := by
  have m_bool := T.m_bool
  have m_int := T.m_int
  have m_isinstance := T.m_isinstance
  have m_len := T.m_len
  have m_list := T.m_list
  have m_range := T.m_range
  have m_str := T.m_str
  have m_tuple := T.m_tuple
  have F__law_alike : FnD P w K mg base 0 "_law_alike" ["found", "due"] (fun _ _ _ => False) := fn_none T.f__law_alike fun _ _ _ h => h
  refine def_ok T.f__law_alike sc__law_alike (fun ds M Q h => ?_) fun f cdv A outer s H E hr => ⟨_, (ss_cons (s_if (dt_val (d_callB cd_isi rfl m_isinstance bt_isinstance (a_cons (d_var 1) (a_cons (d_ty rfl m_bool bt_bool) a_nil)))) (ss_one (s_ret (d_and (d_callB cd_isi rfl m_isinstance bt_isinstance (a_cons (d_var 0) (a_cons (d_ty rfl m_bool bt_bool) a_nil))) (d_one (d_cmp (od_eq hr) (d_var 0) (d_var 1) (nomark _)))))) ss_nil)
 (ss_cons (s_if (dt_val (d_callB cd_isi rfl m_isinstance bt_isinstance (a_cons (d_var 1) (a_cons (d_ty rfl m_int bt_int) a_nil)))) (ss_one (s_ret (d_and (d_callB cd_isi rfl m_isinstance bt_isinstance (a_cons (d_var 0) (a_cons (d_ty rfl m_int bt_int) a_nil))) (d_and (d_not (d_callB cd_isi rfl m_isinstance bt_isinstance (a_cons (d_var 0) (a_cons (d_ty rfl m_bool bt_bool) a_nil)))) (d_one (d_cmp (od_eq hr) (d_var 0) (d_var 1) (nomark _))))))) ss_nil)
 (ss_cons (s_if (dt_val (d_callB cd_isi rfl m_isinstance bt_isinstance (a_cons (d_var 1) (a_cons (d_ty rfl m_str bt_str) a_nil)))) (ss_one (s_ret (d_and (d_callB cd_isi rfl m_isinstance bt_isinstance (a_cons (d_var 0) (a_cons (d_ty rfl m_str bt_str) a_nil))) (d_one (d_cmp (od_eq hr) (d_var 0) (d_var 1) (nomark _)))))) ss_nil)
 (ss_cons (s_if (dt_val (d_callB cd_isi rfl m_isinstance bt_isinstance (a_cons (d_var 1) (a_cons (d_ty rfl m_tuple bt_tuple) a_nil)))) (ss_one (s_if (dt_not (dt_val (d_callB cd_isi rfl m_isinstance bt_isinstance (a_cons (d_var 0) (a_cons (d_ty rfl m_tuple bt_tuple) a_nil))))) (ss_one (s_ret d_bl)) ss_nil)) (ss_one (s_if (dt_not (dt_val (d_callB cd_isi rfl m_isinstance bt_isinstance (a_cons (d_var 0) (a_cons (d_ty rfl m_list bt_list) a_nil))))) (ss_one (s_ret d_bl)) ss_nil)))
 (ss_cons (s_if (dt_cmp (od_ne hr) (d_callB cd_len rfl m_len bt_len (a_cons (d_var 0) a_nil)) (d_callB cd_len rfl m_len bt_len (a_cons (d_var 1) a_nil)) (nomark _)) (ss_one (s_ret d_bl)) ss_nil)
 (ss_cons (s_for1 PassesOwn.never rfl m_range (a_cons (d_callB cd_len rfl m_len bt_len (a_cons (d_var 1) a_nil)) a_nil) (g_name (i := 2) sc__law_alike.nd) (ss_one (s_if (dt_not (dt_val (d_call F__law_alike (hr.mono (by omega)) (a_cons (d_ix (d_var 0) (d_var 2)) (a_cons (d_ix (d_var 1) (d_var 2)) a_nil))))) (ss_one (s_ret d_bl)) ss_nil)))
 (ss_one (s_ret d_bl)))))))), fun ds M Q h => ?_⟩
  · obtain ⟨i, rfl, _⟩ := h; rfl
  · obtain ⟨i, rfl, q⟩ := h
    have e : (endsOf Q).rt (.bl (decide (i = i))) M := by rw [decide_eq_true rfl]; exact rt_done q
    exact e
/-! ### the law's own defs -/
theorem at_some {α : Type} {xs : List α} {i : Int} (h0 : 0 ≤ i) (h1 : i < xs.length) : ∃ k, atI xs i = some k := by
  have e : i = ((i.toNat : Nat) : Int) := by omega
  have hl : i.toNat < xs.length := by omega
  have h := atI_nat (xs := xs) (j := i.toNat) (v := xs[i.toNat]) (by rw [List.getElem?_eq_getElem hl])
  rw [← e] at h
  exact ⟨_, h⟩
theorem str_app (a b : Str) : (a ++ b).length = a.length + b.length := by
  show (a.cps ++ b.cps).size = _
  rw [Array.size_append]
  rfl
theorem some_len : (Str.ofString "abcdefghijklmnopqrstuvwxyz0123456789").cps.toList.length = 36 := by decide +kernel
def spDraw : SpD := fun ds M Q => ∃ c k m : Int, ds = [.int c, .int k, .int m] ∧ (0 ≤ k ∧ k ≤ 1000) ∧ 0 < m ∧ ∀ r : Int, 0 ≤ r → r < m → Q (.int r) M
theorem ok_draw (T : Txt K mg) : FnD P w K mg base 1 "_law_draw" ["cell", "k", "many"] spDraw := by
  refine def_ok T.f__law_draw sc__law_draw (fun ds M Q h => ?_) fun f cdv A outer s H E hr => ⟨_, (ss_cons (s_set (i := 3) sc__law_draw.nd (d_op od_mod (d_op od_mulS (d_op od_add (d_var 0) d_int) (d_op od_add d_int (d_op od_mulS (d_op od_mulS d_int (d_var 1)) (d_var 1)))) d_int))
 (ss_one (s_ret (d_op od_mod (d_op od_fdiv (d_op od_mod (d_op od_mulS (d_var 3) (d_var 3)) d_int) d_int) (d_var 2))))), fun ds M Q h => ?_⟩
  · obtain ⟨c, k, m, rfl, _⟩ := h; rfl
  · obtain ⟨c, k, m, rfl, hk, hm, q⟩ := h
    have hk2 : 0 ≤ k * k := Int.mul_nonneg hk.1 hk.1
    have hk3 : k * k ≤ 1000 * 1000 := Int.mul_le_mul hk.2 hk.2 hk.1 (by decide)
    have hk4 : 7919 * k * k = 7919 * (k * k) := Int.mul_assoc _ _ _
    simp only [DL.sSeq, DL.sAsg, DL.sRet, DL.sRetN, DL.sIf, DL.sNext, DL.sDrop, DL.sAug, DL.sFor, DL.sFor1, DL.sFor2, DL.sFor3, DL.sWhile, DL.hName, DL.hTup, DL.hCons, DL.hNil, DL.hSub, DL.eVar, DL.eC, DL.eOp, DL.eTest, DL.eChain, DL.eTup, DL.eLst, DL.eCB, DL.eCall, DL.eSl, DL.eBM, DL.eBM0, DL.eTru, DL.eNeg, DL.eIfx, DL.eNil, DL.eCons, DL.oNone, DL.oSome, DL.bAnd, DL.bOr, DL.bNot, DL.vAnd, DL.vOr, DL.vNot, DL.dI, DL.dIC, DL.addD, DL.mulSD, DL.leSD, DL.eqD, DL.neD, DL.inD, DL.inXD, DL.eDict0, DL.ixKD, DL.setKD, DL.hSubK, DL.isDic, DL.getKD, DL.eGet2, DL.lenKD, DL.listKD, DL.keyOf, DL.sForE, DL.forED, DL.sForE1, DL.forE1, DL.sForK, DL.forKD, DL.isD, DL.neXD, DL.compR, DL.eCompR, DL.ixD, DL.slD, DL.appendD, DL.popD, DL.lenD, DL.intD, DL.max2D, DL.min2D, DL.tupleD, DL.listD, DL.maxL, DL.allD, DL.truD, DL.tyD, DL.iaddD, DL.startD, DL.onBl, DL.onInt, DL.onVal, DL.onSome, DL.setD, DL.forD, DL.for1D, DL.for2D, DL.for3D, DL.compX, DL.eComp, DL.tTrue, List.map_cons, List.map_nil, List.replicate, List.length_cons, List.length_nil, Nat.sub_self, List.append_nil, List.nil_append, List.cons_append, List.getElem?_cons_zero, List.getElem?_cons_succ, List.set_cons_zero, List.set_cons_succ, Nat.reduceAdd, Nat.reduceSub, Nat.zero_add, if_true, if_false, ite_true, ite_false, Bool.not_true, Bool.not_false, Bool.false_eq_true, reduceCtorEq]
    generalize hn : (c + 1) * (48271 + 7919 * k * k) % 2147483647 = n
    have n0 : 0 ≤ n := by rw [← hn]; exact Int.emod_nonneg _ (by decide)
    have n1 : n < 2147483647 := by rw [← hn]; exact Int.emod_lt_of_pos _ (by decide)
    refine ⟨.inl ⟨by decide, by decide⟩, .inr ⟨by omega, by omega⟩, .inr ⟨by omega, by omega⟩, by decide, .inl ⟨by omega, by omega⟩, by decide, ⟨by decide, by decide⟩, hm, ?_⟩
    exact rt_done (q _ (Int.emod_nonneg _ (by omega)) (Int.emod_lt_of_pos _ hm))
def spCell : SpD := fun ds M Q => ∃ (ns : List Int) (k : Int), ds = [.rol (ns.map .int), .int k] ∧ 0 ≤ k ∧ ∀ c : Int, Q (.int c) M
theorem ok_cell (T : Txt K mg) : FnD P w K mg base 1 "_law_cell_at" ["script", "k"] spCell := by
  have m_len := T.m_len
  refine def_ok T.f__law_cell_at sc__law_cell_at (fun ds M Q h => ?_) fun f cdv A outer s H E hr => ⟨_, (ss_cons (s_if (dt_cmp od_lt (d_var 1) (d_callB cd_len rfl m_len bt_len (a_cons (d_var 0) a_nil)) (nomark _)) (ss_one (s_ret (d_ix (d_var 0) (d_var 1)))) ss_nil)
 (ss_one (s_ret d_int))), fun ds M Q h => ?_⟩
  · obtain ⟨ns, k, rfl, _⟩ := h; rfl
  · obtain ⟨ns, k, rfl, hk, q⟩ := h
    simp only [DL.sSeq, DL.sAsg, DL.sRet, DL.sRetN, DL.sIf, DL.sNext, DL.sDrop, DL.sAug, DL.sFor, DL.sFor1, DL.sFor2, DL.sFor3, DL.sWhile, DL.hName, DL.hTup, DL.hCons, DL.hNil, DL.hSub, DL.eVar, DL.eC, DL.eOp, DL.eTest, DL.eChain, DL.eTup, DL.eLst, DL.eCB, DL.eCall, DL.eSl, DL.eBM, DL.eBM0, DL.eTru, DL.eNeg, DL.eIfx, DL.eNil, DL.eCons, DL.oNone, DL.oSome, DL.bAnd, DL.bOr, DL.bNot, DL.vAnd, DL.vOr, DL.vNot, DL.dI, DL.dIC, DL.addD, DL.mulSD, DL.leSD, DL.eqD, DL.neD, DL.inD, DL.inXD, DL.eDict0, DL.ixKD, DL.setKD, DL.hSubK, DL.isDic, DL.getKD, DL.eGet2, DL.lenKD, DL.listKD, DL.keyOf, DL.sForE, DL.forED, DL.sForE1, DL.forE1, DL.sForK, DL.forKD, DL.isD, DL.neXD, DL.compR, DL.eCompR, DL.ixD, DL.slD, DL.appendD, DL.popD, DL.lenD, DL.intD, DL.max2D, DL.min2D, DL.tupleD, DL.listD, DL.maxL, DL.allD, DL.truD, DL.tyD, DL.iaddD, DL.startD, DL.onBl, DL.onInt, DL.onVal, DL.onSome, DL.setD, DL.forD, DL.for1D, DL.for2D, DL.for3D, DL.compX, DL.eComp, DL.tTrue, List.map_cons, List.map_nil, List.replicate, List.length_cons, List.length_nil, Nat.sub_self, List.append_nil, List.nil_append, List.cons_append, List.getElem?_cons_zero, List.getElem?_cons_succ, List.set_cons_zero, List.set_cons_succ, Nat.reduceAdd, Nat.reduceSub, Nat.zero_add, if_true, if_false, ite_true, ite_false, Bool.not_true, Bool.not_false, Bool.false_eq_true, reduceCtorEq]
    by_cases h1 : k < ((ns.map D.int).length : Int)
    · rw [if_pos (decide_eq_true h1)]
      obtain ⟨v, hv⟩ := at_some (xs := ns.map D.int) hk h1
      obtain ⟨j, _, hj, _⟩ := atI_get hv
      obtain ⟨c, _, rfl⟩ := List.mem_map.mp (List.mem_of_getElem? hj)
      rw [hv]
      exact rt_done (q c)
    · rw [if_neg (by simpa using h1)]
      exact rt_done (q 0)
/-- four texts, of at most n signs -/
def NamesL (n : Nat) (xs : List D) : Prop := xs.length = 4 ∧ ∀ d ∈ xs, ∃ z : Str, d = .str z ∧ z.length ≤ n
def NamesK (n k : Nat) (xs : List D) : Prop := xs.length = 4 ∧ ∀ (i : Nat) (d : D), xs[i]? = some d → ∃ z : Str, d = .str z ∧ z.length ≤ n + (if i < k then 1 else 0)
theorem NamesL.k0 {n : Nat} {xs : List D} (h : NamesL n xs) : NamesK n 0 xs := ⟨h.1, fun i d e => let ⟨z, e1, e2⟩ := h.2 d (List.mem_of_getElem? e); ⟨z, e1, by omega⟩⟩
theorem NamesK.k4 {n : Nat} {xs : List D} (h : NamesK n 4 xs) : NamesL (n + 1) xs := ⟨h.1, fun d hd => by
  obtain ⟨i, hi, e⟩ := List.getElem_of_mem hd
  obtain ⟨z, e1, e2⟩ := h.2 i d (by rw [List.getElem?_eq_getElem hi, e])
  exact ⟨z, e1, by split at e2 <;> omega⟩⟩
def spNames : SpD := fun ds M Q => ∃ c : Int, ds = [.int c] ∧ ∀ l xs, M l = none → NamesL 12 xs → Q (.ref l) (updM M l (.lst xs))
theorem ok_names (T : Txt K mg) (F__law_draw : FnD P w K mg base 1 "_law_draw" ["cell", "k", "many"] spDraw) : FnD P w K mg base 2 "_law_names" ["cell"] spNames := by
  have m_int := T.m_int
  have m_range := T.m_range
  refine def_ok T.f__law_names sc__law_names (fun ds M Q h => ?_) fun f cdv A outer s H E hr => ⟨_, (ss_cons (s_set (i := 1) sc__law_names.nd d_str)
 (ss_cons (s_set (i := 2) sc__law_names.nd (d_op od_add d_int (d_call F__law_draw (hr.mono (by omega)) (a_cons (d_var 0) (a_cons d_int (a_cons d_int a_nil))))))
 (ss_cons (s_set (i := 3) sc__law_names.nd (d_call F__law_draw (hr.mono (by omega)) (a_cons (d_var 0) (a_cons d_int (a_cons (d_var 2) a_nil)))))
 (ss_cons (s_set (i := 4) sc__law_names.nd (d_lst (a_cons d_str (a_cons d_str (a_cons d_str (a_cons d_str a_nil))))))
 (ss_cons (s_for1 PassesOwn.never rfl m_range (a_cons (d_var 2) a_nil) (g_name (i := 5) sc__law_names.nd) (ss_cons (s_set (i := 6) sc__law_names.nd (d_op od_add d_int (d_op od_mulS d_int (d_callTy cd_int rfl m_int bt_int (a_cons (d_cmp od_gt (d_var 5) d_int (nomark _)) a_nil)))))
 (ss_cons (s_set (i := 7) sc__law_names.nd (d_call F__law_draw (hr.mono (by omega)) (a_cons (d_var 0) (a_cons (d_op od_add d_int (d_var 5)) (a_cons (d_var 6) a_nil)))))
 (ss_cons (s_set (i := 8) sc__law_names.nd (d_callTy cd_int rfl m_int bt_int (a_cons (d_cmp (od_eq hr) (d_var 5) (d_var 3) (nomark _)) a_nil)))
 (ss_one (s_for1 PassesOwn.never rfl m_range (a_cons d_int a_nil) (g_name (i := 9) sc__law_names.nd) (ss_cons (s_set (i := 10) sc__law_names.nd (d_ix (d_var 1) (d_op od_mod (d_op od_add (d_var 7) (d_op od_mulS (d_var 9) (d_var 8))) (d_var 6))))
 (ss_one (s_asg (d_op od_add (d_ix (d_var 4) (d_var 9)) (d_var 10)) (g_sub (d_var 4) (d_var 9)))))))))))
 (ss_one (s_ret (d_var 4)))))))), fun ds M Q h => ?_⟩
  · obtain ⟨c, rfl, _⟩ := h; rfl
  · obtain ⟨c, rfl, q⟩ := h
    have hs36 := some_len
    have hs37 : (Str.ofString "abcdefghijklmnopqrstuvwxyz0123456789").length ≤ sizeLine := by decide +kernel
    generalize Str.ofString "abcdefghijklmnopqrstuvwxyz0123456789" = SM at *
    simp only [DL.sSeq, DL.sAsg, DL.sRet, DL.sRetN, DL.sIf, DL.sNext, DL.sDrop, DL.sAug, DL.sFor, DL.sFor1, DL.sFor2, DL.sFor3, DL.sWhile, DL.hName, DL.hTup, DL.hCons, DL.hNil, DL.hSub, DL.eVar, DL.eC, DL.eOp, DL.eTest, DL.eChain, DL.eTup, DL.eLst, DL.eCB, DL.eCall, DL.eSl, DL.eBM, DL.eBM0, DL.eTru, DL.eNeg, DL.eIfx, DL.eNil, DL.eCons, DL.oNone, DL.oSome, DL.bAnd, DL.bOr, DL.bNot, DL.vAnd, DL.vOr, DL.vNot, DL.dI, DL.dIC, DL.addD, DL.mulSD, DL.leSD, DL.eqD, DL.neD, DL.inD, DL.inXD, DL.eDict0, DL.ixKD, DL.setKD, DL.hSubK, DL.isDic, DL.getKD, DL.eGet2, DL.lenKD, DL.listKD, DL.keyOf, DL.sForE, DL.forED, DL.sForE1, DL.forE1, DL.sForK, DL.forKD, DL.isD, DL.neXD, DL.compR, DL.eCompR, DL.ixD, DL.slD, DL.appendD, DL.popD, DL.lenD, DL.intD, DL.max2D, DL.min2D, DL.tupleD, DL.listD, DL.maxL, DL.allD, DL.truD, DL.tyD, DL.iaddD, DL.startD, DL.onBl, DL.onInt, DL.onVal, DL.onSome, DL.setD, DL.forD, DL.for1D, DL.for2D, DL.for3D, DL.compX, DL.eComp, DL.tTrue, List.map_cons, List.map_nil, List.replicate, List.length_cons, List.length_nil, Nat.sub_self, List.append_nil, List.nil_append, List.cons_append, List.getElem?_cons_zero, List.getElem?_cons_succ, List.set_cons_zero, List.set_cons_succ, Nat.reduceAdd, Nat.reduceSub, Nat.zero_add, if_true, if_false, ite_true, ite_false, Bool.not_true, Bool.not_false, Bool.false_eq_true, reduceCtorEq]
    refine ⟨c, 57, 12, rfl, ⟨by decide, by decide⟩, by decide, fun r0 h0 h1 => ?_⟩
    refine ⟨c, 58, _, rfl, ⟨by decide, by decide⟩, by omega, fun r1 h2 h3 => ?_⟩
    dsimp only
    rw [if_pos (by decide)]
    intro l hl
    refine ⟨⟨by omega, by omega⟩, ?_⟩
    refine ⟨fun j τ M' => ∃ (xs : List D) (v5 v6 v7 v8 v9 v10 : Option D), NamesL j xs ∧ τ = [some (.int c), some (.str SM), some (.int (1 + r0)), some (.int r1), some (.ref l), v5, v6, v7, v8, v9, v10] ∧ M' = updM M l (.lst xs), ⟨_, none, none, none, none, none, none, ⟨rfl, ?_⟩, rfl, rfl⟩, ?_, ?_⟩
    · intro d hd
      simp only [List.mem_cons, List.not_mem_nil, or_false] at hd
      rcases hd with rfl | rfl | rfl | rfl <;> exact ⟨_, rfl, by decide⟩
    · rintro j τ M' hj ⟨xs, v5, v6, v7, v8, v9, v10, hx, rfl, rfl⟩
      simp only [DL.sSeq, DL.sAsg, DL.sRet, DL.sRetN, DL.sIf, DL.sNext, DL.sDrop, DL.sAug, DL.sFor, DL.sFor1, DL.sFor2, DL.sFor3, DL.sWhile, DL.hName, DL.hTup, DL.hCons, DL.hNil, DL.hSub, DL.eVar, DL.eC, DL.eOp, DL.eTest, DL.eChain, DL.eTup, DL.eLst, DL.eCB, DL.eCall, DL.eSl, DL.eBM, DL.eBM0, DL.eTru, DL.eNeg, DL.eIfx, DL.eNil, DL.eCons, DL.oNone, DL.oSome, DL.bAnd, DL.bOr, DL.bNot, DL.vAnd, DL.vOr, DL.vNot, DL.dI, DL.dIC, DL.addD, DL.mulSD, DL.leSD, DL.eqD, DL.neD, DL.inD, DL.inXD, DL.eDict0, DL.ixKD, DL.setKD, DL.hSubK, DL.isDic, DL.getKD, DL.eGet2, DL.lenKD, DL.listKD, DL.keyOf, DL.sForE, DL.forED, DL.sForE1, DL.forE1, DL.sForK, DL.forKD, DL.isD, DL.neXD, DL.compR, DL.eCompR, DL.ixD, DL.slD, DL.appendD, DL.popD, DL.lenD, DL.intD, DL.max2D, DL.min2D, DL.tupleD, DL.listD, DL.maxL, DL.allD, DL.truD, DL.tyD, DL.iaddD, DL.startD, DL.onBl, DL.onInt, DL.onVal, DL.onSome, DL.setD, DL.forD, DL.for1D, DL.for2D, DL.for3D, DL.compX, DL.eComp, DL.tTrue, List.map_cons, List.map_nil, List.replicate, List.length_cons, List.length_nil, Nat.sub_self, List.append_nil, List.nil_append, List.cons_append, List.getElem?_cons_zero, List.getElem?_cons_succ, List.set_cons_zero, List.set_cons_succ, Nat.reduceAdd, Nat.reduceSub, Nat.zero_add, if_true, if_false, ite_true, ite_false, Bool.not_true, Bool.not_false, Bool.false_eq_true, reduceCtorEq]
      refine ⟨.inl ⟨by decide, by decide⟩, ?_⟩
      generalize hmany : (26 + 10 * (if decide ((0 : Int) < (j : Int)) = true then 1 else 0) : Int) = many
      have hm : 26 ≤ many ∧ many ≤ 36 := by rw [← hmany]; split <;> decide
      refine ⟨c, _, many, rfl, ⟨by omega, by omega⟩, by omega, fun r2 h4 h5 => ?_⟩
      refine ⟨⟨by omega, by omega⟩, ?_⟩
      generalize hst : (if decide ((j : Int) = r1) = true then 1 else 0 : Int) = st
      have hs01 : 0 ≤ st ∧ st ≤ 1 := by rw [← hst]; split <;> decide
      refine ⟨fun k τ M' => ∃ (ys : List D) (v9 v10 : Option D), NamesK j k ys ∧ τ = [some (.int c), some (.str SM), some (.int (1 + r0)), some (.int r1), some (.ref l), some (.int j), some (.int many), some (.int r2), some (.int st), v9, v10] ∧ M' = updM M l (.lst ys), ⟨xs, v9, v10, hx.k0, rfl, rfl⟩, ?_, ?_⟩
      · rintro k τ M' hk ⟨ys, w9, w10, hy, rfl, rfl⟩
        have hk4 : k < 4 := hk
        simp only [DL.sSeq, DL.sAsg, DL.sRet, DL.sRetN, DL.sIf, DL.sNext, DL.sDrop, DL.sAug, DL.sFor, DL.sFor1, DL.sFor2, DL.sFor3, DL.sWhile, DL.hName, DL.hTup, DL.hCons, DL.hNil, DL.hSub, DL.eVar, DL.eC, DL.eOp, DL.eTest, DL.eChain, DL.eTup, DL.eLst, DL.eCB, DL.eCall, DL.eSl, DL.eBM, DL.eBM0, DL.eTru, DL.eNeg, DL.eIfx, DL.eNil, DL.eCons, DL.oNone, DL.oSome, DL.bAnd, DL.bOr, DL.bNot, DL.vAnd, DL.vOr, DL.vNot, DL.dI, DL.dIC, DL.addD, DL.mulSD, DL.leSD, DL.eqD, DL.neD, DL.inD, DL.inXD, DL.eDict0, DL.ixKD, DL.setKD, DL.hSubK, DL.isDic, DL.getKD, DL.eGet2, DL.lenKD, DL.listKD, DL.keyOf, DL.sForE, DL.forED, DL.sForE1, DL.forE1, DL.sForK, DL.forKD, DL.isD, DL.neXD, DL.compR, DL.eCompR, DL.ixD, DL.slD, DL.appendD, DL.popD, DL.lenD, DL.intD, DL.max2D, DL.min2D, DL.tupleD, DL.listD, DL.maxL, DL.allD, DL.truD, DL.tyD, DL.iaddD, DL.startD, DL.onBl, DL.onInt, DL.onVal, DL.onSome, DL.setD, DL.forD, DL.for1D, DL.for2D, DL.for3D, DL.compX, DL.eComp, DL.tTrue, List.map_cons, List.map_nil, List.replicate, List.length_cons, List.length_nil, Nat.sub_self, List.append_nil, List.nil_append, List.cons_append, List.getElem?_cons_zero, List.getElem?_cons_succ, List.set_cons_zero, List.set_cons_succ, Nat.reduceAdd, Nat.reduceSub, Nat.zero_add, if_true, if_false, ite_true, ite_false, Bool.not_true, Bool.not_false, Bool.false_eq_true, reduceCtorEq]
        have hks : (0 : Int) ≤ (k : Int) * st ∧ (k : Int) * st ≤ 4 := by
          have : st = 0 ∨ st = 1 := by omega
          rcases this with rfl | rfl
          · simp
          · simp; omega
        refine ⟨.inr ⟨by omega, by omega⟩, by omega, hs37, ?_⟩
        obtain ⟨cc, hcc⟩ := at_some (xs := SM.cps.toList) (i := (r2 + (k : Int) * st) % many) (Int.emod_nonneg _ (by omega)) (by have := Int.emod_lt_of_pos (r2 + (k : Int) * st) (b := many) (by omega); rw [hs36]; omega)
        have hkl : k < ys.length := by rw [hy.1]; exact hk4
        obtain ⟨z, ez, lz⟩ := hy.2 k ys[k] (List.getElem?_eq_getElem hkl)
        rw [if_neg (Nat.lt_irrefl k)] at lz
        refine ⟨cc, hcc, _, _, updM_same, atI_nat (List.getElem?_eq_getElem hkl), ?_⟩
        rw [ez]
        have hj13 : j < 13 := by omega
        refine ⟨by show z.length + 1 ≤ sizeLine; exact line1000 (by omega), ys, k, updM_same, ?_, ?_⟩
        · unfold ixN
          rw [if_pos (by omega), if_pos (by omega)]
          simp
        · refine ⟨ys.set k (.str (z ++ ⟨#[cc]⟩)), _, _, ⟨by rw [List.length_set]; exact hy.1, fun i d e => ?_⟩, rfl, updM_upd⟩
          rw [List.getElem?_set] at e
          by_cases hik : k = i
          · subst hik
            rw [if_pos rfl, if_pos hkl] at e
            cases e
            exact ⟨_, rfl, by rw [str_app, if_pos (Nat.lt_succ_self k)]; show z.length + 1 ≤ _; omega⟩
          · rw [if_neg hik] at e
            obtain ⟨z', e1, e2⟩ := hy.2 i d e
            refine ⟨z', e1, ?_⟩
            have : (if i < k then 1 else 0) ≤ (if i < k + 1 then 1 else 0) := by split <;> split <;> omega
            omega
      · rintro τ M' ⟨ys, w9, w10, hy, rfl, rfl⟩
        exact ⟨ys, _, _, _, _, _, _, hy.k4, rfl, rfl⟩
    · rintro τ M' ⟨xs, v5, v6, v7, v8, v9, v10, hx, rfl, rfl⟩
      refine rt_done (q l xs hl ⟨hx.1, fun d hd => ?_⟩)
      obtain ⟨z, e1, e2⟩ := hx.2 d hd
      exact ⟨z, e1, by omega⟩
def spLeaf : SpD := fun ds M Q => ∃ (c first : Int) (l : Addr) (sh : Int) (xs : List D), ds = [.int c, .int first, .ref l, .int sh] ∧ M l = some (.lst xs) ∧ NamesL 12 xs ∧ ∀ t : Tree, t.knots = 1 → Q t.d M
theorem ok_leaf (T : Txt K mg) (F__law_draw : FnD P w K mg base 1 "_law_draw" ["cell", "k", "many"] spDraw) : FnD P w K mg base 2 "_law_leaf" ["cell", "first", "names", "shares"] spLeaf := by
  refine def_ok T.f__law_leaf sc__law_leaf (fun ds M Q h => ?_) fun f cdv A outer s H E hr => ⟨_, (ss_cons (s_if (dt_cmp od_lt (d_call F__law_draw (hr.mono (by omega)) (a_cons (d_var 0) (a_cons d_int (a_cons d_int a_nil)))) (d_var 3) (nomark _)) (ss_cons (s_set (i := 4) sc__law_leaf.nd (d_lst (a_cons d_int (a_cons d_int (a_cons d_int (a_cons (d_op od_pow d_int d_int) (a_cons (d_op od_add d_int (d_op od_mod (d_var 1) (d_op od_pow d_int d_int))) a_nil)))))))
 (ss_one (s_ret (d_tup (a_cons d_str (a_cons (d_ix (d_var 4) (d_call F__law_draw (hr.mono (by omega)) (a_cons (d_var 0) (a_cons d_int (a_cons d_int a_nil))))) a_nil)))))) ss_nil)
 (ss_one (s_ret (d_tup (a_cons d_str (a_cons (d_ix (d_var 2) (d_call F__law_draw (hr.mono (by omega)) (a_cons (d_var 0) (a_cons d_int (a_cons d_int a_nil))))) (a_cons (d_tup a_nil) a_nil))))))), fun ds M Q h => ?_⟩
  · obtain ⟨c, first, l, sh, xs, rfl, _⟩ := h; rfl
  · obtain ⟨c, first, l, sh, xs, rfl, hl, hx, q⟩ := h
    simp only [DL.sSeq, DL.sAsg, DL.sRet, DL.sRetN, DL.sIf, DL.sNext, DL.sDrop, DL.sAug, DL.sFor, DL.sFor1, DL.sFor2, DL.sFor3, DL.sWhile, DL.hName, DL.hTup, DL.hCons, DL.hNil, DL.hSub, DL.eVar, DL.eC, DL.eOp, DL.eTest, DL.eChain, DL.eTup, DL.eLst, DL.eCB, DL.eCall, DL.eSl, DL.eBM, DL.eBM0, DL.eTru, DL.eNeg, DL.eIfx, DL.eNil, DL.eCons, DL.oNone, DL.oSome, DL.bAnd, DL.bOr, DL.bNot, DL.vAnd, DL.vOr, DL.vNot, DL.dI, DL.dIC, DL.addD, DL.mulSD, DL.leSD, DL.eqD, DL.neD, DL.inD, DL.inXD, DL.eDict0, DL.ixKD, DL.setKD, DL.hSubK, DL.isDic, DL.getKD, DL.eGet2, DL.lenKD, DL.listKD, DL.keyOf, DL.sForE, DL.forED, DL.sForE1, DL.forE1, DL.sForK, DL.forKD, DL.isD, DL.neXD, DL.compR, DL.eCompR, DL.ixD, DL.slD, DL.appendD, DL.popD, DL.lenD, DL.intD, DL.max2D, DL.min2D, DL.tupleD, DL.listD, DL.maxL, DL.allD, DL.truD, DL.tyD, DL.iaddD, DL.startD, DL.onBl, DL.onInt, DL.onVal, DL.onSome, DL.setD, DL.forD, DL.for1D, DL.for2D, DL.for3D, DL.compX, DL.eComp, DL.tTrue, List.map_cons, List.map_nil, List.replicate, List.length_cons, List.length_nil, Nat.sub_self, List.append_nil, List.nil_append, List.cons_append, List.getElem?_cons_zero, List.getElem?_cons_succ, List.set_cons_zero, List.set_cons_succ, Nat.reduceAdd, Nat.reduceSub, Nat.zero_add, if_true, if_false, ite_true, ite_false, Bool.not_true, Bool.not_false, Bool.false_eq_true, reduceCtorEq]
    refine ⟨c, 3, 4, rfl, ⟨by decide, by decide⟩, by decide, fun r0 h0 h1 => ?_⟩
    by_cases hr0 : r0 < sh
    · dsimp only
      rw [if_pos (decide_eq_true hr0)]
      have hp : CPow 10 9 := ⟨by decide, by decide, by decide⟩
      refine ⟨hp, hp, by decide, ?_⟩
      rw [if_pos (by decide)]
      intro p hpn
      refine ⟨c, 4, 5, rfl, ⟨by decide, by decide⟩, by decide, fun r1 h2 h3 => ?_⟩
      generalize ((10 : Int) ^ (9 : Int).toNat) = big
      generalize (1 + first % big) = last
      obtain ⟨k, hk⟩ : ∃ k : Int, atI [D.int 1, D.int 2, D.int 7, D.int big, D.int last] r1 = some (.int k) := by
        have hr : r1 = 0 ∨ r1 = 1 ∨ r1 = 2 ∨ r1 = 3 ∨ r1 = 4 := by omega
        rcases hr with rfl | rfl | rfl | rfl | rfl <;> exact ⟨_, rfl⟩
      refine ⟨_, _, updM_same, hk, ?_⟩
      exact ⟨M, Sub.new hpn, q (.blank k) rfl⟩
    · dsimp only
      rw [if_neg (by simpa using hr0)]
      refine ⟨c, 2, 4, rfl, ⟨by decide, by decide⟩, by decide, fun r1 h2 h3 => ?_⟩
      obtain ⟨d, hd⟩ := at_some (xs := xs) h2 (by rw [hx.1]; omega)
      obtain ⟨j, _, hj, _⟩ := atI_get hd
      obtain ⟨z, rfl, _⟩ := hx.2 d (List.mem_of_getElem? hj)
      refine ⟨xs, _, hl, hd, ?_⟩
      exact ⟨M, Sub.refl M, q (.block z []) rfl⟩
/-! ### _law_tree -/
/-- a frame: its name, its list, its parts -/
structure Frm where
  n : Str
  l : Addr
  ps : List Tree
def Frm.d (f : Frm) : D := .tup [.str f.n, .ref f.l]
/-- the frames stand: lf is their list, ln that of the names -/
structure Frs (M0 M : DH) (lf ln : Addr) (xs : List D) (F : List Frm) : Prop where
  fr : M lf = some (.lst (F.map Frm.d))
  nm : M ln = some (.lst xs)
  ne : lf ≠ ln
  nd : (F.map Frm.l).Nodup
  at' : ∀ f ∈ F, M f.l = some (.lst (f.ps.map Tree.d)) ∧ f.l ≠ lf ∧ f.l ≠ ln ∧ M0 f.l = none ∧ f.ps.length ≤ 9
  lf0 : M0 lf = none
  ln0 : M0 ln = none
  sub : Sub M0 M
def total : List Frm → Nat
  | [] => 0
  | f :: r => Tree.knotss f.ps + 1 + total r
theorem total_app : ∀ (F G : List Frm), total (F ++ G) = total F + total G
  | [], G => by simp [total]
  | f :: r, G => by rw [List.cons_append, total, total, total_app r G]; omega
theorem knotss_app : ∀ (a b : List Tree), Tree.knotss (a ++ b) = Tree.knotss a + Tree.knotss b
  | [], b => by simp [Tree.knotss]
  | t :: ts, b => by rw [List.cons_append, Tree.knotss, Tree.knotss, knotss_app ts b]; omega
/-- the depth of the tree that all frames give when they are closed -/
def high : List Frm → Nat
  | [] => 0
  | f :: r => max (Tree.depths f.ps) (high r) + 1
theorem high_le {G G' : List Frm} {c : Nat} (h : high G ≤ high G' + c) : ∀ F : List Frm, high (F ++ G) ≤ high (F ++ G') + c
  | [] => h
  | f :: r => by
    have := high_le h r
    simp only [List.cons_append, high]
    omega
theorem high_open (f g : Frm) (hg : g.ps = []) : ∀ F : List Frm, high ((F ++ [f]) ++ [g]) ≤ max (high (F ++ [f])) (F.length + 2)
  | [] => by
    show max (Tree.depths f.ps) (max (Tree.depths g.ps) 0 + 1) + 1 ≤ max (max (Tree.depths f.ps) 0 + 1) 2
    rw [hg]
    show max (Tree.depths f.ps) (max 0 0 + 1) + 1 ≤ _
    omega
  | a :: r => by
    have := high_open f g hg r
    simp only [List.cons_append, high, List.length_cons]
    omega
theorem high_leaf {f f' : Frm} (h : Tree.depths f'.ps ≤ max (Tree.depths f.ps) 1) : ∀ F : List Frm, high (F ++ [f']) ≤ max (high (F ++ [f])) (F.length + 2)
  | [] => by
    show max (Tree.depths f'.ps) 0 + 1 ≤ max (max (Tree.depths f.ps) 0 + 1) 2
    omega
  | a :: r => by
    have := high_leaf h r
    simp only [List.cons_append, high, List.length_cons]
    omega
theorem depths_app : ∀ (a b : List Tree), Tree.depths (a ++ b) = max (Tree.depths a) (Tree.depths b)
  | [], b => by simp [Tree.depths]
  | t :: ts, b => by rw [List.cons_append, Tree.depths, Tree.depths, depths_app ts b]; omega
section
variable {M0 M : DH} {lf ln : Addr} {xs : List D} {F : List Frm} {f : Frm}
/-- a tree is put into the last frame -/
theorem Frs.push (h : Frs M0 M lf ln xs (F ++ [f])) (t : Tree) (h9 : f.ps.length < 9) : Frs M0 (updM M f.l (.lst (f.ps.map Tree.d ++ [t.d]))) lf ln xs (F ++ [{ f with ps := f.ps ++ [t] }]) := by
  have hf := h.at' f (by simp)
  have hn : ∀ g ∈ F, g.l ≠ f.l := fun g hg e => by
    have nd := h.nd
    rw [List.map_append, List.map_cons, List.map_nil] at nd
    exact (List.nodup_append.mp nd).2.2 g.l (List.mem_map_of_mem hg) f.l (by simp) e
  refine ⟨?_, ?_, h.ne, ?_, ?_, h.lf0, h.ln0, ?_⟩
  · rw [updM_ne (Ne.symm hf.2.1), h.fr]; simp [Frm.d]
  · rw [updM_ne (Ne.symm hf.2.2.1)]; exact h.nm
  · have nd := h.nd
    rw [List.map_append] at nd ⊢
    exact nd
  · intro g hg
    rcases List.mem_append.mp hg with hg | hg
    · have := h.at' g (List.mem_append_left _ hg)
      exact ⟨by rw [updM_ne (hn g hg)]; exact this.1, this.2⟩
    · cases List.mem_singleton.mp hg
      exact ⟨by rw [updM_same]; simp, hf.2.1, hf.2.2.1, hf.2.2.2.1, by simp; omega⟩
  · intro a o e
    have ha : a ≠ f.l := by intro z; subst z; rw [hf.2.2.2.1] at e; cases e
    rw [updM_ne ha]
    exact h.sub a o e
/-- a new frame -/
theorem Frs.opened (h : Frs M0 M lf ln xs F) {n : Str} {l : Addr} (hl : M l = none) (h0 : M0 l = none) : Frs M0 (updM (updM M l (.lst [])) lf (.lst (F.map Frm.d ++ [.tup [.str n, .ref l]]))) lf ln xs (F ++ [⟨n, l, []⟩]) := by
  have hlf : l ≠ lf := by intro z; subst z; rw [h.fr] at hl; cases hl
  have hln : l ≠ ln := by intro z; subst z; rw [h.nm] at hl; cases hl
  have hg : ∀ g ∈ F, g.l ≠ l := fun g hg z => by have := (h.at' g hg).1; rw [z, hl] at this; cases this
  refine ⟨?_, ?_, h.ne, ?_, ?_, h.lf0, h.ln0, ?_⟩
  · rw [updM_same]; simp [Frm.d]
  · rw [updM_ne (Ne.symm h.ne), updM_ne (Ne.symm hln)]; exact h.nm
  · rw [List.map_append, List.map_cons, List.map_nil]
    refine List.nodup_append.mpr ⟨h.nd, by simp, ?_⟩
    intro a ha b hb e
    simp at hb
    subst hb
    subst e
    obtain ⟨g, hgm, hge⟩ := List.mem_map.mp ha
    exact hg g hgm hge
  · intro g hgm
    rcases List.mem_append.mp hgm with hgm | hgm
    · have := h.at' g hgm
      exact ⟨by rw [updM_ne this.2.1, updM_ne (hg g hgm)]; exact this.1, this.2⟩
    · cases List.mem_singleton.mp hgm
      exact ⟨by rw [updM_ne hlf, updM_same]; rfl, hlf, hln, h0, by simp⟩
  · intro a o e
    have h1 : a ≠ lf := by intro z; subst z; rw [h.lf0] at e; cases e
    have h2 : a ≠ l := by intro z; subst z; rw [h0] at e; cases e
    rw [updM_ne h1, updM_ne h2]
    exact h.sub a o e
/-- the last frame is taken off -/
theorem Frs.popped (h : Frs M0 M lf ln xs (F ++ [f])) : Frs M0 (updM M lf (.lst (F.map Frm.d))) lf ln xs F ∧ updM M lf (.lst (F.map Frm.d)) f.l = some (.lst (f.ps.map Tree.d)) := by
  have hf := h.at' f (by simp)
  refine ⟨⟨updM_same, by rw [updM_ne (Ne.symm h.ne)]; exact h.nm, h.ne, ?_, fun g hg => ?_, h.lf0, h.ln0, fun a o e => ?_⟩, by rw [updM_ne hf.2.1]; exact hf.1⟩
  · have nd := h.nd
    rw [List.map_append] at nd
    exact (List.nodup_append.mp nd).1
  · have := h.at' g (List.mem_append_left _ hg)
    exact ⟨by rw [updM_ne this.2.1]; exact this.1, this.2⟩
  · have h1 : a ≠ lf := by intro z; subst z; rw [h.lf0] at e; cases e
    rw [updM_ne h1]
    exact h.sub a o e
end
/-- the branch that opens a block -/
theorem tree_open {B M' : DH} {lf ln lc : Addr} {xs : List D} {F : List Frm} {f : Frm} {first sh c r0 : Int} {v7 v8 v9 v10 : Option D} {E : EndsD} {N : Nat} (hx : NamesL 12 xs) (hF : Frs B M' lf ln xs (F ++ [f])) (ht : total (F ++ [f]) ≤ N) (hlong : F.length < 1000)
    (hE : ∀ M'' g, Frs B M'' lf ln xs ((F ++ [f]) ++ [g]) → total ((F ++ [f]) ++ [g]) ≤ N + 1 → high ((F ++ [f]) ++ [g]) ≤ max (high (F ++ [f])) (F.length + 2) → E.nx [some (.ref lc), some (.int first), some (.int sh), some (.ref ln), some (.ref lf), some (.int c), some (.int r0), v7, v8, v9, v10] M'') :
    sDrop (eBM "list" appendD (eVar 4) (eCons (eTup (eCons (eOp ixD (eVar 3) (eCall spDraw (eCons (eVar 5) (eCons (eC (D.int 2)) (eCons (eC (D.int 4)) eNil))))) (eCons (eLst eNil) eNil))) eNil)) E
      [some (.ref lc), some (.int first), some (.int sh), some (.ref ln), some (.ref lf), some (.int c), some (.int r0), v7, v8, v9, v10] M' := by
  refine ⟨⟨rfl, _, hF.fr⟩, c, 2, 4, rfl, ⟨by decide, by decide⟩, by decide, fun r1 h2 h3 => ?_⟩
  obtain ⟨d, hd⟩ := at_some (xs := xs) h2 (by rw [hx.1]; omega)
  obtain ⟨j, _, hj, _⟩ := atI_get hd
  obtain ⟨z, rfl, _⟩ := hx.2 d (List.mem_of_getElem? hj)
  refine ⟨xs, _, hF.nm, hd, ?_⟩
  show ∀ l, M' l = none → _
  intro l hl
  have hlf : lf ≠ l := by intro z; subst z; rw [hF.fr] at hl; cases hl
  have hB : B l = none := by
    cases q : B l with
    | none => rfl
    | some o => rw [hF.sub l o q] at hl; cases hl
  refine ⟨(F ++ [f]).map Frm.d, by rw [updM_ne hlf]; exact hF.fr, by rw [List.length_map, List.length_append]; exact small1000 (by simp; omega), ?_⟩
  refine hE _ ⟨z, l, []⟩ (hF.opened hl hB) ?_ ?_
  · rw [total_app]
    show _ + (0 + 1 + 0) ≤ _
    omega
  · exact high_open f ⟨z, l, []⟩ rfl F
section
variable {M0 M : DH} {lf ln : Addr} {xs : List D} {F : List Frm}
theorem Frs.fresh (h : Frs M0 M lf ln xs F) {p : Addr} {o : MO} (hp : M p = none) : Frs M0 (updM M p o) lf ln xs F := by
  have s : Sub M (updM M p o) := Sub.new hp
  exact ⟨s _ _ h.fr, s _ _ h.nm, h.ne, h.nd, fun f hf => ⟨s _ _ (h.at' f hf).1, (h.at' f hf).2⟩, h.lf0, h.ln0, h.sub.trans s⟩
theorem Frs.none0 (h : Frs M0 M lf ln xs F) {p : Addr} (hp : M p = none) : M0 p = none := by
  cases q : M0 p with
  | none => rfl
  | some o => rw [h.sub p o q] at hp; cases hp
/-- one frame alone, with one tree -/
theorem Frs.wrapped (h : Frs M0 M lf ln xs []) {n : Str} {l : Addr} {t : Tree} (hl : M l = none) : Frs M0 (updM (updM M l (.lst [t.d])) lf (.lst [.tup [.str n, .ref l]])) lf ln xs ([] ++ [⟨n, l, [t]⟩]) := by
  have hlf : l ≠ lf := by intro z; subst z; rw [h.fr] at hl; cases hl
  have hln : l ≠ ln := by intro z; subst z; rw [h.nm] at hl; cases hl
  refine ⟨?_, ?_, h.ne, by simp, ?_, h.lf0, h.ln0, ?_⟩
  · rw [updM_same]; rfl
  · rw [updM_ne (Ne.symm h.ne), updM_ne (Ne.symm hln)]; exact h.nm
  · intro g hg
    cases List.mem_singleton.mp hg
    exact ⟨by show updM _ lf _ l = _; rw [updM_ne hlf, updM_same]; rfl, hlf, hln, h.none0 hl, by simp⟩
  · intro a o e
    have h1 : a ≠ lf := by intro z; subst z; rw [h.lf0] at e; cases e
    have h2 : a ≠ l := by intro z; subst z; rw [h.none0 hl] at e; cases e
    rw [updM_ne h1, updM_ne h2]
    exact h.sub a o e
end
theorem high_closed (g f : Frm) : high [{ g with ps := g.ps ++ [Tree.block f.n f.ps] }] ≤ high ([g] ++ [f]) + 0 := by
  show max (Tree.depths (g.ps ++ [Tree.block f.n f.ps])) 0 + 1 ≤ max (Tree.depths g.ps) (max (Tree.depths f.ps) 0 + 1) + 1 + 0
  rw [depths_app]
  show max (max (Tree.depths g.ps) (max (Tree.depths f.ps + 1) 0)) 0 + 1 ≤ _
  omega
/-- the branch that closes a block -/
theorem tree_pop {B M' : DH} {lf ln lc : Addr} {xs : List D} {F : List Frm} {f : Frm} {first sh c r0 : Int} {v7 v8 v9 v10 : Option D} {E : EndsD} {N : Nat} (hx : NamesL 12 xs) (hF : Frs B M' lf ln xs (F ++ [f])) (h8 : ∀ g ∈ F, g.ps.length ≤ 8) (ht : total (F ++ [f]) ≤ N) (hN : N ≤ 300)
    (hE : ∀ M'' F' f' w7 w8 w9, Frs B M'' lf ln xs (F' ++ [f']) → (∀ g ∈ F', g.ps.length ≤ 8) → total (F' ++ [f']) ≤ N + 1 → (high (F' ++ [f']) ≤ high (F ++ [f]) ∧ F.length = F'.length + 1) ∨ (F = [] ∧ F' = [] ∧ f'.ps.length = 1 ∧ high (F' ++ [f']) ≤ high (F ++ [f]) + 1) → E.nx [some (.ref lc), some (.int first), some (.int sh), some (.ref ln), some (.ref lf), some (.int c), some (.int r0), w7, w8, w9, v10] M'') :
    sSeq (sAsg (eBM0 "list" popD (eVar 4)) (hTup (hCons (hName 7) (hCons (hName 8) hNil)))) (sSeq (sAsg (eTup (eCons (eC (D.str (Str.ofString "block"))) (eCons (eVar 7) (eCons (eCB tupleD (eCons (eVar 8) eNil)) eNil)))) (hName 9))
      (sIf (eTest (eOp eqD (eVar 4) (eLst eNil)))
        (sDrop (eBM "list" appendD (eVar 4) (eCons (eTup (eCons (eOp ixD (eVar 3) (eCall spDraw (eCons (eVar 5) (eCons (eC (D.int 2)) (eCons (eC (D.int 4)) eNil))))) (eCons (eLst (eCons (eVar 9) eNil)) eNil))) eNil)))
        (sDrop (eBM "list" appendD (eOp ixD (eOp ixD (eVar 4) (eNeg (eC (D.int 1)))) (eC (D.int 1))) (eCons (eVar 9) eNil))))) E
      [some (.ref lc), some (.int first), some (.int sh), some (.ref ln), some (.ref lf), some (.int c), some (.int r0), v7, v8, v9, v10] M' := by
  obtain ⟨hP, hPl⟩ := hF.popped
  refine ⟨⟨rfl, _, hF.fr⟩, F.map Frm.d, f.d, by rw [hF.fr]; simp, ?_⟩
  refine ⟨_, hPl, ?_⟩
  have ew : D.tup [.str "block", .str f.n, .tup (f.ps.map Tree.d)] = (Tree.block f.n f.ps).d := by rw [← ds_map]; rfl
  generalize updM M' lf (.lst (F.map Frm.d)) = M1 at *
  show ∀ p, M1 p = none → _
  intro p hp
  have hP2 := hP.fresh (o := .lst []) hp
  refine ⟨_, [], hP2.fr, updM_same, .inr rfl, ?_⟩
  generalize updM M1 p (.lst []) = M2 at *
  rcases List.eq_nil_or_concat F with rfl | ⟨F', g, rfl⟩
  · refine ⟨⟨rfl, _, hP2.fr⟩, c, 2, 4, rfl, ⟨by decide, by decide⟩, by decide, fun r1 h2 h3 => ?_⟩
    obtain ⟨d, hd⟩ := at_some (xs := xs) h2 (by rw [hx.1]; omega)
    obtain ⟨j, _, hj, _⟩ := atI_get hd
    obtain ⟨z, rfl, _⟩ := hx.2 d (List.mem_of_getElem? hj)
    refine ⟨xs, _, hP2.nm, hd, ?_⟩
    show ∀ l, M2 l = none → _
    intro l hl
    have hlf : lf ≠ l := by intro z; subst z; rw [hP2.fr] at hl; cases hl
    refine ⟨[], by rw [updM_ne hlf]; exact hP2.fr, by decide, ?_⟩
    have hW := hP2.wrapped (n := z) (l := l) (t := .block f.n f.ps) hl
    rw [← ew] at hW
    refine hE _ [] ⟨z, l, [.block f.n f.ps]⟩ _ _ _ hW (fun g hg => (nomatch hg)) ?_ ?_
    · have ht' : Tree.knotss f.ps + 1 + 0 ≤ N := ht
      show (Tree.knotss f.ps + 1 + 0) + 1 + 0 ≤ _
      omega
    · refine .inr ⟨rfl, rfl, rfl, ?_⟩
      show max (max (Tree.depths f.ps + 1) 0) 0 + 1 ≤ max (Tree.depths f.ps) 0 + 1 + 1
      omega
  · rw [List.concat_eq_append] at *
    have hg := hP2.at' g (by simp)
    have hlast : atI ((F' ++ [g]).map Frm.d) (-1) = some g.d := by rw [List.map_append]; exact atI_last _ _
    have hne : ((F' ++ [g]).map Frm.d).isEmpty = false := by simp
    show if ((F' ++ [g]).map Frm.d).isEmpty && ([] : List D).isEmpty then _ else _
    rw [hne]
    refine ⟨_, _, hP2.fr, hlast, ⟨rfl, _, hg.1⟩, _, hg.1, ?_, ?_⟩
    · rw [List.length_map]; exact small1000 (by omega)
    · have hW := hP2.push (.block f.n f.ps) (by have := h8 g (by simp); omega)
      rw [← ew] at hW
      refine hE _ F' { g with ps := g.ps ++ [.block f.n f.ps] } _ _ _ hW (fun k hk => h8 k (by simp [hk])) ?_ ?_
      · rw [total_app, total_app] at ht
        rw [total_app]
        have e1 : total [f] = Tree.knotss f.ps + 1 + 0 := rfl
        have e2 : total [g] = Tree.knotss g.ps + 1 + 0 := rfl
        show total F' + (Tree.knotss (g.ps ++ [.block f.n f.ps]) + 1 + 0) ≤ _
        rw [knotss_app]
        show total F' + (Tree.knotss g.ps + ((Tree.knotss f.ps + 1) + 0) + 1 + 0) ≤ _
        omega
      · have h1 := high_closed g f
        have h2 := high_le h1 F'
        rw [← List.append_assoc] at h2
        exact .inl ⟨h2, by simp⟩
/-- the branch that sets leaves -/
theorem tree_leaves {B M' : DH} {lf ln lc : Addr} {xs : List D} {F : List Frm} {f : Frm} {first sh c r0 : Int} {v7 v8 v9 v10 : Option D} {E : EndsD} {N : Nat} (hx : NamesL 12 xs) (hF : Frs B M' lf ln xs (F ++ [f])) (ht : total (F ++ [f]) ≤ N)
    (hE : ∀ M'' f' w10, Frs B M'' lf ln xs (F ++ [f']) → total (F ++ [f']) ≤ N + 3 → high (F ++ [f']) ≤ max (high (F ++ [f])) (F.length + 2) → E.nx [some (.ref lc), some (.int first), some (.int sh), some (.ref ln), some (.ref lf), some (.int c), some (.int r0), v7, v8, v9, w10] M'') :
    sFor1 (eCons (eCB min2D (eCons (eOp addD (eC (D.int 1)) (eCall spDraw (eCons (eVar 5) (eCons (eC (D.int 5)) (eCons (eC (D.int 3)) eNil)))))
        (eCons (eOp (dI fun i j => D.int (i - j)) (eC (D.int 9)) (eCB lenD (eCons (eOp ixD (eOp ixD (eVar 4) (eNeg (eC (D.int 1)))) (eC (D.int 1))) eNil))) eNil))) eNil) (hName 10)
      (sDrop (eBM "list" appendD (eOp ixD (eOp ixD (eVar 4) (eNeg (eC (D.int 1)))) (eC (D.int 1))) (eCons (eCall spLeaf (eCons (eOp addD (eVar 5) (eVar 10)) (eCons (eVar 1) (eCons (eVar 3) (eCons (eVar 2) eNil))))) eNil))) E
      [some (.ref lc), some (.int first), some (.int sh), some (.ref ln), some (.ref lf), some (.int c), some (.int r0), v7, v8, v9, v10] M' := by
  have hlast : ∀ g : Frm, atI ((F ++ [g]).map Frm.d) (-1) = some g.d := fun g => by rw [List.map_append]; exact atI_last _ _
  have hfl := hF.at' f (by simp)
  refine ⟨c, 5, 3, rfl, ⟨by decide, by decide⟩, by decide, fun r1 h2 h3 => ?_⟩
  refine ⟨_, _, hF.fr, hlast f, _, hfl.1, ?_⟩
  show (-(2 ^ 62) ≤ (if 9 - (((f.ps.map Tree.d).length : Nat) : Int) < 1 + r1 then 9 - (((f.ps.map Tree.d).length : Nat) : Int) else 1 + r1) ∧ (if 9 - (((f.ps.map Tree.d).length : Nat) : Int) < 1 + r1 then 9 - (((f.ps.map Tree.d).length : Nat) : Int) else 1 + r1) < 2 ^ 62) ∧ walkR (fun i => (i : Int)) (if 9 - (((f.ps.map Tree.d).length : Nat) : Int) < 1 + r1 then 9 - (((f.ps.map Tree.d).length : Nat) : Int) else 1 + r1).toNat _ _ _ _ _
  rw [List.length_map]
  generalize hn : (if 9 - ((f.ps.length : Nat) : Int) < 1 + r1 then 9 - ((f.ps.length : Nat) : Int) else 1 + r1) = n
  have hn1 : n ≤ 3 ∧ n ≤ 9 - (f.ps.length : Int) ∧ 0 ≤ n := by
    have := hfl.2.2.2.2
    rw [← hn]; split <;> omega
  refine ⟨⟨by omega, by omega⟩, fun k τ M'' => ∃ (f' : Frm) (w10 : Option D), Frs B M'' lf ln xs (F ++ [f']) ∧ f'.ps.length = f.ps.length + k ∧ total (F ++ [f']) ≤ N + k ∧ Tree.depths f'.ps ≤ max (Tree.depths f.ps) 1 ∧ τ = [some (.ref lc), some (.int first), some (.int sh), some (.ref ln), some (.ref lf), some (.int c), some (.int r0), v7, v8, v9, w10], ⟨f, v10, hF, rfl, ht, by omega, rfl⟩, ?_, ?_⟩
  · rintro k τ M'' hk ⟨f', w10, hF', hl', ht', hd', rfl⟩
    have hfl' := hF'.at' f' (by simp)
    refine ⟨_, _, hF'.fr, hlast f', ⟨rfl, _, hfl'.1⟩, _, first, ln, sh, xs, rfl, hF'.nm, hx, fun t ht1 => ?_⟩
    refine ⟨_, hfl'.1, by rw [List.length_map]; exact small1000 (by omega), ?_⟩
    refine ⟨{ f' with ps := f'.ps ++ [t] }, _, hF'.push t (by omega), ?_, ?_, ?_, rfl⟩
    · show (f'.ps ++ [t]).length = _
      rw [List.length_append, hl']
      simp
      omega
    · rw [total_app] at ht' ⊢
      have e1 : total [f'] = Tree.knotss f'.ps + 1 + 0 := rfl
      show total F + (Tree.knotss (f'.ps ++ [t]) + 1 + 0) ≤ _
      rw [knotss_app]
      have e2 : Tree.knotss [t] = t.knots + 0 := rfl
      omega
    · show Tree.depths (f'.ps ++ [t]) ≤ _
      rw [depths_app]
      have e2 : Tree.depths [t] = max t.depth 0 := rfl
      have e3 := depth_le_knots t
      omega
  · rintro τ M'' ⟨f', w10, hF', hl', ht', hd', rfl⟩
    exact hE _ f' w10 hF' (by omega) (high_leaf hd' F)
theorem tree_else {B M' : DH} {lf ln lc : Addr} {xs : List D} {F : List Frm} {f : Frm} {first sh c r0 : Int} {v7 v8 v9 v10 : Option D} {E : EndsD} {N : Nat} (hx : NamesL 12 xs) (hF : Frs B M' lf ln xs (F ++ [f])) (h8 : ∀ g ∈ F, g.ps.length ≤ 8) (hf8 : f.ps.length ≤ 8) (ht : total (F ++ [f]) ≤ N) (h9' : F.length ≤ 9)
    (hE : ∀ M'' F' f' w10, Frs B M'' lf ln xs (F' ++ [f']) → (∀ g ∈ F', g.ps.length ≤ 8) → total (F' ++ [f']) ≤ N + 3 → high (F' ++ [f']) ≤ max (high (F ++ [f])) 11 → F'.length ≤ 9 → E.nx [some (.ref lc), some (.int first), some (.int sh), some (.ref ln), some (.ref lf), some (.int c), some (.int r0), v7, v8, v9, w10] M'') :
    sIf (bAnd (eTest (eOp (dI fun i j => D.bl (decide (i < j))) (eVar 6) (eC (D.int 4)))) (eTest (eOp (dI fun i j => D.bl (decide (i < j))) (eCB lenD (eCons (eVar 4) eNil)) (eC (D.int 10)))))
      (sDrop (eBM "list" appendD (eVar 4) (eCons (eTup (eCons (eOp ixD (eVar 3) (eCall spDraw (eCons (eVar 5) (eCons (eC (D.int 2)) (eCons (eC (D.int 4)) eNil))))) (eCons (eLst eNil) eNil))) eNil)))
      (sFor1 (eCons (eCB min2D (eCons (eOp addD (eC (D.int 1)) (eCall spDraw (eCons (eVar 5) (eCons (eC (D.int 5)) (eCons (eC (D.int 3)) eNil)))))
        (eCons (eOp (dI fun i j => D.int (i - j)) (eC (D.int 9)) (eCB lenD (eCons (eOp ixD (eOp ixD (eVar 4) (eNeg (eC (D.int 1)))) (eC (D.int 1))) eNil))) eNil))) eNil) (hName 10)
        (sDrop (eBM "list" appendD (eOp ixD (eOp ixD (eVar 4) (eNeg (eC (D.int 1)))) (eC (D.int 1))) (eCons (eCall spLeaf (eCons (eOp addD (eVar 5) (eVar 10)) (eCons (eVar 1) (eCons (eVar 3) (eCons (eVar 2) eNil))))) eNil)))) E
      [some (.ref lc), some (.int first), some (.int sh), some (.ref ln), some (.ref lf), some (.int c), some (.int r0), v7, v8, v9, v10] M' := by
  have leaves := tree_leaves (lc := lc) (first := first) (sh := sh) (c := c) (r0 := r0) (v7 := v7) (v8 := v8) (v9 := v9) (v10 := v10) (E := E) hx hF ht (fun M'' f' w10 h1 h2 h3 => hE M'' F f' w10 h1 h8 h2 (by omega) h9')
  show if decide (r0 < 4) = true then _ else _
  by_cases h4 : r0 < 4
  · rw [decide_eq_true h4, if_pos rfl]
    refine ⟨_, hF.fr, ?_⟩
    show if decide ((((F ++ [f]).map Frm.d).length : Int) < 10) = true then _ else _
    by_cases h10 : (((F ++ [f]).map Frm.d).length : Int) < 10
    · rw [decide_eq_true h10, if_pos rfl]
      have h10' : F.length + 1 < 10 := by rw [List.length_map, List.length_append] at h10; simp at h10; omega
      refine tree_open hx hF ht (by omega) fun M'' g h1 h2 h3 => hE M'' (F ++ [f]) g _ h1 (fun k hk => ?_) (by omega) (by omega) (by simp; omega)
      rcases List.mem_append.mp hk with hk | hk
      · exact h8 k hk
      · cases List.mem_singleton.mp hk; exact hf8
    · rw [decide_eq_false h10, if_neg Bool.false_ne_true]
      exact leaves
  · rw [decide_eq_false h4, if_neg Bool.false_ne_true]
    exact leaves
theorem upd_none {M : DH} {a b : Addr} {o : MO} (h : updM M a o b = none) : b ≠ a ∧ M b = none := by
  have hne : b ≠ a := by intro z; subst z; rw [updM_same] at h; cases h
  exact ⟨hne, by rw [updM_ne hne] at h; exact h⟩
def spTree : SpD := fun ds M Q => ∃ (lc : Addr) (cs : List Int) (first sh : Int), ds = [.ref lc, .int first, .int sh] ∧ M lc = some (.lst (cs.map .int)) ∧ ∀ (n : Str) (ps : List Tree), Tree.knotss ps ≤ 200 → Tree.depths ps ≤ 41 → Q (Tree.block n ps).d M
theorem ok_tree (T : Txt K mg) (F__law_draw : FnD P w K mg base 1 "_law_draw" ["cell", "k", "many"] spDraw) (F__law_names : FnD P w K mg base 2 "_law_names" ["cell"] spNames) (F__law_leaf : FnD P w K mg base 2 "_law_leaf" ["cell", "first", "names", "shares"] spLeaf) : FnD P w K mg base 3 "_law_tree" ["cells", "first", "shares"] spTree := by
  have m_len := T.m_len
  have m_min := T.m_min
  have m_range := T.m_range
  have m_tuple := T.m_tuple
  refine def_ok T.f__law_tree sc__law_tree (fun ds M Q h => ?_) fun f cdv A outer s H E hr => ⟨_, (ss_cons (s_set (i := 3) sc__law_tree.nd (d_call F__law_names (hr.mono (by omega)) (a_cons (d_var 1) a_nil)))
 (ss_cons (s_set (i := 4) sc__law_tree.nd (d_lst (a_cons (d_tup (a_cons (d_ix (d_var 3) d_int) (a_cons (d_lst a_nil) a_nil))) a_nil)))
 (ss_cons (s_for PassesOwn.never rfl (d_sl sd_sl (d_var 0) o_none (o_some d_int)) (g_name (i := 5) sc__law_tree.nd) (ss_cons (s_set (i := 6) sc__law_tree.nd (d_call F__law_draw (hr.mono (by omega)) (a_cons (d_var 5) (a_cons d_int (a_cons d_int a_nil)))))
 (ss_one (s_if (PW.pt (dw_or (dt_cmp (od_eq hr) (d_callB cd_len rfl m_len bt_len (a_cons (d_ix (d_ix (d_var 4) (d_neg d_int)) d_int) a_nil)) d_int (nomark _)) (dw_or1 (PW.pt (dw_and (dt_cmp (od_eq hr) (d_var 6) d_int (nomark _)) (dw_and1 (dt_cmp od_gt (d_callB cd_len rfl m_len bt_len (a_cons (d_var 4) a_nil)) d_int (nomark _)))))))) (ss_cons (s_asg (d_bm0 PySem.F.plainAttrs_list PySem.F.slot_list_pop PySem.F.type_list_pop md_pop (d_var 4)) (g_tup rfl (gs_cons (g_name (i := 7) sc__law_tree.nd) (gs_cons (g_name (i := 8) sc__law_tree.nd) gs_nil)) len_2))
 (ss_cons (s_set (i := 9) sc__law_tree.nd (d_tup (a_cons d_str (a_cons (d_var 7) (a_cons (d_callTy cd_tuple rfl m_tuple bt_tuple (a_cons (d_var 8) a_nil)) a_nil)))))
 (ss_one (s_if (dt_cmp (od_eq hr) (d_var 4) (d_lst a_nil) (nomark _)) (ss_one (s_expr (d_bm PySem.F.plainAttrs_list PySem.F.slot_list_append PySem.F.type_list_append md_append (d_var 4) (a_cons (d_tup (a_cons (d_ix (d_var 3) (d_call F__law_draw (hr.mono (by omega)) (a_cons (d_var 5) (a_cons d_int (a_cons d_int a_nil))))) (a_cons (d_lst (a_cons (d_var 9) a_nil)) a_nil))) a_nil)))) (ss_one (s_expr (d_bm PySem.F.plainAttrs_list PySem.F.slot_list_append PySem.F.type_list_append md_append (d_ix (d_ix (d_var 4) (d_neg d_int)) d_int) (a_cons (d_var 9) a_nil)))))))) (ss_one (s_if (PW.pt (dw_and (dt_cmp od_lt (d_var 6) d_int (nomark _)) (dw_and1 (dt_cmp od_lt (d_callB cd_len rfl m_len bt_len (a_cons (d_var 4) a_nil)) d_int (nomark _))))) (ss_one (s_expr (d_bm PySem.F.plainAttrs_list PySem.F.slot_list_append PySem.F.type_list_append md_append (d_var 4) (a_cons (d_tup (a_cons (d_ix (d_var 3) (d_call F__law_draw (hr.mono (by omega)) (a_cons (d_var 5) (a_cons d_int (a_cons d_int a_nil))))) (a_cons (d_lst a_nil) a_nil))) a_nil)))) (ss_one (s_for1 PassesOwn.never rfl m_range (a_cons (d_callB (cd_min2 rfl) rfl m_min bt_min (a_cons (d_op od_add d_int (d_call F__law_draw (hr.mono (by omega)) (a_cons (d_var 5) (a_cons d_int (a_cons d_int a_nil))))) (a_cons (d_op od_sub d_int (d_callB cd_len rfl m_len bt_len (a_cons (d_ix (d_ix (d_var 4) (d_neg d_int)) d_int) a_nil))) a_nil))) a_nil) (g_name (i := 10) sc__law_tree.nd) (ss_one (s_expr (d_bm PySem.F.plainAttrs_list PySem.F.slot_list_append PySem.F.type_list_append md_append (d_ix (d_ix (d_var 4) (d_neg d_int)) d_int) (a_cons (d_call F__law_leaf (hr.mono (by omega)) (a_cons (d_op od_add (d_var 5) (d_var 10)) (a_cons (d_var 1) (a_cons (d_var 3) (a_cons (d_var 2) a_nil))))) a_nil))))))))))))
 (ss_cons (s_while PassesOwn.never (dt_cmp od_gt (d_callB cd_len rfl m_len bt_len (a_cons (d_var 4) a_nil)) d_int (nomark _)) (ss_cons (s_asg (d_bm0 PySem.F.plainAttrs_list PySem.F.slot_list_pop PySem.F.type_list_pop md_pop (d_var 4)) (g_tup rfl (gs_cons (g_name (i := 7) sc__law_tree.nd) (gs_cons (g_name (i := 8) sc__law_tree.nd) gs_nil)) len_2))
 (ss_one (s_expr (d_bm PySem.F.plainAttrs_list PySem.F.slot_list_append PySem.F.type_list_append md_append (d_ix (d_ix (d_var 4) (d_neg d_int)) d_int) (a_cons (d_tup (a_cons d_str (a_cons (d_var 7) (a_cons (d_callTy cd_tuple rfl m_tuple bt_tuple (a_cons (d_var 8) a_nil)) a_nil)))) a_nil))))))
 (ss_one (s_ret (d_tup (a_cons d_str (a_cons (d_ix (d_ix (d_var 4) d_int) d_int) (a_cons (d_callTy cd_tuple rfl m_tuple bt_tuple (a_cons (d_ix (d_ix (d_var 4) d_int) d_int) a_nil)) a_nil)))))))))), fun ds M Q h => ?_⟩
  · obtain ⟨lc, cs, first, sh, rfl, _⟩ := h; rfl
  · obtain ⟨lc, cs, first, sh, rfl, hc, q⟩ := h
    refine ⟨first, rfl, fun ln xs hln hx => ?_⟩
    have hcl : lc ≠ ln := by intro z; subst z; rw [hc] at hln; cases hln
    obtain ⟨d0, hd0⟩ := at_some (xs := xs) (i := 0) (by decide) (by rw [hx.1]; decide)
    obtain ⟨j0, _, hj0, _⟩ := atI_get hd0
    obtain ⟨n0, rfl, _⟩ := hx.2 d0 (List.mem_of_getElem? hj0)
    refine ⟨xs, _, updM_same, hd0, ?_⟩
    show ∀ l, updM M ln (.lst xs) l = none → _
    intro l hl
    show ∀ lf, updM (updM M ln (.lst xs)) l (.lst []) lf = none → _
    intro lf hlf
    obtain ⟨l1, l2⟩ := upd_none hl
    obtain ⟨f1, f2⟩ := upd_none hlf
    obtain ⟨f3, f4⟩ := upd_none f2
    have c1 : lc ≠ l := by intro z; subst z; rw [hc] at l2; cases l2
    have c2 : lc ≠ lf := by intro z; subst z; rw [hc] at f4; cases f4
    refine ⟨cs.map .int, by show updM _ _ _ _ = _; rw [updM_ne c2, updM_ne c1, updM_ne hcl]; exact hc, fun p hp => ⟨_, updM_same, ?_⟩⟩
    obtain ⟨p1, p2⟩ := upd_none hp
    obtain ⟨p3, p4⟩ := upd_none p2
    obtain ⟨p5, p6⟩ := upd_none p4
    have hcut : ∀ d ∈ DL.cutD (cs.map D.int) none (some 62), ∃ c : Int, d = .int c := by
      intro d hd
      have := List.mem_of_mem_drop (List.mem_of_mem_take hd)
      obtain ⟨c, _, rfl⟩ := List.mem_map.mp this
      exact ⟨c, rfl⟩
    have hlen : (DL.cutD (cs.map D.int) none (some 62)).length ≤ 62 := by
      unfold DL.cutD
      rw [List.length_take]
      have : HT.sIx (cs.map D.int).length (cs.map D.int).length (some 62) ≤ 62 := by
        rw [show (some (62 : Int)) = some ((62 : Nat) : Int) from rfl, HT.sIx_nat]; exact Nat.min_le_left _ _
      omega
    generalize DL.cutD (cs.map D.int) none (some 62) = cut at *
    have F0 : Frs (updM M p (.lst cut)) (updM (updM (updM (updM M ln (MO.lst xs)) l (MO.lst [])) lf (MO.lst [D.tup [D.str n0, D.ref l]])) p (MO.lst cut)) lf ln xs ([] ++ [⟨n0, l, []⟩]) := by
      refine ⟨by rw [updM_ne (Ne.symm p1), updM_same]; rfl, by rw [updM_ne (Ne.symm p5), updM_ne (Ne.symm f3), updM_ne (Ne.symm l1), updM_same], f3, by simp, ?_, by rw [updM_ne (Ne.symm p1)]; exact f4, by rw [updM_ne (Ne.symm p5)]; exact hln, ?_⟩
      · intro g hg
        cases List.mem_singleton.mp hg
        exact ⟨by show updM _ p _ l = _; rw [updM_ne (Ne.symm p3), updM_ne (Ne.symm f1), updM_same]; rfl, Ne.symm f1, l1, by show updM M p _ l = _; rw [updM_ne (Ne.symm p3)]; exact l2, by simp⟩
      · intro a o e
        by_cases hap : a = p
        · subst hap; rw [updM_same] at e ⊢; exact e
        · rw [updM_ne hap] at e
          have h1 : a ≠ lf := by intro z; subst z; rw [f4] at e; cases e
          have h2 : a ≠ l := by intro z; subst z; rw [l2] at e; cases e
          have h3 : a ≠ ln := by intro z; subst z; rw [hln] at e; cases e
          rw [updM_ne hap, updM_ne h1, updM_ne h2, updM_ne h3]; exact e
    have hB : Sub M (updM M p (.lst cut)) := Sub.new p6
    have hBp : updM M p (.lst cut) p = some (.lst cut) := updM_same
    generalize updM (updM (updM (updM M ln (MO.lst xs)) l (MO.lst [])) lf (MO.lst [D.tup [D.str n0, D.ref l]])) p (MO.lst cut) = M5 at *
    generalize updM M p (.lst cut) = B at *
    refine ⟨fun i τ M' => ∃ (F : List Frm) (f : Frm) (v5 v6 v7 v8 v9 v10 : Option D), Frs B M' lf ln xs (F ++ [f]) ∧ (∀ g ∈ F, g.ps.length ≤ 8) ∧ total (F ++ [f]) ≤ 1 + 3 * i ∧ (F.length ≤ 9 ∧ 2 * high (F ++ [f]) ≤ 22 + i ∧ (F = [] → f.ps.length = 9 → 2 * high (F ++ [f]) ≤ 21 + i)) ∧ τ = [some (.ref lc), some (.int first), some (.int sh), some (.ref ln), some (.ref lf), v5, v6, v7, v8, v9, v10], ⟨[], _, none, none, none, none, none, none, F0, (fun g hg => (nomatch hg)), by simp [total, Tree.knotss], ⟨by simp, by simp [high, Tree.depths], fun _ z => by simp at z⟩, rfl⟩, ?_, ?_, ?_⟩
    · rintro i τ M' _ ⟨F, f, v5, v6, v7, v8, v9, v10, hF, _, _, _, rfl⟩
      exact hF.sub _ _ hBp
    · rintro i d τ M' hd ⟨F, f, v5, v6, v7, v8, v9, v10, hF, h8, ht, ⟨hF9, hh, hfull⟩, rfl⟩
      have hi : i < cut.length := by
        rcases Nat.lt_or_ge i cut.length with h | h
        · exact h
        · rw [List.getElem?_eq_none h] at hd; cases hd
      obtain ⟨c, rfl⟩ := hcut d (List.mem_of_getElem? hd)
      have hfl := hF.at' f (by simp)
      have hlast : atI ((F ++ [f]).map Frm.d) (-1) = some f.d := by rw [List.map_append]; exact atI_last _ _
      refine ⟨c, 1, 8, rfl, ⟨by decide, by decide⟩, by decide, fun r0 h0 h1 => ?_⟩
      refine ⟨_, _, hF.fr, hlast, _, hfl.1, ?_⟩
      show if decide ((((f.ps.map Tree.d).length : Nat) : Int) = 9) = true then _ else _
      by_cases h9 : (((f.ps.map Tree.d).length : Nat) : Int) = 9
      · rw [decide_eq_true h9, if_pos rfl]
        refine tree_pop hx hF h8 ht (by omega) fun M'' F' f' w7 w8 w9 h1 h2 h3 h4 => ⟨F', f', _, _, _, _, _, _, h1, h2, by omega, ?_, rfl⟩
        rcases h4 with ⟨h4, h5⟩ | ⟨h4, h5, h6, h7⟩
        · exact ⟨by omega, by omega, fun _ _ => by omega⟩
        · have h9'' : f.ps.length = 9 := by rw [List.length_map] at h9; omega
          have h10 := hfull h4 h9''
          exact ⟨by rw [h5]; simp, by omega, fun _ z => by omega⟩
      · rw [decide_eq_false h9, if_neg Bool.false_ne_true]
        have hf8 : f.ps.length ≤ 8 := by rw [List.length_map] at h9; have := hfl.2.2.2.2; omega
        show if decide (r0 = 0) = true then _ else _
        by_cases hr0 : r0 = 0
        · rw [decide_eq_true hr0, if_pos rfl]
          refine ⟨_, hF.fr, ?_⟩
          show if decide ((1 : Int) < (((F ++ [f]).map Frm.d).length : Nat)) = true then _ else _
          by_cases hl1 : (1 : Int) < (((F ++ [f]).map Frm.d).length : Nat)
          · rw [decide_eq_true hl1, if_pos rfl]
            refine tree_pop hx hF h8 ht (by omega) fun M'' F' f' w7 w8 w9 h1 h2 h3 h4 => ⟨F', f', _, _, _, _, _, _, h1, h2, by omega, ?_, rfl⟩
            rcases h4 with ⟨h4, h5⟩ | ⟨h4, h5, h6, h7⟩
            · exact ⟨by omega, by omega, fun _ _ => by omega⟩
            · subst h4
              simp at hl1
          · rw [decide_eq_false hl1, if_neg Bool.false_ne_true]
            exact tree_else hx hF h8 hf8 ht hF9 fun M'' F' f' w10 h1 h2 h3 h4 h5 => ⟨F', f', _, _, _, _, _, _, h1, h2, by omega, ⟨h5, by omega, fun _ _ => by omega⟩, rfl⟩
        · rw [decide_eq_false hr0, if_neg Bool.false_ne_true]
          exact tree_else hx hF h8 hf8 ht hF9 fun M'' F' f' w10 h1 h2 h3 h4 h5 => ⟨F', f', _, _, _, _, _, _, h1, h2, by omega, ⟨h5, by omega, fun _ _ => by omega⟩, rfl⟩
    · rintro τ M' ⟨F, f, v5, v6, v7, v8, v9, v10, hF, h8, ht, ⟨_, hh, _⟩, rfl⟩
      refine ⟨fun m τ M'' => ∃ (F : List Frm) (f : Frm) (v5 v6 v7 v8 v9 v10 : Option D), Frs B M'' lf ln xs (F ++ [f]) ∧ (∀ g ∈ F, g.ps.length ≤ 8) ∧ total (F ++ [f]) ≤ 200 ∧ high (F ++ [f]) ≤ 42 ∧ m = F.length ∧ τ = [some (.ref lc), some (.int first), some (.int sh), some (.ref ln), some (.ref lf), v5, v6, v7, v8, v9, v10], ⟨F.length, F, f, _, _, _, _, _, _, hF, h8, by omega, by omega, rfl, rfl⟩, ?_⟩
      rintro m τ M'' ⟨F, f, v5, v6, v7, v8, v9, v10, hF, h8, ht, hh, rfl, rfl⟩
      refine ⟨_, hF.fr, ?_⟩
      show if decide ((1 : Int) < (((F ++ [f]).map Frm.d).length : Nat)) = true then _ else _
      rcases List.eq_nil_or_concat F with rfl | ⟨F', g, rfl⟩
      · rw [decide_eq_false (by simp), if_neg Bool.false_ne_true]
        have hfl := hF.at' f (by simp)
        have h0 : atI (([] ++ [f] : List Frm).map Frm.d) 0 = some f.d := atI_nat (j := 0) rfl
        refine ⟨_, _, hF.fr, h0, _, _, hF.fr, h0, _, hfl.1, ?_⟩
        refine ⟨M, hB.trans hF.sub, ?_⟩
        have hq := q f.n f.ps (by have e1 : total ([] ++ [f]) = Tree.knotss f.ps + 1 + 0 := rfl; omega) (by have e1 : high ([] ++ [f]) = max (Tree.depths f.ps) 0 + 1 := rfl; omega)
        have ew : D.tup [.str "block", .str f.n, .tup (f.ps.map Tree.d)] = (Tree.block f.n f.ps).d := by rw [← ds_map]; rfl
        rw [← ew] at hq
        exact hq
      · rw [List.concat_eq_append] at *
        rw [decide_eq_true (by simp; omega), if_pos rfl]
        obtain ⟨hP, hPl⟩ := hF.popped
        have hg := hP.at' g (by simp)
        have hlast : atI ((F' ++ [g]).map Frm.d) (-1) = some g.d := by rw [List.map_append]; exact atI_last _ _
        have ew : D.tup [.str "block", .str f.n, .tup (f.ps.map Tree.d)] = (Tree.block f.n f.ps).d := by rw [← ds_map]; rfl
        refine ⟨⟨rfl, _, hF.fr⟩, (F' ++ [g]).map Frm.d, f.d, by rw [hF.fr]; simp, ?_⟩
        refine ⟨_, _, hP.fr, hlast, ⟨rfl, _, hg.1⟩, _, hPl, _, hg.1, ?_, ?_⟩
        · rw [List.length_map]; exact small1000 (by have := hg.2.2.2.2; omega)
        · have hW := hP.push (.block f.n f.ps) (by have := h8 g (by simp); omega)
          rw [← ew] at hW
          refine ⟨F'.length, by simp, F', { g with ps := g.ps ++ [.block f.n f.ps] }, _, _, _, _, _, _, hW, fun k hk => h8 k (by simp [hk]), ?_, by have h1 := high_le (high_closed g f) F'; rw [List.append_assoc] at hh; omega, rfl, rfl⟩
          rw [total_app, total_app] at ht
          rw [total_app]
          have e1 : total [f] = Tree.knotss f.ps + 1 + 0 := rfl
          have e2 : total [g] = Tree.knotss g.ps + 1 + 0 := rfl
          show total F' + (Tree.knotss (g.ps ++ [.block f.n f.ps]) + 1 + 0) ≤ _
          rw [knotss_app]
          show total F' + (Tree.knotss g.ps + ((Tree.knotss f.ps + 1) + 0) + 1 + 0) ≤ _
          omega
/-! ### _law_places -/
abbrev PT' := List Int × Tree
def pd (x : PT') : D := .tup [.tup (x.1.map .int), x.2.d]
mutual
def pre (p : List Int) : Tree → List PT'
  | .block n ps => (p, .block n ps) :: pres p 0 ps
  | .blank k => [(p, .blank k)]
def pres (p : List Int) (i : Nat) : List Tree → List PT'
  | [] => []
  | t :: ts => pre (p ++ [(i : Int)]) t ++ pres p (i + 1) ts
end
def kids (p : List Int) (i : Nat) : List Tree → List PT'
  | [] => []
  | t :: ts => (p ++ [(i : Int)], t) :: kids p (i + 1) ts
def flat (ws : List PT') : List PT' := ws.flatMap fun x => pre x.1 x.2
theorem flat_kids (p : List Int) : ∀ (ps : List Tree) (i : Nat), flat (kids p i ps) = pres p i ps
  | [], _ => rfl
  | t :: ts, i => by rw [kids, flat, List.flatMap_cons, pres]; congr 1; exact flat_kids p ts (i + 1)
theorem kids_length (p : List Int) : ∀ (ps : List Tree) (i : Nat), (kids p i ps).length = ps.length
  | [], _ => rfl
  | t :: ts, i => by rw [kids, List.length_cons, kids_length p ts (i + 1), List.length_cons]
theorem kids_get (p : List Int) : ∀ (ps : List Tree) (i k : Nat) (t : Tree), ps[k]? = some t → (kids p i ps)[k]? = some (p ++ [((i + k : Nat) : Int)], t)
  | [], _, _, _, e => by simp at e
  | t :: ts, i, 0, _, e => by simp at e; subst e; rfl
  | t :: ts, i, k + 1, _, e => by
    have := kids_get p ts (i + 1) k _ (by simpa using e)
    rw [kids, List.getElem?_cons_succ, this, show i + 1 + k = i + (k + 1) by omega]
def weigh (ws : List PT') : Nat := (ws.map fun x => x.2.knots).sum
theorem weigh_kids (p : List Int) : ∀ (ps : List Tree) (i : Nat), weigh (kids p i ps) = Tree.knotss ps
  | [], _ => rfl
  | t :: ts, i => by rw [kids]; simp only [weigh, List.map_cons, List.sum_cons, Tree.knotss]; rw [← weigh_kids p ts (i + 1)]; rfl
theorem weigh_app (a b : List PT') : weigh (a ++ b) = weigh a + weigh b := by simp [weigh]
theorem weigh_rev (a : List PT') : weigh a.reverse = weigh a := by simp [weigh, List.sum_reverse]
mutual
theorem pre_length (p : List Int) : ∀ t : Tree, (pre p t).length = t.knots
  | .block n ps => by rw [pre, List.length_cons, pres_length p ps 0, Tree.knots]
  | .blank k => rfl
theorem pres_length (p : List Int) : ∀ (ts : List Tree) (i : Nat), (pres p i ts).length = Tree.knotss ts
  | [], _ => rfl
  | t :: ts, i => by rw [pres, List.length_append, pre_length _ t, pres_length p ts (i + 1), Tree.knotss]
end
def spPlaces : SpD := fun ds M Q => ∃ t : Tree, ds = [t.d] ∧ t.knots ≤ 300 ∧ ∀ l, M l = none → Q (.ref l) (updM M l (.lst ((pre [] t).map pd)))
/-- the two lists stand: lf what is found, lw what waits -/
structure PlS (M0 M : DH) (lf lw : Addr) (done ws : List PT') : Prop where
  fd : M lf = some (.lst (done.map pd))
  wt : M lw = some (.lst (ws.map pd))
  ne : lf ≠ lw
  f0 : M0 lf = none
  w0 : M0 lw = none
  sub : Sub M0 M
theorem sub_upd {M0 M : DH} {a : Addr} {o : MO} (s : Sub M0 M) (h : M0 a = none) : Sub M0 (updM M a o) := fun b u e => by
  rw [updM_ne (by intro z; subst z; rw [h] at e; cases e)]; exact s b u e
section
variable {M0 M : DH} {lf lw : Addr} {done ws : List PT'}
theorem PlS.fresh (h : PlS M0 M lf lw done ws) {p : Addr} {o : MO} (hp : M p = none) : PlS M0 (updM M p o) lf lw done ws := by
  have s : Sub M (updM M p o) := Sub.new hp
  exact ⟨s _ _ h.fd, s _ _ h.wt, h.ne, h.f0, h.w0, h.sub.trans s⟩
theorem PlS.setF (h : PlS M0 M lf lw done ws) (done' : List PT') : PlS M0 (updM M lf (.lst (done'.map pd))) lf lw done' ws :=
  ⟨updM_same, by rw [updM_ne (Ne.symm h.ne)]; exact h.wt, h.ne, h.f0, h.w0, sub_upd h.sub h.f0⟩
theorem PlS.setW (h : PlS M0 M lf lw done ws) (ws' : List PT') : PlS M0 (updM M lw (.lst (ws'.map pd))) lf lw done ws' :=
  ⟨by rw [updM_ne h.ne]; exact h.fd, updM_same, h.ne, h.f0, h.w0, sub_upd h.sub h.w0⟩
end
theorem knots_pos (t : Tree) : 0 < t.knots := by rw [knots_parts]; omega
theorem length_weigh : ∀ ws : List PT', ws.length ≤ weigh ws
  | [] => Nat.zero_le _
  | x :: ws => by
    have h1 := length_weigh ws
    have h2 := knots_pos x.2
    have e : weigh (x :: ws) = x.2.knots + weigh ws := rfl
    rw [List.length_cons]; omega
theorem knots_get : ∀ {ts : List Tree} {i : Nat} {t : Tree}, ts[i]? = some t → t.knots ≤ Tree.knotss ts
  | [], _, _, e => by simp at e
  | t :: ts, 0, _, e => by simp at e; subst e; simp only [Tree.knotss]; omega
  | t :: ts, i + 1, _, e => by
    have := knots_get (ts := ts) (i := i) (by simpa using e)
    simp only [Tree.knotss]; omega
theorem kids_mem (p : List Int) : ∀ (ps : List Tree) (i : Nat) (y : PT'), y ∈ kids p i ps → y.1.length = p.length + 1 ∧ y.2.knots ≤ Tree.knotss ps
  | [], _, _, h => (nomatch h)
  | t :: ts, i, y, h => by
    rw [kids] at h
    rcases List.mem_cons.mp h with rfl | h
    · exact ⟨by simp, by simp only [Tree.knotss]; omega⟩
    · obtain ⟨h1, h2⟩ := kids_mem p ts (i + 1) y h
      exact ⟨h1, by simp only [Tree.knotss]; omega⟩
theorem flat_app (a b : List PT') : flat (a ++ b) = flat a ++ flat b := by simp [flat]
theorem ok_places (T : Txt K mg) : FnD P w K mg base 1 "_law_places" ["tree"] spPlaces := by
  have m_len := T.m_len
  have m_range := T.m_range
  refine def_ok T.f__law_places sc__law_places (fun ds M Q h => ?_) fun f cdv A outer s H E hr => ⟨_, (ss_cons (s_set (i := 1) sc__law_places.nd (d_lst a_nil))
 (ss_cons (s_set (i := 2) sc__law_places.nd (d_lst (a_cons (d_tup (a_cons (d_tup a_nil) (a_cons (d_var 0) a_nil))) a_nil)))
 (ss_cons (s_while PassesOwn.never (dt_cmp (od_ne hr) (d_var 2) (d_lst a_nil) (nomark _)) (ss_cons (s_asg (d_bm0 PySem.F.plainAttrs_list PySem.F.slot_list_pop PySem.F.type_list_pop md_pop (d_var 2)) (g_tup rfl (gs_cons (g_name (i := 3) sc__law_places.nd) (gs_cons (g_name (i := 4) sc__law_places.nd) gs_nil)) len_2))
 (ss_cons (s_expr (d_bm PySem.F.plainAttrs_list PySem.F.slot_list_append PySem.F.type_list_append md_append (d_var 1) (a_cons (d_tup (a_cons (d_var 3) (a_cons (d_var 4) a_nil))) a_nil)))
 (ss_one (s_if (dt_cmp (od_eq hr) (d_ix (d_var 4) d_int) d_str (nomark _)) (ss_one (s_for3 PassesOwn.never rfl m_range (a_cons (d_op od_sub (d_callB cd_len rfl m_len bt_len (a_cons (d_ix (d_var 4) d_int) a_nil)) d_int) (a_cons (d_neg d_int) (a_cons (d_neg d_int) a_nil))) (g_name (i := 5) sc__law_places.nd) (ss_one (s_expr (d_bm PySem.F.plainAttrs_list PySem.F.slot_list_append PySem.F.type_list_append md_append (d_var 2) (a_cons (d_tup (a_cons (d_op od_add (d_var 3) (d_tup (a_cons (d_var 5) a_nil))) (a_cons (d_ix (d_ix (d_var 4) d_int) (d_var 5)) a_nil))) a_nil)))))) ss_nil)))))
 (ss_one (s_ret (d_var 1)))))), fun ds M Q h => ?_⟩
  · obtain ⟨t, rfl, _⟩ := h; rfl
  · obtain ⟨t, rfl, hk, q⟩ := h
    show ∀ lf, M lf = none → _
    intro lf hlf
    show ∀ lw, updM M lf (.lst []) lw = none → _
    intro lw hlw
    obtain ⟨w1, w2⟩ := upd_none hlw
    have F0 : PlS M (updM (updM M lf (.lst [])) lw (.lst [.tup [.tup [], t.d]])) lf lw [] [([], t)] :=
      ⟨by rw [updM_ne (Ne.symm w1), updM_same]; rfl, by rw [updM_same]; rfl, Ne.symm w1, hlf, w2, sub_upd (sub_upd (Sub.refl M) hlf) w2⟩
    refine ⟨fun m τ M' => ∃ (done ws : List PT') (v3 v4 v5 : Option D), PlS M M' lf lw done ws ∧ done ++ flat ws.reverse = pre [] t ∧ (∀ x ∈ ws, x.1.length + x.2.knots ≤ 300) ∧ done.length + weigh ws ≤ 300 ∧ m = weigh ws ∧ τ = [some t.d, some (.ref lf), some (.ref lw), v3, v4, v5], ⟨_, [], [([], t)], none, none, none, F0, by simp [flat], by simp; omega, by simp [weigh]; omega, rfl, rfl⟩, ?_⟩
    rintro m τ M' ⟨done, ws, v3, v4, v5, hS, heq, hb, hlen, rfl, rfl⟩
    show ∀ p, M' p = none → _
    intro p hp
    have hS2 := hS.fresh (o := .lst []) hp
    refine ⟨_, [], hS2.wt, updM_same, .inr rfl, ?_⟩
    generalize updM M' p (.lst []) = M2 at *
    rcases List.eq_nil_or_concat ws with rfl | ⟨ws', x, rfl⟩
    · have e0 : done = pre [] t := by simpa [flat] using heq
      subst e0
      exact ⟨updM M lf (.lst ((pre [] t).map pd)), fun a o e => by
        by_cases ha : a = lf
        · subst ha; rw [updM_same] at e; cases e; exact hS2.fd
        · rw [updM_ne ha] at e; exact hS2.sub a o e, q lf hlf⟩
    · rw [List.concat_eq_append] at *
      obtain ⟨pl, here⟩ := x
      have hne : ((ws' ++ [(pl, here)]).map pd).isEmpty = false := by simp
      show if (!(((ws' ++ [(pl, here)]).map pd).isEmpty && ([] : List D).isEmpty)) = true then _ else _
      rw [hne]
      have hW := hS2.setW ws'
      refine ⟨⟨rfl, _, hS2.wt⟩, ws'.map pd, pd (pl, here), by rw [hS2.wt]; simp, ?_⟩
      generalize updM M2 lw (.lst (ws'.map pd)) = M3 at *
      have hF := hW.setF (done ++ [(pl, here)])
      have hwa : weigh (ws' ++ [(pl, here)]) = weigh ws' + here.knots := by rw [weigh_app]; rfl
      have hkp := knots_pos here
      have hpb := hb (pl, here) (by simp)
      have hpb' : pl.length + here.knots ≤ 300 := hpb
      refine ⟨⟨rfl, _, hW.fd⟩, _, hW.fd, by rw [List.length_map]; exact small1000 (by omega), ?_⟩
      rw [show done.map pd ++ [.tup [.tup (pl.map .int), here.d]] = (done ++ [(pl, here)]).map pd by simp [pd]]
      generalize updM M3 lf (.lst ((done ++ [(pl, here)]).map pd)) = M4 at *
      have heq' : done ++ ([(pl, here)] ++ flat (kids pl 0 here.parts ++ ws'.reverse)) = pre [] t := by
        rw [← heq, List.reverse_append, flat_app, flat_app, flat_kids]
        congr 1
        rw [← List.append_assoc]
        congr 1
        cases here with
        | block n ps => show _ = pre pl _ ++ []; rw [pre]; simp [Tree.parts]
        | blank k => show _ = pre pl _ ++ []; rw [pre]; simp [Tree.parts, pres]
      cases here with
      | blank k =>
        have heq2 : done ++ ([(pl, Tree.blank k)] ++ flat ws'.reverse) = pre [] t := heq'
        refine ⟨weigh ws', by rw [hwa]; omega, done ++ [(pl, .blank k)], ws', _, _, _, hF, by rw [← heq2]; simp, fun y hy => hb y (by simp [hy]), ?_, rfl, rfl⟩
        rw [List.length_append]; simp; omega
      | block n ps =>
        have hkn : (Tree.block n ps).knots = Tree.knotss ps + 1 := rfl
        have hpsl : ps.length ≤ Tree.knotss ps := by have h1 := length_weigh (kids pl 0 ps); rw [kids_length, weigh_kids] at h1; exact h1
        have hwl := length_weigh ws'
        show ((-1 : Int) = -1 ∧ _) ∧ walkR (fun i => (((Tree.ds ps).length : Int) - 1) - (i : Int)) ((((Tree.ds ps).length : Int) - 1) - (-1)).toNat _ _ _ _ _
        rw [ds_map, List.length_map]
        have hn : (((ps.length : Int) - 1) - (-1)).toNat = ps.length := by omega
        rw [hn]
        refine ⟨⟨rfl, by omega, by omega, by decide, by decide⟩, fun j τ M'' => ∃ v5 : Option D, PlS M M'' lf lw (done ++ [(pl, .block n ps)]) (ws' ++ (kids pl 0 ps).reverse.take j) ∧ τ = [some t.d, some (.ref lf), some (.ref lw), some (.tup (pl.map .int)), some (Tree.block n ps).d, v5], ⟨_, by simpa using hF, rfl⟩, ?_, ?_⟩
        · rintro j τ M'' hj ⟨w5, hI, rfl⟩
          have hix : ps.length - 1 - j < ps.length := by omega
          have hg : ps[ps.length - 1 - j]? = some ps[ps.length - 1 - j] := List.getElem?_eq_getElem hix
          generalize ps[ps.length - 1 - j] = part at hg
          have eI : ((ps.length : Int) - 1) - (j : Int) = ((ps.length - 1 - j : Nat) : Int) := by omega
          have hat : atI (Tree.ds ps) (((ps.length : Int) - 1) - (j : Int)) = some part.d := by
            rw [eI]; refine atI_nat ?_; rw [ds_map, List.getElem?_map, hg]; rfl
          have hkid : (kids pl 0 ps).reverse[j]? = some (pl ++ [((ps.length - 1 - j : Nat) : Int)], part) := by
            rw [List.getElem?_reverse (by rw [kids_length]; exact hj), kids_length, kids_get pl ps 0 _ part hg, Nat.zero_add]
          refine ⟨⟨rfl, _, hI.wt⟩, ?_⟩
          show _ ∧ onSome (atI (Tree.ds ps) (((ps.length : Int) - 1) - (j : Int))) _
          rw [hat]
          have hl9 : ((kids pl 0 ps).reverse.take j).length ≤ ps.length := by rw [List.length_take]; omega
          refine ⟨by rw [List.length_map]; exact line1000 (by simp; omega), _, hI.wt, by rw [List.length_map, List.length_append]; exact small1000 (by omega), _, ?_, rfl⟩
          have hU := hI.setW (ws' ++ (kids pl 0 ps).reverse.take (j + 1))
          rw [List.take_add_one, hkid] at hU ⊢
          rw [show ((ws' ++ ((kids pl 0 ps).reverse.take j ++ (some (pl ++ [((ps.length - 1 - j : Nat) : Int)], part)).toList)).map pd) = (ws' ++ (kids pl 0 ps).reverse.take j).map pd ++ [.tup [.tup (pl.map .int ++ [.int (((ps.length : Int) - 1) - (j : Int))]), part.d]] by simp [pd, eI]] at hU
          exact hU
        · rintro τ M'' ⟨w5, hI, rfl⟩
          have etk : (kids pl 0 ps).reverse.take ps.length = (kids pl 0 ps).reverse := by rw [List.take_of_length_le]; rw [List.length_reverse, kids_length]; exact Nat.le_refl _
          rw [etk] at hI
          refine ⟨_, ?_, _, _, _, _, _, hI, ?_, ?_, ?_, rfl, rfl⟩
          · rw [weigh_app, weigh_rev, weigh_kids, hwa, hkn]; omega
          · rw [← heq']; simp [Tree.parts]
          · intro y hy
            rcases List.mem_append.mp hy with hy | hy
            · exact hb y (by simp [hy])
            · obtain ⟨h1, h2⟩ := kids_mem pl ps 0 y (List.mem_reverse.mp hy)
              omega
          · rw [weigh_app, weigh_rev, weigh_kids, List.length_append]; simp; omega
/-! ### alike, of anything -/
def Al (M : DH) : Nat → D → D → Prop
  | 0, _, _ => False
  | n + 1, a, b => (∃ i, a = .int i ∧ b = .int i) ∨ (∃ z, a = .str z ∧ b = .str z) ∨ (∃ k, a = .bl k ∧ b = .bl k) ∨
      (∃ xs ys, a = .tup xs ∧ b = .tup ys ∧ xs.length = ys.length ∧ ys.length ≤ 1000000 ∧ ∀ (j : Nat) x y, xs[j]? = some x → ys[j]? = some y → Al M n x y) ∨
      ∃ l r xs ys, a = .ref l ∧ b = .ref r ∧ M l = some (.lst xs) ∧ M r = some (.lst ys) ∧ xs.length = ys.length ∧ ys.length ≤ 1000000 ∧ ∀ (j : Nat) x y, xs[j]? = some x → ys[j]? = some y → Al M n x y
def spAl (n : Nat) : SpD := fun ds M Q => ∃ a b, ds = [a, b] ∧ Al M n a b ∧ Q (.bl true) M
theorem ok_al (T : Txt K mg) : ∀ n : Nat, FnD P w K mg base (n + 1) "_law_alike" ["found", "due"] (spAl n)
  | 0 => (fn_none T.f__law_alike fun ds M Q ⟨a, b, _, h, _⟩ => h).mono (by omega)
  | n + 1 => by
    have m_bool := T.m_bool
    have m_int := T.m_int
    have m_isinstance := T.m_isinstance
    have m_len := T.m_len
    have m_list := T.m_list
    have m_range := T.m_range
    have m_str := T.m_str
    have m_tuple := T.m_tuple
    have F__law_alike := ok_al T n
    refine def_ok T.f__law_alike sc__law_alike (fun ds M Q h => ?_) fun f cdv A outer s H E hr => ⟨_, (ss_cons (s_if (dt_val (d_callB cd_isi rfl m_isinstance bt_isinstance (a_cons (d_var 1) (a_cons (d_ty rfl m_bool bt_bool) a_nil)))) (ss_one (s_ret (d_and (d_callB cd_isi rfl m_isinstance bt_isinstance (a_cons (d_var 0) (a_cons (d_ty rfl m_bool bt_bool) a_nil))) (d_one (d_cmp (od_eq hr) (d_var 0) (d_var 1) (nomark _)))))) ss_nil)
 (ss_cons (s_if (dt_val (d_callB cd_isi rfl m_isinstance bt_isinstance (a_cons (d_var 1) (a_cons (d_ty rfl m_int bt_int) a_nil)))) (ss_one (s_ret (d_and (d_callB cd_isi rfl m_isinstance bt_isinstance (a_cons (d_var 0) (a_cons (d_ty rfl m_int bt_int) a_nil))) (d_and (d_not (d_callB cd_isi rfl m_isinstance bt_isinstance (a_cons (d_var 0) (a_cons (d_ty rfl m_bool bt_bool) a_nil)))) (d_one (d_cmp (od_eq hr) (d_var 0) (d_var 1) (nomark _))))))) ss_nil)
 (ss_cons (s_if (dt_val (d_callB cd_isi rfl m_isinstance bt_isinstance (a_cons (d_var 1) (a_cons (d_ty rfl m_str bt_str) a_nil)))) (ss_one (s_ret (d_and (d_callB cd_isi rfl m_isinstance bt_isinstance (a_cons (d_var 0) (a_cons (d_ty rfl m_str bt_str) a_nil))) (d_one (d_cmp (od_eq hr) (d_var 0) (d_var 1) (nomark _)))))) ss_nil)
 (ss_cons (s_if (dt_val (d_callB cd_isi rfl m_isinstance bt_isinstance (a_cons (d_var 1) (a_cons (d_ty rfl m_tuple bt_tuple) a_nil)))) (ss_one (s_if (dt_not (dt_val (d_callB cd_isi rfl m_isinstance bt_isinstance (a_cons (d_var 0) (a_cons (d_ty rfl m_tuple bt_tuple) a_nil))))) (ss_one (s_ret d_bl)) ss_nil)) (ss_one (s_if (dt_not (dt_val (d_callB cd_isi rfl m_isinstance bt_isinstance (a_cons (d_var 0) (a_cons (d_ty rfl m_list bt_list) a_nil))))) (ss_one (s_ret d_bl)) ss_nil)))
 (ss_cons (s_if (dt_cmp (od_ne hr) (d_callB cd_len rfl m_len bt_len (a_cons (d_var 0) a_nil)) (d_callB cd_len rfl m_len bt_len (a_cons (d_var 1) a_nil)) (nomark _)) (ss_one (s_ret d_bl)) ss_nil)
 (ss_cons (s_for1 PassesOwn.never rfl m_range (a_cons (d_callB cd_len rfl m_len bt_len (a_cons (d_var 1) a_nil)) a_nil) (g_name (i := 2) sc__law_alike.nd) (ss_one (s_if (dt_not (dt_val (d_call F__law_alike (hr.mono (by omega)) (a_cons (d_ix (d_var 0) (d_var 2)) (a_cons (d_ix (d_var 1) (d_var 2)) a_nil))))) (ss_one (s_ret d_bl)) ss_nil)))
 (ss_one (s_ret d_bl)))))))), fun ds M Q h => ?_⟩
    · obtain ⟨a, b, rfl, _⟩ := h; rfl
    · obtain ⟨a, b, rfl, h, q⟩ := h
      rcases h with ⟨i, rfl, rfl⟩ | ⟨z, rfl, rfl⟩ | ⟨k, rfl, rfl⟩ | ⟨xs, ys, rfl, rfl, hl, hz, hx⟩ | ⟨l, r, xs, ys, rfl, rfl, h1, h2, hl, hz, hx⟩
      · have e : (endsOf Q).rt (.bl (decide (i = i))) M := by rw [decide_eq_true rfl]; exact rt_done q
        exact e
      · have e : (endsOf Q).rt (.bl (decide (z = z))) M := by rw [decide_eq_true rfl]; exact rt_done q
        exact e
      · have e : (endsOf Q).rt (.bl (decide (k = k))) M := by rw [decide_eq_true rfl]; exact rt_done q
        exact e
      · show if (!decide ((xs.length : Int) = (ys.length : Int))) = true then _ else _
        rw [decide_eq_true (show (xs.length : Int) = (ys.length : Int) by rw [hl])]
        refine ⟨⟨by omega, by omega⟩, fun i τ M' => (∃ v : Option D, τ = [some (.tup xs), some (.tup ys), v]) ∧ M' = M, ⟨⟨none, rfl⟩, rfl⟩, ?_, ?_⟩
        · rintro i τ M' hi ⟨⟨v, rfl⟩, rfl⟩
          have hi' : i < ys.length := by omega
          have e1 := List.getElem?_eq_getElem (l := xs) (i := i) (by omega)
          have e2 := List.getElem?_eq_getElem (l := ys) (i := i) hi'
          show onSome (atI xs ((i : Nat) : Int)) fun d => onSome (atI ys ((i : Nat) : Int)) _
          rw [atI_nat e1]
          show onSome (atI ys ((i : Nat) : Int)) _
          rw [atI_nat e2]
          exact ⟨_, _, rfl, hx i _ _ e1 e2, ⟨_, rfl⟩, rfl⟩
        · rintro τ M' ⟨⟨v, rfl⟩, rfl⟩
          exact rt_done q
      · refine ⟨⟨_, h2⟩, ⟨_, h2⟩, ⟨_, h2⟩, ⟨_, h2⟩, ⟨_, h1⟩, _, h1, _, h2, ?_⟩
        show if (!decide ((xs.length : Int) = (ys.length : Int))) = true then _ else _
        rw [decide_eq_true (show (xs.length : Int) = (ys.length : Int) by rw [hl])]
        refine ⟨_, h2, ⟨by omega, by omega⟩, fun i τ M' => (∃ v : Option D, τ = [some (.ref l), some (.ref r), v]) ∧ M' = M, ⟨⟨none, rfl⟩, rfl⟩, ?_, ?_⟩
        · rintro i τ M' hi ⟨⟨v, rfl⟩, rfl⟩
          have hi' : i < ys.length := by omega
          have e1 := List.getElem?_eq_getElem (l := xs) (i := i) (by omega)
          have e2 := List.getElem?_eq_getElem (l := ys) (i := i) hi'
          exact ⟨_, _, h1, atI_nat e1, _, _, h2, atI_nat e2, _, _, rfl, hx i _ _ e1 e2, ⟨_, rfl⟩, rfl⟩
        · rintro τ M' ⟨⟨v, rfl⟩, rfl⟩
          exact rt_done q
theorem al_mono {M : DH} : ∀ {n m : Nat} {a b : D}, Al M n a b → n ≤ m → Al M m a b
  | 0, _, _, _, h, _ => h.elim
  | n + 1, 0, _, _, _, h => by omega
  | n + 1, m + 1, _, _, h, hm => by
    rcases h with h | h | h | ⟨xs, ys, h1, h2, h3, h4, h5⟩ | ⟨l, r, xs, ys, h1, h2, h3, h4, h5, h6, h7⟩
    · exact .inl h
    · exact .inr (.inl h)
    · exact .inr (.inr (.inl h))
    · exact .inr (.inr (.inr (.inl ⟨xs, ys, h1, h2, h3, h4, fun j x y e1 e2 => al_mono (h5 j x y e1 e2) (by omega)⟩)))
    · exact .inr (.inr (.inr (.inr ⟨l, r, xs, ys, h1, h2, h3, h4, h5, h6, fun j x y e1 e2 => al_mono (h7 j x y e1 e2) (by omega)⟩)))
theorem al_int {M : DH} {n : Nat} (i : Int) : Al M (n + 1) (.int i) (.int i) := .inl ⟨i, rfl, rfl⟩
theorem al_str {M : DH} {n : Nat} (z : Str) : Al M (n + 1) (.str z) (.str z) := .inr (.inl ⟨z, rfl, rfl⟩)
theorem al_tup {M : DH} {n : Nat} {xs : List D} (hz : xs.length ≤ 1000000) (h : ∀ x ∈ xs, Al M n x x) : Al M (n + 1) (.tup xs) (.tup xs) :=
  .inr (.inr (.inr (.inl ⟨xs, xs, rfl, rfl, rfl, hz, fun j x y e1 e2 => by rw [e1] at e2; cases e2; exact h x (List.mem_of_getElem? e1)⟩)))
theorem al_lst {M : DH} {n : Nat} {l r : Addr} {xs : List D} (h1 : M l = some (.lst xs)) (h2 : M r = some (.lst xs)) (hz : xs.length ≤ 1000000) (h : ∀ x ∈ xs, Al M n x x) : Al M (n + 1) (.ref l) (.ref r) :=
  .inr (.inr (.inr (.inr ⟨l, r, xs, xs, rfl, rfl, h1, h2, rfl, hz, fun j x y e1 e2 => by rw [e1] at e2; cases e2; exact h x (List.mem_of_getElem? e1)⟩)))
theorem al_ints {M : DH} {n : Nat} {p : List Int} (hz : p.length ≤ 1000000) : Al M (n + 2) (.tup (p.map .int)) (.tup (p.map .int)) :=
  al_tup (by rw [List.length_map]; exact hz) fun x hx => by obtain ⟨i, _, rfl⟩ := List.mem_map.mp hx; exact al_int i
mutual
theorem al_tree {M : DH} : ∀ (t : Tree) (n : Nat), t.knots ≤ 1000000 → 2 * t.depth ≤ n → Al M n t.d t.d
  | .block z ps, n, hk, h => by
    rw [Tree.depth] at h
    rw [Tree.knots] at hk
    obtain ⟨m, rfl⟩ : ∃ m, n = m + 2 := ⟨n - 2, by omega⟩
    refine al_tup (by show 3 ≤ 1000000; decide) fun x hx => ?_
    simp only [List.mem_cons, List.not_mem_nil, or_false] at hx
    rcases hx with rfl | rfl | rfl
    · exact al_str _
    · exact al_str _
    · refine al_tup ?_ fun x hx => ?_
      · rw [ds_map, List.length_map]; have := length_knotss ps; omega
      · rw [ds_map] at hx
        obtain ⟨t, ht, rfl⟩ := List.mem_map.mp hx
        exact al_trees ps m (by omega) (by omega) t ht
  | .blank k, n, _, h => by
    rw [Tree.depth] at h
    obtain ⟨m, rfl⟩ : ∃ m, n = m + 2 := ⟨n - 2, by omega⟩
    refine al_tup (by show 2 ≤ 1000000; decide) fun x hx => ?_
    simp only [List.mem_cons, List.not_mem_nil, or_false] at hx
    rcases hx with rfl | rfl
    · exact al_str _
    · exact al_int _
theorem al_trees {M : DH} : ∀ (ts : List Tree) (n : Nat), Tree.knotss ts ≤ 1000000 → 2 * Tree.depths ts ≤ n → ∀ t ∈ ts, Al M n t.d t.d
  | [], _, _, _, t, h => (nomatch h)
  | u :: ts, n, hk, hd, t, h => by
    rw [Tree.knotss] at hk
    rw [Tree.depths] at hd
    rcases List.mem_cons.mp h with h | h
    · rw [h]; exact al_tree u n (by omega) (by omega)
    · exact al_trees ts n (by omega) (by omega) t h
end
theorem knotss_take_le : ∀ (ts : List Tree) (i : Nat), Tree.knotss (ts.take i) ≤ Tree.knotss ts
  | [], i => by simp
  | t :: ts, 0 => by simp [Tree.knotss]
  | t :: ts, i + 1 => by have := knotss_take_le ts i; simp only [List.take_succ_cons, Tree.knotss]; omega
theorem updM_self {M : DH} {a : Addr} {o : MO} (h : M a = some o) : updM M a o = M := by
  funext b
  by_cases z : b = a
  · subst z; rw [updM_same, h]
  · rw [updM_ne z]
theorem tree_ifd {c : TTd} {te : TEd} {u : TSd} {E : EndsD} {τ : DSt} {M : DH} (hu : ∀ t : Tree, t.knots ≤ 201 → t.depth ≤ 71 → u E (τ.set 2 (some t.d)) M)
    (h : ∀ R : DSt → DH → Prop, (∀ t : Tree, t.knots ≤ 201 → t.depth ≤ 71 → R (τ.set 2 (some t.d)) M) → c τ M fun k M1 => if k = true then te τ M1 fun x M2 => R (τ.set 2 (some x)) M2 else R τ M1) : DL.sSeq (DL.sIf c (DL.sAsg te (DL.hName 2)) DL.sNext) u E τ M := h (u E) hu
-- DICTS gather_blanks.found blanks_of.found
/-! ### blanks -/
mutual
/-- the numbers of the blanks as they stand -/
def nums : Tree → List Int
  | .block _ ps => numss ps
  | .blank k => [k]
def numss : List Tree → List Int
  | [] => []
  | t :: ts => nums t ++ numss ts
end
def ins (ks : List Int) (n : Int) : List Int := if n ∈ ks then ks else ks ++ [n]
def inss (ks ns : List Int) : List Int := ns.foldl ins ks
theorem inss_app (ks a b : List Int) : inss ks (a ++ b) = inss (inss ks a) b := by simp [inss]
theorem ins_len (ks : List Int) (n : Int) : (ins ks n).length ≤ ks.length + 1 := by unfold ins; split <;> simp
theorem inss_len : ∀ (ns ks : List Int), (inss ks ns).length ≤ ks.length + ns.length
  | [], ks => Nat.le_refl _
  | n :: ns, ks => by
    have h1 := inss_len ns (ins ks n)
    have h2 := ins_len ks n
    show (inss (ins ks n) ns).length ≤ _
    rw [List.length_cons]; omega
mutual
theorem nums_len : ∀ t : Tree, (nums t).length ≤ t.knots
  | .block _ ps => by rw [nums, Tree.knots]; have := numss_len ps; omega
  | .blank _ => Nat.le_refl _
theorem numss_len : ∀ ts : List Tree, (numss ts).length ≤ Tree.knotss ts
  | [] => Nat.le_refl _
  | t :: ts => by rw [numss, List.length_append, Tree.knotss]; have := nums_len t; have := numss_len ts; omega
end
theorem numss_take : ∀ (ts : List Tree) (i : Nat) (t : Tree), ts[i]? = some t → numss (ts.take (i + 1)) = numss (ts.take i) ++ nums t
  | [], _, _, e => by simp at e
  | t :: ts, 0, _, e => by simp at e; subst e; simp [numss]
  | t :: ts, i + 1, _, e => by
    have := numss_take ts i _ (by simpa using e)
    simp only [List.take_succ_cons, numss] at this ⊢
    rw [this, List.append_assoc]
/-- the number that stands at a place, if it is a blank's -/
def numAtP (y : PT') : Option Int := match y.2 with
  | .blank k => some k
  | .block _ _ => none
mutual
theorem nums_pre (p : List Int) : ∀ t : Tree, (pre p t).filterMap numAtP = nums t
  | .block n ps => by rw [pre, nums, ← nums_pres p ps 0]; rfl
  | .blank k => rfl
theorem nums_pres (p : List Int) : ∀ (ts : List Tree) (i : Nat), (pres p i ts).filterMap numAtP = numss ts
  | [], _ => rfl
  | t :: ts, i => by rw [pres, List.filterMap_append, nums_pre _ t, nums_pres p ts (i + 1), numss]
end
theorem ins_keys (ks : List Int) (n : Int) : putD (ks.map fun k => ((Sum.inl k : Key), D.bl true)) (.inl n) (.bl true) = (ins ks n).map fun k => ((Sum.inl k : Key), D.bl true) := by
  have hv : (valD (ks.map fun k => ((Sum.inl k : Key), D.bl true)) (.inl n)).isSome = decide (n ∈ ks) := by
    rw [← valD_any, List.any_map]
    induction ks with
    | nil => rfl
    | cons k ks ih =>
      rw [List.any_cons, ih]
      by_cases e : k = n
      · subst e; simp
      · have e' : ¬ n = k := fun z => e z.symm
        simp [e, e']
  unfold ins
  by_cases h : n ∈ ks
  · rw [putD_old _ (by rw [hv]; exact decide_eq_true h), if_pos h, List.map_map]
    refine List.map_congr_left fun k _ => ?_
    simp only [Function.comp]
    split <;> rfl
  · rw [if_neg h, putD_new _ (by have := hv; rw [decide_eq_false h] at this; exact Option.isNone_iff_eq_none.mp (by simpa using this)), List.map_append]
    rfl
def dk (ks : List Int) : List (Key × D) := ks.map fun k => ((Sum.inl k : Key), D.bl true)
def spGather (n : Nat) : SpD := fun ds M Q => ∃ (t : Tree) (l : Addr) (ks : List Int), ds = [t.d, .ref l] ∧ t.depth ≤ n ∧ M l = some (.dic (dk ks)) ∧ ks.length + t.knots ≤ 1000 ∧ Q .non (updM M l (.dic (dk (inss ks (nums t)))))
theorem ok_gather (T : Txt K mg) : ∀ n : Nat, FnD P w K mg base (n + 1) "gather_blanks" ["tree", "found"] (spGather n)
  | 0 => (fn_none T.f_gather_blanks fun ds M Q ⟨t, _, _, _, h, _⟩ => by have := depth_pos t; omega).mono (by omega)
  | n + 1 => by
    have F_gather_blanks := ok_gather T n
    have F_parts_of := ok_parts_of (P := P) (w := w) (base := base) T
    refine def_ok T.f_gather_blanks sc_gather_blanks (fun ds M Q h => ?_) fun f cdv A outer s H E hr => ⟨_, (ss_cons (s_if (dt_cmp (od_eq hr) (d_ix (d_var 0) d_int) d_str (nomark _)) (ss_one (s_asg d_bl (g_subK hr (d_var 1) (d_ix (d_var 0) d_int)))) ss_nil)
 (ss_one (s_for PassesOwn.never rfl (d_call F_parts_of (hr.mono (by omega)) (a_cons (d_var 0) a_nil)) (g_name (i := 2) sc_gather_blanks.nd) (ss_one (s_expr (d_call F_gather_blanks (hr.mono (by omega)) (a_cons (d_var 2) (a_cons (d_var 1) a_nil)))))))), fun ds M Q h => ?_⟩
    · obtain ⟨t, l, ks, rfl, _⟩ := h; rfl
    · obtain ⟨t, l, ks, rfl, hd, hl, hk, q⟩ := h
      cases t with
      | blank k =>
        refine ⟨_, _, rfl, hl, by unfold dk; rw [List.length_map]; exact small1000 (by have : (Tree.blank k).knots = 1 := rfl; omega), ?_⟩
        refine ⟨.blank k, rfl, ?_⟩
        have e : putD (dk ks) (.inl k) (.bl true) = dk (inss ks (nums (.blank k))) := ins_keys ks k
        refine ⟨fun _ τ M' => M' = updM M l (.dic (dk (inss ks (nums (.blank k))))), by rw [← e], fun _ _ _ _ _ => trivial, fun i d τ M' ed => ?_, fun τ M' hW => ?_⟩
        · simp [Tree.parts] at ed
        · subst hW
          exact ⟨_, Sub.refl _, q⟩
      | block z ps =>
        rw [Tree.depth] at hd
        rw [Tree.knots] at hk
        refine ⟨.block z ps, rfl, ?_⟩
        refine ⟨fun i τ M' => (∃ v : Option D, τ = [some (Tree.block z ps).d, some (.ref l), v]) ∧ M' = updM M l (.dic (dk (inss ks (numss (ps.take i))))), ⟨⟨none, rfl⟩, (updM_self hl).symm⟩, fun _ _ _ _ _ => trivial, ?_, ?_⟩
        · rintro i d τ M' ed ⟨⟨v, rfl⟩, rfl⟩
          rw [List.getElem?_map] at ed
          cases e : (Tree.block z ps).parts[i]? with
          | none => rw [e] at ed; cases ed
          | some p =>
            rw [e] at ed
            cases ed
            have e' : ps[i]? = some p := e
            have h1 := depth_get e'
            have h2 := knotss_take _ _ _ e'
            have h3 := knotss_take_le ps (i + 1)
            have h4 := inss_len (numss (ps.take i)) ks
            have h5 := numss_len (ps.take i)
            refine ⟨p, l, _, rfl, by omega, updM_same, by omega, ?_⟩
            rw [updM_upd, ← inss_app, ← numss_take _ _ _ e']
            exact ⟨⟨_, rfl⟩, rfl⟩
        · rintro τ M' ⟨⟨v, rfl⟩, rfl⟩
          have e : (((Tree.block z ps).parts.map Tree.d).length : Nat) = ps.length := by rw [List.length_map]; rfl
          rw [e, List.take_length]
          exact ⟨_, Sub.refl _, q⟩
def spBlanks (n : Nat) : SpD := fun ds M Q => ∃ t : Tree, ds = [t.d] ∧ t.depth ≤ n ∧ t.knots ≤ 1000 ∧ ∀ l, M l = none → Q (.ref l) (updM M l (.lst ((inss [] (nums t)).map .int)))
theorem ok_blanks_of (T : Txt K mg) (n : Nat) : FnD P w K mg base (n + 2) "blanks_of" ["tree"] (spBlanks n) := by
  have m_list := T.m_list
  have F_gather_blanks := ok_gather (P := P) (w := w) (base := base) T n
  refine def_ok T.f_blanks_of sc_blanks_of (fun ds M Q h => ?_) fun f cdv A outer s H E hr => ⟨_, (ss_cons (s_set (i := 1) sc_blanks_of.nd d_dict0)
 (ss_cons (s_expr (d_call F_gather_blanks (hr.mono (by omega)) (a_cons (d_var 0) (a_cons (d_var 1) a_nil))))
 (ss_one (s_ret (d_callTy (cd_listK rfl) rfl m_list bt_list (a_cons (d_var 1) a_nil)))))), fun ds M Q h => ?_⟩
  · obtain ⟨t, rfl, _⟩ := h; rfl
  · obtain ⟨t, rfl, hd, hk, q⟩ := h
    show ∀ p, M p = none → _
    intro p hp
    refine ⟨t, p, [], rfl, hd, updM_same, by simpa using hk, _, .inl updM_same, fun l hl => ?_⟩
    rw [updM_upd] at hl ⊢
    obtain ⟨l1, l2⟩ := upd_none hl
    refine ⟨updM M l (.lst ((inss [] (nums t)).map .int)), fun a o e => ?_, q l l2⟩
    have em : (dk (inss [] (nums t))).map (fun kv => keyD kv.1) = (inss [] (nums t)).map D.int := by unfold dk; rw [List.map_map]; rfl
    rw [em]
    by_cases ha : a = l
    · subst ha; rw [updM_same] at e ⊢; exact e
    · rw [updM_ne ha] at e ⊢
      rw [updM_ne (by intro z; subst z; rw [hp] at e; cases e)]
      exact e
/-! ### places, parts -/
def tupI (p : List Int) : D := .tup (p.map .int)
theorem pres_take (p : List Int) : ∀ (ts : List Tree) (i j : Nat) (t : Tree), ts[i]? = some t → pres p j (ts.take (i + 1)) = pres p j (ts.take i) ++ pre (p ++ [((j + i : Nat) : Int)]) t
  | [], _, _, _, e => by simp at e
  | t :: ts, 0, j, _, e => by simp at e; subst e; simp [pres]
  | t :: ts, i + 1, j, _, e => by
    have := pres_take p ts i (j + 1) _ (by simpa using e)
    simp only [List.take_succ_cons, pres] at this ⊢
    rw [this, List.append_assoc, show j + 1 + i = j + (i + 1) by omega]
theorem pre_parts (p : List Int) (t : Tree) : (pre p t).map (·.1) = p :: (pres p 0 t.parts).map (·.1) := by
  cases t with
  | block n ps => rw [pre]; rfl
  | blank k => rw [pre]; rfl
def spGP (n : Nat) : SpD := fun ds M Q => ∃ (t : Tree) (p : List Int) (l : Addr) (done : List (List Int)), ds = [t.d, tupI p, .ref l] ∧ t.depth ≤ n ∧ M l = some (.lst (done.map tupI)) ∧ done.length + t.knots ≤ 1000 ∧ p.length + t.depth ≤ 1000 ∧
  Q .non (updM M l (.lst ((done ++ (pre p t).map (·.1)).map tupI)))
theorem ok_gp (T : Txt K mg) : ∀ n : Nat, FnD P w K mg base (n + 1) "gather_places" ["tree", "place", "places"] (spGP n)
  | 0 => (fn_none T.f_gather_places fun ds M Q ⟨t, _, _, _, _, h, _⟩ => by have := depth_pos t; omega).mono (by omega)
  | n + 1 => by
    have m_enumerate := T.m_enumerate
    have F_gather_places := ok_gp T n
    have F_parts_of := ok_parts_of (P := P) (w := w) (base := base) T
    refine def_ok T.f_gather_places sc_gather_places (fun ds M Q h => ?_) fun f cdv A outer s H E hr => ⟨_, (ss_cons (s_expr (d_bm PySem.F.plainAttrs_list PySem.F.slot_list_append PySem.F.type_list_append md_append (d_var 2) (a_cons (d_var 1) a_nil)))
 (ss_one (s_forE PassesOwn.never rfl m_enumerate (a_cons (d_call F_parts_of (hr.mono (by omega)) (a_cons (d_var 0) a_nil)) a_nil) (g_tup rfl (gs_cons (g_name (i := 3) sc_gather_places.nd) (gs_cons (g_name (i := 4) sc_gather_places.nd) gs_nil)) len_2) (ss_one (s_expr (d_call F_gather_places (hr.mono (by omega)) (a_cons (d_var 4) (a_cons (d_op od_add (d_var 1) (d_tup (a_cons (d_var 3) a_nil))) (a_cons (d_var 2) a_nil))))))))), fun ds M Q h => ?_⟩
    · obtain ⟨t, p, l, done, rfl, _⟩ := h; rfl
    · obtain ⟨t, p, l, done, rfl, hd, hl, hk, hp, q⟩ := h
      rw [depth_parts] at hd hp
      rw [knots_parts] at hk
      rw [pre_parts] at q
      refine ⟨⟨rfl, _, hl⟩, _, hl, by rw [List.length_map]; exact small1000 (by omega), ?_⟩
      have e0 : done.map tupI ++ [tupI p] = (done ++ [p]).map tupI := by rw [List.map_append]; rfl
      refine ⟨t, rfl, ?_⟩
      refine ⟨fun i τ M' => (∃ v3 v4 : Option D, τ = [some t.d, some (tupI p), some (.ref l), v3, v4]) ∧ M' = updM M l (.lst ((done ++ p :: (pres p 0 (t.parts.take i)).map (·.1)).map tupI)), ⟨⟨none, none, rfl⟩, ?_⟩, fun _ _ _ _ _ => trivial, ?_, ?_⟩
      · show updM M l (.lst (done.map tupI ++ [tupI p])) = _
        rw [e0]; rfl
      · rintro i d τ M' ed ⟨⟨v3, v4, rfl⟩, rfl⟩
        have hi : i < t.parts.length := by
          rcases Nat.lt_or_ge i t.parts.length with h | h
          · exact h
          · rw [List.getElem?_eq_none (by rw [enumL_len, List.length_map]; exact h)] at ed; cases ed
        have e : t.parts[i]? = some t.parts[i] := List.getElem?_eq_getElem hi
        generalize t.parts[i] = u at e
        rw [enumL_get (d := u.d) (by rw [List.getElem?_map, e]; rfl)] at ed
        cases ed
        have h1 := depth_get e
        have h2 := knotss_take _ _ _ e
        have h3 := knotss_take_le t.parts (i + 1)
        have h4 := pres_length p (t.parts.take i) 0
        have ep : D.tup (p.map D.int ++ [D.int ((0 + i : Nat) : Int)]) = tupI (p ++ [((0 + i : Nat) : Int)]) := by unfold tupI; rw [List.map_append]; rfl
        show (p.map D.int).length + 1 ≤ sizeLine ∧ _
        refine ⟨by rw [List.length_map]; exact line1000 (by omega), u, _, l, _, by rw [← ep], by omega, updM_same, ?_, ?_, ?_⟩
        · rw [List.length_append, List.length_cons, List.length_map, h4]; omega
        · rw [List.length_append]; simp; omega
        · rw [updM_upd, List.append_assoc, List.cons_append, ← List.map_append, ← pres_take p _ _ 0 _ e]
          exact ⟨⟨_, _, rfl⟩, rfl⟩
      · rintro τ M' ⟨⟨v3, v4, rfl⟩, rfl⟩
        rw [enumL_len, List.length_map, List.take_length]
        exact ⟨_, Sub.refl _, q⟩
def spPO (n : Nat) : SpD := fun ds M Q => ∃ t : Tree, ds = [t.d] ∧ t.depth ≤ n ∧ t.knots ≤ 900 ∧ ∀ l, M l = none → Q (.ref l) (updM M l (.lst (((pre [] t).map (·.1)).map tupI)))
theorem ok_places_of (T : Txt K mg) (n : Nat) : FnD P w K mg base (n + 2) "places_of" ["tree"] (spPO n) := by
  have F_gather_places := ok_gp (P := P) (w := w) (base := base) T n
  refine def_ok T.f_places_of sc_places_of (fun ds M Q h => ?_) fun f cdv A outer s H E hr => ⟨_, (ss_cons (s_set (i := 1) sc_places_of.nd (d_lst a_nil))
 (ss_cons (s_expr (d_call F_gather_places (hr.mono (by omega)) (a_cons (d_var 0) (a_cons (d_tup a_nil) (a_cons (d_var 1) a_nil)))))
 (ss_one (s_ret (d_var 1))))), fun ds M Q h => ?_⟩
  · obtain ⟨t, rfl, _⟩ := h; rfl
  · obtain ⟨t, rfl, hd, hk, q⟩ := h
    have h1 := depth_le_knots t
    show ∀ p, M p = none → _
    intro p hp
    refine ⟨t, [], p, [], rfl, hd, updM_same, by simp; omega, by simp; omega, ?_⟩
    rw [updM_upd]
    exact ⟨_, Sub.refl _, q p hp⟩
-- DICTS plain.naming law.names
/-! ### exchanging -/
mutual
def exch (f : Int → Option Tree) : Tree → Tree
  | .block n ps => .block n (exchs f ps)
  | .blank k => (f k).getD (.blank k)
def exchs (f : Int → Option Tree) : List Tree → List Tree
  | [] => []
  | t :: ts => exch f t :: exchs f ts
end
theorem exchs_map (f : Int → Option Tree) : ∀ ts : List Tree, exchs f ts = ts.map (exch f)
  | [] => rfl
  | t :: ts => by rw [exchs, exchs_map f ts]; rfl
def pos : List Int → Int → Option Nat
  | [], _ => none
  | j :: ks, k => if j = k then some 0 else (pos ks k).map (· + 1)
def nameOf (ks : List Int) (k : Int) : Option Tree := (pos ks k).map fun i => .blank ((i : Int) + 1)
theorem pos_some : ∀ {ks : List Int} {k : Int}, k ∈ ks → ∃ i, pos ks k = some i
  | j :: ks, k, h => by
    unfold pos
    by_cases e : j = k
    · exact ⟨0, if_pos e⟩
    · rw [if_neg e]
      rcases List.mem_cons.mp h with h | h
      · exact absurd h.symm e
      · obtain ⟨i, hi⟩ := pos_some h
        exact ⟨i + 1, by rw [hi]; rfl⟩
theorem pos_none : ∀ {ks : List Int} {k : Int}, k ∉ ks → pos ks k = none
  | [], _, _ => rfl
  | j :: ks, k, h => by
    have h1 : ¬ j = k := fun z => h (z ▸ List.mem_cons_self)
    unfold pos
    rw [if_neg h1, pos_none fun z => h (List.mem_cons_of_mem _ z)]
    rfl
theorem pos_get : ∀ {ks : List Int} {k : Int} {i : Nat}, pos ks k = some i → ks[i]? = some k
  | [], _, _, h => by cases h
  | j :: ks, k, i, h => by
    unfold pos at h
    by_cases e : j = k
    · rw [if_pos e] at h; cases h; rw [e]; rfl
    · rw [if_neg e] at h
      cases q : pos ks k with
      | none => rw [q] at h; cases h
      | some n => rw [q] at h; cases h; show (j :: ks)[n + 1]? = some k; rw [List.getElem?_cons_succ]; exact pos_get q
theorem pos_app : ∀ (ks : List Int) (k j : Int), k ∉ ks → pos (ks ++ [k]) j = if j ∈ ks then pos ks j else if j = k then some ks.length else none
  | [], k, j, _ => by
    show (if k = j then some 0 else none) = _
    by_cases e : k = j
    · subst e; simp
    · have e' : ¬ j = k := fun z => e z.symm
      simp [e, e']
  | a :: ks, k, j, h => by
    have h1 : k ∉ ks := fun z => h (List.mem_cons_of_mem _ z)
    rw [List.cons_append]
    unfold pos
    by_cases e : a = j
    · subst e; simp
    · rw [if_neg e, pos_app ks k j h1]
      have e' : ¬ j = a := fun z => e z.symm
      by_cases hj : j ∈ ks
      · simp [hj, e]
      · by_cases hk : j = k
        · subst hk; simp [hj, e']
        · simp [hj, hk, e']
def gOf (ks : List Int) (k : Int) : Int := match pos ks k with
  | some i => (i : Int) + 1
  | none => k
theorem nameOf_in {ks : List Int} {k : Int} (h : k ∈ ks) : nameOf ks k = some (.blank (gOf ks k)) := by
  obtain ⟨i, hi⟩ := pos_some h
  unfold nameOf gOf
  rw [hi]
  rfl
theorem gOf_inj {ks : List Int} {a b : Int} (ha : a ∈ ks) (hb : b ∈ ks) (e : gOf ks a = gOf ks b) : a = b := by
  obtain ⟨i, hi⟩ := pos_some ha
  obtain ⟨j, hj⟩ := pos_some hb
  unfold gOf at e
  rw [hi, hj] at e
  have e' : i = j := by simp at e; omega
  subst e'
  have h1 := pos_get hi
  rw [pos_get hj] at h1
  exact (Option.some.inj h1).symm
theorem pos_map (g : Int → Int) : ∀ (ks : List Int) (k : Int), (∀ a ∈ ks, g a = g k → a = k) → pos (ks.map g) (g k) = pos ks k
  | [], _, _ => rfl
  | j :: ks, k, h => by
    rw [List.map_cons]
    unfold pos
    rw [pos_map g ks k fun a ha => h a (List.mem_cons_of_mem _ ha)]
    by_cases e : j = k
    · subst e; simp
    · rw [if_neg e, if_neg fun z => e (h j List.mem_cons_self z)]
theorem ins_mem {ks : List Int} {n k : Int} : k ∈ ins ks n ↔ k ∈ ks ∨ k = n := by
  unfold ins
  by_cases h : n ∈ ks
  · rw [if_pos h]
    exact ⟨.inl, fun z => z.elim id fun z => z ▸ h⟩
  · rw [if_neg h]; simp
theorem inss_mem : ∀ {ns ks : List Int} {k : Int}, k ∈ inss ks ns ↔ k ∈ ks ∨ k ∈ ns
  | [], ks, k => by simp [inss]
  | n :: ns, ks, k => by
    show k ∈ inss (ins ks n) ns ↔ _
    rw [inss_mem, ins_mem, List.mem_cons, or_assoc]
theorem ins_nodup {ks : List Int} (n : Int) (h : ks.Nodup) : (ins ks n).Nodup := by
  unfold ins
  by_cases hn : n ∈ ks
  · rw [if_pos hn]; exact h
  · rw [if_neg hn]
    refine List.nodup_append.mpr ⟨h, by simp, fun a ha b hb e => ?_⟩
    simp at hb
    subst hb e
    exact hn ha
theorem inss_nodup : ∀ {ns ks : List Int}, ks.Nodup → (inss ks ns).Nodup
  | [], _, h => h
  | n :: ns, ks, h => by show (inss (ins ks n) ns).Nodup; exact inss_nodup (ins_nodup n h)
theorem ins_map (g : Int → Int) {ks : List Int} {n : Int} (h : ∀ a ∈ ks, g a = g n → a = n) : ins (ks.map g) (g n) = (ins ks n).map g := by
  unfold ins
  by_cases hn : n ∈ ks
  · rw [if_pos hn, if_pos (List.mem_map_of_mem hn)]
  · have : g n ∉ ks.map g := fun z => by
      obtain ⟨a, ha, e⟩ := List.mem_map.mp z
      exact hn (h a ha e ▸ ha)
    rw [if_neg hn, if_neg this, List.map_append]; rfl
theorem inss_map (g : Int → Int) : ∀ (ns ks : List Int), (∀ a b, (a ∈ ks ∨ a ∈ ns) → (b ∈ ks ∨ b ∈ ns) → g a = g b → a = b) → inss (ks.map g) (ns.map g) = (inss ks ns).map g
  | [], ks, _ => rfl
  | n :: ns, ks, h => by
    show inss (ins (ks.map g) (g n)) (ns.map g) = (inss (ins ks n) ns).map g
    rw [ins_map g fun a ha e => h a n (.inl ha) (.inr List.mem_cons_self) e]
    refine inss_map g ns (ins ks n) fun a b ha hb e => h a b ?_ ?_ e
    · rcases ha with ha | ha
      · rcases ins_mem.mp ha with ha | rfl
        · exact .inl ha
        · exact .inr List.mem_cons_self
      · exact .inr (List.mem_cons_of_mem _ ha)
    · rcases hb with hb | hb
      · rcases ins_mem.mp hb with hb | rfl
        · exact .inl hb
        · exact .inr List.mem_cons_self
      · exact .inr (List.mem_cons_of_mem _ hb)
mutual
theorem nums_exch (f : Int → Option Tree) (g : Int → Int) : ∀ t : Tree, (∀ k ∈ nums t, f k = some (.blank (g k))) → nums (exch f t) = (nums t).map g
  | .block n ps, h => by rw [exch, nums, nums, numss_exch f g ps h]
  | .blank k, h => by rw [exch, h k (by simp [nums])]; rfl
theorem numss_exch (f : Int → Option Tree) (g : Int → Int) : ∀ ts : List Tree, (∀ k ∈ numss ts, f k = some (.blank (g k))) → numss (exchs f ts) = (numss ts).map g
  | [], _ => rfl
  | t :: ts, h => by
    rw [numss] at h
    rw [exchs, numss, numss, List.map_append, nums_exch f g t fun k hk => h k (List.mem_append_left _ hk), numss_exch f g ts fun k hk => h k (List.mem_append_right _ hk)]
end
mutual
theorem exch_again (f f' : Int → Option Tree) (g : Int → Int) : ∀ t : Tree, (∀ k ∈ nums t, f k = some (.blank (g k)) ∧ f' (g k) = some (.blank (g k))) → exch f' (exch f t) = exch f t
  | .block n ps, h => by rw [exch, exch, exchs_again f f' g ps h]
  | .blank k, h => by
    obtain ⟨h1, h2⟩ := h k (by simp [nums])
    rw [exch, h1]
    show exch f' (.blank (g k)) = .blank (g k)
    rw [exch, h2]; rfl
theorem exchs_again (f f' : Int → Option Tree) (g : Int → Int) : ∀ ts : List Tree, (∀ k ∈ numss ts, f k = some (.blank (g k)) ∧ f' (g k) = some (.blank (g k))) → exchs f' (exchs f ts) = exchs f ts
  | [], _ => rfl
  | t :: ts, h => by
    rw [numss] at h
    rw [exchs, exchs, exch_again f f' g t fun k hk => h k (List.mem_append_left _ hk), exchs_again f f' g ts fun k hk => h k (List.mem_append_right _ hk)]
end
mutual
theorem exch_size (f : Int → Option Tree) (hf : ∀ k t, f k = some t → t.knots = 1) : ∀ t : Tree, (exch f t).knots = t.knots ∧ (exch f t).depth = t.depth
  | .block n ps => by
    obtain ⟨h1, h2⟩ := exchs_size f hf ps
    rw [exch, Tree.knots, Tree.knots, Tree.depth, Tree.depth, h1, h2]; exact ⟨rfl, rfl⟩
  | .blank k => by
    rw [exch]
    cases e : f k with
    | none => exact ⟨rfl, rfl⟩
    | some t =>
      have h1 := hf k t e
      show t.knots = 1 ∧ t.depth = 1
      cases t with
      | blank j => exact ⟨rfl, rfl⟩
      | block n ps =>
        cases ps with
        | nil => exact ⟨rfl, rfl⟩
        | cons u us => simp only [Tree.knots, Tree.knotss] at h1; have := knots_pos u; omega
theorem exchs_size (f : Int → Option Tree) (hf : ∀ k t, f k = some t → t.knots = 1) : ∀ ts : List Tree, Tree.knotss (exchs f ts) = Tree.knotss ts ∧ Tree.depths (exchs f ts) = Tree.depths ts
  | [] => ⟨rfl, rfl⟩
  | t :: ts => by
    obtain ⟨h1, h2⟩ := exch_size f hf t
    obtain ⟨h3, h4⟩ := exchs_size f hf ts
    rw [exchs, Tree.knotss, Tree.knotss, Tree.depths, Tree.depths, h1, h2, h3, h4]; exact ⟨rfl, rfl⟩
end
/-- the plain naming -/
def plainT (t : Tree) : Tree := exch (nameOf (inss [] (nums t))) t
theorem plain_names (t : Tree) : ∀ k ∈ nums t, nameOf (inss [] (nums t)) k = some (.blank (gOf (inss [] (nums t)) k)) := fun k hk => nameOf_in (inss_mem.mpr (.inr hk))
theorem nums_plain (t : Tree) : nums (plainT t) = (nums t).map (gOf (inss [] (nums t))) := nums_exch _ _ t (plain_names t)
theorem plain_plain (t : Tree) : plainT (plainT t) = plainT t := by
  have e1 := nums_plain t
  have hin : ∀ a b, (a ∈ ([] : List Int) ∨ a ∈ nums t) → (b ∈ ([] : List Int) ∨ b ∈ nums t) → gOf (inss [] (nums t)) a = gOf (inss [] (nums t)) b → a = b := fun a b ha hb e =>
    gOf_inj (inss_mem.mpr ha) (inss_mem.mpr hb) e
  have e2 : inss [] (nums (plainT t)) = (inss [] (nums t)).map (gOf (inss [] (nums t))) := by
    rw [e1]
    exact inss_map _ (nums t) [] hin
  show exch (nameOf (inss [] (nums (plainT t)))) (plainT t) = plainT t
  rw [e2]
  refine exch_again _ _ _ t fun k hk => ⟨plain_names t k hk, ?_⟩
  unfold nameOf
  have hk' : k ∈ inss [] (nums t) := inss_mem.mpr (.inr hk)
  rw [pos_map _ _ k fun a ha e => gOf_inj ha hk' e]
  obtain ⟨i, hi⟩ := pos_some hk'
  rw [hi]
  unfold gOf
  rw [hi]
  rfl
/-! ### fillings as dicts -/
def look (f : List (Int × Tree)) (k : Int) : Option Tree := (f.find? fun p => decide (p.1 = k)).map (·.2)
def fdic (f : List (Int × Tree)) : List (Key × D) := f.map fun p => ((Sum.inl p.1 : Key), p.2.d)
theorem inl_eq (a b : Int) : decide ((Sum.inl a : Key) = Sum.inl b) = decide (a = b) := by
  by_cases e : a = b
  · subst e; simp
  · have : ¬ (Sum.inl a : Key) = Sum.inl b := fun q => e (Sum.inl.inj q)
    rw [decide_eq_false this, decide_eq_false e]
theorem fdic_val (k : Int) : ∀ f : List (Int × Tree), valD (fdic f) (.inl k) = (look f k).map Tree.d
  | [] => rfl
  | p :: f => by
    have ih := fdic_val k f
    by_cases e : p.1 = k
    · have e1 : valD (fdic (p :: f)) (.inl k) = some p.2.d := valD_pos (p := ((Sum.inl p.1 : Key), p.2.d)) (by rw [e])
      rw [e1]
      unfold look
      rw [List.find?_cons, decide_eq_true e]
      rfl
    · have e1 : valD (fdic (p :: f)) (.inl k) = valD (fdic f) (.inl k) := valD_neg (p := ((Sum.inl p.1 : Key), p.2.d)) fun z => e (Sum.inl.inj z)
      rw [e1, ih]
      unfold look
      rw [List.find?_cons, decide_eq_false e]
theorem fdic_put {f : List (Int × Tree)} {k : Int} {t : Tree} (h : look f k = none) : putD (fdic f) (.inl k) t.d = fdic (f ++ [(k, t)]) := by
  rw [putD_new _ (by rw [fdic_val, h]; rfl)]
  unfold fdic
  rw [List.map_append]
  rfl
/-- the numbers, named c, c + 1, .. -/
def nf : Nat → List Int → List (Int × Tree)
  | _, [] => []
  | c, k :: ks => (k, .blank (c : Int)) :: nf (c + 1) ks
theorem nf_len : ∀ (ks : List Int) (c : Nat), (nf c ks).length = ks.length
  | [], _ => rfl
  | k :: ks, c => by rw [nf, List.length_cons, nf_len ks (c + 1), List.length_cons]
theorem nf_app : ∀ (ks : List Int) (c : Nat) (k : Int), nf c (ks ++ [k]) = nf c ks ++ [(k, .blank ((c + ks.length : Nat) : Int))]
  | [], c, k => rfl
  | j :: ks, c, k => by
    rw [List.cons_append, nf, nf_app ks (c + 1) k, nf, List.cons_append, List.length_cons, show c + 1 + ks.length = c + (ks.length + 1) by omega]
theorem nf_look (k : Int) : ∀ (ks : List Int) (c : Nat), look (nf c ks) k = (pos ks k).map fun i => .blank ((i + c : Nat) : Int)
  | [], _ => rfl
  | j :: ks, c => by
    have ih := nf_look k ks (c + 1)
    unfold look at ih ⊢
    unfold pos
    rw [nf, List.find?_cons]
    by_cases e : j = k
    · rw [if_pos e, decide_eq_true e]
      simp
    · rw [if_neg e, decide_eq_false e]
      simp only []
      rw [ih]
      cases pos ks k with
      | none => rfl
      | some i => simp only [Option.map_some]; rw [show i + (c + 1) = i + 1 + c by omega]
theorem nf_name (ks : List Int) : look (nf 1 ks) = nameOf ks := by
  funext k
  rw [nf_look]
  unfold nameOf
  cases pos ks k with
  | none => rfl
  | some i => simp only [Option.map_some]; rfl
mutual
theorem d_inj : ∀ t u : Tree, t.d = u.d → t = u
  | .block n ps, .block m qs, e => by
    simp only [Tree.d, D.tup.injEq, List.cons.injEq, D.str.injEq, and_true, true_and] at e
    obtain ⟨e1, e2⟩ := e
    subst e1
    rw [ds_inj ps qs e2]
  | .blank k, .blank j, e => by
    simp only [Tree.d, D.tup.injEq, List.cons.injEq, D.int.injEq, and_true, true_and] at e
    rw [e]
  | .block n ps, .blank j, e => by simp [Tree.d] at e
  | .blank k, .block m qs, e => by simp [Tree.d] at e
theorem ds_inj : ∀ ts us : List Tree, Tree.ds ts = Tree.ds us → ts = us
  | [], [], _ => rfl
  | [], _ :: _, e => by simp [Tree.ds] at e
  | _ :: _, [], e => by simp [Tree.ds] at e
  | t :: ts, u :: us, e => by
    simp only [Tree.ds, List.cons.injEq] at e
    rw [d_inj t u e.1, ds_inj ts us e.2]
end
open Classical in
noncomputable def byTree (g : Tree → Tree) (d : D) : Option D := if h : ∃ t : Tree, t.d = d then some (g h.choose).d else none
theorem byTree_d (g : Tree → Tree) (t : Tree) : byTree g t.d = some (g t).d := by
  have h : ∃ u : Tree, u.d = t.d := ⟨t, rfl⟩
  unfold byTree
  rw [dif_pos h, d_inj _ _ h.choose_spec]
theorem byTree_map (g : Tree → Tree) : ∀ ts : List Tree, (ts.map Tree.d).filterMap (byTree g) = (ts.map g).map Tree.d
  | [] => rfl
  | t :: ts => by rw [List.map_cons, List.filterMap_cons, byTree_d, byTree_map g ts]; rfl
theorem fgtA {a : Option D} {d : D} : Fgt [none, a] [some d, a] := ⟨rfl, fun i x e => by
  match i, e with
  | 0, e => cases e
  | 1, e => exact e
  | i + 2, e => simp at e⟩
def spEx (n : Nat) : SpD := fun ds M Q => ∃ (t : Tree) (l : Addr) (f : List (Int × Tree)), ds = [t.d, .ref l] ∧ t.depth ≤ n ∧ t.knots ≤ 1000 ∧ DicAt M l (fdic f) ∧ Q (exch (look f) t).d M
theorem get_blank (f : List (Int × Tree)) (k : Int) : (valD (fdic f) (.inl k)).getD (Tree.blank k).d = (exch (look f) (.blank k)).d := by
  rw [fdic_val, exch]
  cases look f k with
  | none => rfl
  | some t => rfl
theorem dic_sub {M M' : DH} {l : Addr} {kvs : List (Key × D)} (h : DicAt M l kvs) (s : Sub M M') : DicAt M' l kvs := h.elim (fun h => .inl (s _ _ h)) fun h => .inr (s _ _ h)
theorem ok_exchanged (T : Txt K mg) : ∀ n : Nat, FnD P w K mg base (n + 1) "exchanged" ["tree", "filling"] (spEx n)
  | 0 => (fn_none T.f_exchanged fun ds M Q ⟨t, _, _, _, h, _⟩ => by have := depth_pos t; omega).mono (by omega)
  | n + 1 => by
    have m_tuple := T.m_tuple
    have F_exchanged := ok_exchanged T n
    have F_parts_of := ok_parts_of (P := P) (w := w) (base := base) T
    refine def_ok T.f_exchanged sc_exchanged (fun ds M Q h => ?_) fun f cdv A outer s H E hr => ⟨_, (ss_cons (s_if (dt_cmp (od_eq hr) (d_ix (d_var 0) d_int) d_str (nomark _)) (ss_one (s_ret (d_get2D hr (d_var 1) (d_ix (d_var 0) d_int) (d_var 0)))) ss_nil)
 (ss_cons (s_set (i := 2) sc_exchanged.nd (d_lst a_nil))
 (ss_cons (s_for PassesOwn.never rfl (d_call F_parts_of (hr.mono (by omega)) (a_cons (d_var 0) a_nil)) (g_name (i := 3) sc_exchanged.nd) (ss_one (s_expr (d_bm PySem.F.plainAttrs_list PySem.F.slot_list_append PySem.F.type_list_append md_append (d_var 2) (a_cons (d_call F_exchanged (hr.mono (by omega)) (a_cons (d_var 3) (a_cons (d_var 1) a_nil))) a_nil)))))
 (ss_one (s_ret (d_tup (a_cons d_str (a_cons (d_ix (d_var 0) d_int) (a_cons (d_callTy cd_tuple rfl m_tuple bt_tuple (a_cons (d_var 2) a_nil)) a_nil))))))))), fun ds M Q h => ?_⟩
    · obtain ⟨t, l, f, rfl, _⟩ := h; rfl
    · obtain ⟨t, l, f, rfl, hd, hk, hl, q⟩ := h
      cases t with
      | blank k =>
        rw [← get_blank] at q
        exact ⟨⟨_, hl⟩, _, _, rfl, hl, rt_done q⟩
      | block z ps =>
        rw [Tree.depth] at hd
        rw [Tree.knots] at hk
        rw [exch, exchs_map] at q
        show ∀ p, M p = none → _
        intro p hp
        refine ⟨.block z ps, rfl, ?_⟩
        refine ⟨fun i τ M' => (∃ v : Option D, τ = [some (Tree.block z ps).d, some (.ref l), some (.ref p), v]) ∧ M' = updM M p (.lst (((ps.take i).map (exch (look f))).map Tree.d)), ⟨⟨none, rfl⟩, rfl⟩, fun _ _ _ _ _ => trivial, ?_, ?_⟩
        · rintro i d τ M' ed ⟨⟨v, rfl⟩, rfl⟩
          rw [List.getElem?_map] at ed
          cases e : (Tree.block z ps).parts[i]? with
          | none => rw [e] at ed; cases ed
          | some u =>
            rw [e] at ed
            cases ed
            have e' : ps[i]? = some u := e
            have h1 := depth_get e'
            have h2 := knots_get e'
            have h3 := length_knotss ps
            refine ⟨⟨rfl, _, updM_same⟩, u, l, f, rfl, by omega, by omega, dic_sub hl (Sub.new hp), _, updM_same, ?_, ?_⟩
            · rw [List.length_map, List.length_map, List.length_take]; exact small1000 (by omega)
            · rw [updM_upd]
              refine ⟨⟨_, rfl⟩, ?_⟩
              rw [List.take_add_one, e', List.map_append, List.map_append]
              rfl
        · rintro τ M' ⟨⟨v, rfl⟩, rfl⟩
          have e : (((Tree.block z ps).parts.map Tree.d).length : Nat) = ps.length := by rw [List.length_map]; rfl
          rw [e, List.take_length]
          refine ⟨_, updM_same, M, Sub.new hp, ?_⟩
          rw [Tree.d, ds_map] at q
          exact q
def spPlain (n : Nat) : SpD := fun ds M Q => ∃ t : Tree, ds = [t.d] ∧ t.depth ≤ n ∧ t.knots ≤ 1000 ∧ Q (plainT t).d M
theorem ok_plain (T : Txt K mg) (n : Nat) : FnD P w K mg base (n + 3) "plain" ["tree"] (spPlain n) := by
  have m_enumerate := T.m_enumerate
  have F_blanks_of := ok_blanks_of (P := P) (w := w) (base := base) T n
  have F_exchanged := ok_exchanged (P := P) (w := w) (base := base) T n
  refine def_ok T.f_plain sc_plain (fun ds M Q h => ?_) fun f cdv A outer s H E hr => ⟨_, (ss_cons (s_set (i := 1) sc_plain.nd d_dict0)
 (ss_cons (s_forE1 PassesOwn.never rfl m_enumerate (a_cons (d_call F_blanks_of (hr.mono (by omega)) (a_cons (d_var 0) a_nil)) a_nil) (g_tup rfl (gs_cons (g_name (i := 2) sc_plain.nd) (gs_cons (g_name (i := 3) sc_plain.nd) gs_nil)) len_2) (ss_one (s_asg (d_tup (a_cons d_str (a_cons (d_var 2) a_nil))) (g_subK hr (d_var 1) (d_var 3)))))
 (ss_one (s_ret (d_call F_exchanged (hr.mono (by omega)) (a_cons (d_var 0) (a_cons (d_var 1) a_nil))))))), fun ds M Q h => ?_⟩
  · obtain ⟨t, rfl, _⟩ := h; rfl
  · obtain ⟨t, rfl, hd, hk, q⟩ := h
    have hnd : (inss [] (nums t)).Nodup := inss_nodup List.nodup_nil
    have hlen : (inss [] (nums t)).length ≤ 1000 := by
      have h1 := inss_len (nums t) []
      have h2 := nums_len t
      simp only [List.length_nil] at h1
      omega
    unfold plainT at q
    show ∀ p, M p = none → _
    intro p hp
    refine ⟨t, rfl, hd, hk, fun l hl => ?_⟩
    obtain ⟨l1, l2⟩ := upd_none hl
    refine ⟨_, updM_same, fun i τ M' => (∃ v2 v3 : Option D, τ = [some t.d, some (.ref p), v2, v3]) ∧ M' l = some (.lst ((inss [] (nums t)).map .int)) ∧ M' p = some (.dic (fdic (nf 1 ((inss [] (nums t)).take i)))) ∧ Sub M M', ⟨⟨none, none, rfl⟩, updM_same, by rw [updM_ne (Ne.symm l1), updM_same]; rfl, (Sub.new hp).trans (Sub.new hl)⟩, fun i τ M' _ hW => hW.2.1, ?_, ?_⟩
    · rintro i d τ M' ed ⟨⟨v2, v3, rfl⟩, hl', hp', hs'⟩
      have hi : i < (inss [] (nums t)).length := by
        rcases Nat.lt_or_ge i (inss [] (nums t)).length with h | h
        · exact h
        · rw [List.getElem?_eq_none (by rw [enumL_len, List.length_map]; exact h)] at ed; cases ed
      have e : (inss [] (nums t))[i]? = some (inss [] (nums t))[i] := List.getElem?_eq_getElem hi
      have hni : (inss [] (nums t))[i] ∉ (inss [] (nums t)).take i := by
        intro z
        have e1 : (inss [] (nums t)).take (i + 1) = (inss [] (nums t)).take i ++ [(inss [] (nums t))[i]] := by rw [List.take_add_one, e]; rfl
        have h2 : ((inss [] (nums t)).take (i + 1)).Nodup := hnd.sublist (List.take_sublist _ _)
        rw [e1] at h2
        exact (List.nodup_append.mp h2).2.2 _ z _ (by simp) rfl
      generalize (inss [] (nums t))[i] = k at e hni
      rw [enumL_get (d := .int k) (by rw [List.getElem?_map, e]; rfl)] at ed
      cases ed
      refine ⟨_, _, rfl, hp', ?_, ⟨_, _, rfl⟩, by rw [updM_ne l1]; exact hl', ?_, sub_upd hs' hp⟩
      · unfold fdic; rw [List.length_map, nf_len, List.length_take]; exact small1000 (by omega)
      · rw [updM_same]
        have e2 : D.tup [.str "blank", .int ((1 + i : Nat) : Int)] = (Tree.blank ((1 + i : Nat) : Int)).d := rfl
        have e3 := fdic_put (f := nf 1 ((inss [] (nums t)).take i)) (k := k) (t := .blank ((1 + i : Nat) : Int)) (by rw [nf_look, pos_none hni]; rfl)
        have e4 : nf 1 ((inss [] (nums t)).take (i + 1)) = nf 1 ((inss [] (nums t)).take i) ++ [(k, .blank ((1 + i : Nat) : Int))] := by
          rw [List.take_add_one, e]
          show nf 1 ((inss [] (nums t)).take i ++ [k]) = _
          rw [nf_app, List.length_take, show min i (inss [] (nums t)).length = i by omega]
        rw [e4, ← e3]
        rfl
    · rintro τ M' ⟨⟨v2, v3, rfl⟩, hl', hp', hs'⟩
      rw [enumL_len, List.length_map, List.take_length] at hp'
      refine ⟨t, p, _, rfl, hd, hk, .inl hp', M, hs', ?_⟩
      rw [nf_name]
      exact q
-- DICTS one_behind.both one_behind.one one_behind.other
/-! ### renaming -/
mutual
theorem exch_then (f f' h : Int → Option Tree) : ∀ t : Tree, (∀ k ∈ nums t, ∃ j u, f k = some (.blank j) ∧ f' j = some u ∧ h k = some u) → exch f' (exch f t) = exch h t
  | .block n ps, hk => by rw [exch, exch, exch, exchs_then f f' h ps hk]
  | .blank k, hk => by
    obtain ⟨j, u, h1, h2, h3⟩ := hk k (by simp [nums])
    rw [exch, h1]
    show exch f' (.blank j) = _
    rw [exch, h2, exch, h3]; rfl
theorem exchs_then (f f' h : Int → Option Tree) : ∀ ts : List Tree, (∀ k ∈ numss ts, ∃ j u, f k = some (.blank j) ∧ f' j = some u ∧ h k = some u) → exchs f' (exchs f ts) = exchs h ts
  | [], _ => rfl
  | t :: ts, hk => by
    rw [numss] at hk
    rw [exchs, exchs, exchs, exch_then f f' h t fun k z => hk k (List.mem_append_left _ z), exchs_then f f' h ts fun k z => hk k (List.mem_append_right _ z)]
end
mutual
theorem exch_id (h : Int → Option Tree) : ∀ t : Tree, (∀ k ∈ nums t, h k = some (.blank k)) → exch h t = t
  | .block n ps, hk => by rw [exch, exchs_id h ps hk]
  | .blank k, hk => by rw [exch, hk k (by simp [nums])]; rfl
theorem exchs_id (h : Int → Option Tree) : ∀ ts : List Tree, (∀ k ∈ numss ts, h k = some (.blank k)) → exchs h ts = ts
  | [], _ => rfl
  | t :: ts, hk => by
    rw [numss] at hk
    rw [exchs, exch_id h t fun k z => hk k (List.mem_append_left _ z), exchs_id h ts fun k z => hk k (List.mem_append_right _ z)]
end
theorem exch_back (f f' : Int → Option Tree) (t : Tree) (hk : ∀ k ∈ nums t, ∃ j, f k = some (.blank j) ∧ f' j = some (.blank k)) : exch f' (exch f t) = t := by
  rw [exch_then f f' (fun k => some (.blank k)) t fun k z => let ⟨j, h1, h2⟩ := hk k z; ⟨j, _, h1, h2, rfl⟩]
  exact exch_id _ t fun k _ => rfl
mutual
theorem pre_exch (f : Int → Option Tree) (hf : ∀ k u, f k = some u → ∃ j, u = .blank j) (p : List Int) : ∀ t : Tree, (pre p (exch f t)).map (·.1) = (pre p t).map (·.1)
  | .block n ps => by rw [exch, pre, pre, List.map_cons, List.map_cons, pres_exch f hf p ps 0]
  | .blank k => by
    rw [exch]
    cases e : f k with
    | none => rfl
    | some u => obtain ⟨j, rfl⟩ := hf k u e; rfl
theorem pres_exch (f : Int → Option Tree) (hf : ∀ k u, f k = some u → ∃ j, u = .blank j) (p : List Int) : ∀ (ts : List Tree) (i : Nat), (pres p i (exchs f ts)).map (·.1) = (pres p i ts).map (·.1)
  | [], _ => rfl
  | t :: ts, i => by rw [exchs, pres, pres, List.map_append, List.map_append, pre_exch f hf _ t, pres_exch f hf p ts (i + 1)]
end
/-- pairs by two functions of the place and the number -/
def prs (a : Nat → Int → Int) (b : Nat → Int → Int) : Nat → List Int → List (Int × Tree)
  | _, [] => []
  | c, n :: ks => (a c n, .blank (b c n)) :: prs a b (c + 1) ks
theorem prs_len (a b : Nat → Int → Int) : ∀ (ks : List Int) (c : Nat), (prs a b c ks).length = ks.length
  | [], _ => rfl
  | n :: ks, c => by rw [prs, List.length_cons, prs_len a b ks (c + 1), List.length_cons]
theorem prs_app (a b : Nat → Int → Int) : ∀ (ks : List Int) (c : Nat) (n : Int), prs a b c (ks ++ [n]) = prs a b c ks ++ [(a (c + ks.length) n, .blank (b (c + ks.length) n))]
  | [], c, n => rfl
  | j :: ks, c, n => by
    rw [List.cons_append, prs, prs_app a b ks (c + 1) n, prs, List.cons_append, List.length_cons, show c + 1 + ks.length = c + (ks.length + 1) by omega]
theorem prs_get (a b : Nat → Int → Int) : ∀ (ks : List Int) (c i : Nat) (n : Int), ks[i]? = some n → (prs a b c ks)[i]? = some (a (c + i) n, .blank (b (c + i) n))
  | [], _, _, _, e => by simp at e
  | j :: ks, c, 0, _, e => by simp at e; subst e; rfl
  | j :: ks, c, i + 1, n, e => by
    have := prs_get a b ks (c + 1) i n (by simpa using e)
    rw [prs, List.getElem?_cons_succ, this, show c + 1 + i = c + (i + 1) by omega]
theorem look_get : ∀ {f : List (Int × Tree)} {i : Nat} {q : Int × Tree}, (f.map (·.1)).Nodup → f[i]? = some q → look f q.1 = some q.2
  | [], _, _, _, e => by simp at e
  | x :: f, 0, q, _, e => by simp at e; subst e; unfold look; rw [List.find?_cons, decide_eq_true rfl]; rfl
  | x :: f, i + 1, q, h, e => by
    rw [List.map_cons, List.nodup_cons] at h
    have e' : f[i]? = some q := by simpa using e
    have hne : ¬ x.1 = q.1 := fun z => h.1 (z ▸ List.mem_map_of_mem (f := (·.1)) (List.mem_of_getElem? e'))
    have ih := look_get h.2 e'
    unfold look at ih ⊢
    rw [List.find?_cons, decide_eq_false hne]
    exact ih
theorem look_not : ∀ {f : List (Int × Tree)} {k : Int}, k ∉ f.map (·.1) → look f k = none
  | [], _, _ => rfl
  | x :: f, k, h => by
    have h1 : ¬ x.1 = k := fun z => h (z ▸ List.mem_cons_self)
    have ih := look_not (f := f) (k := k) fun z => h (List.mem_cons_of_mem _ z)
    unfold look at ih ⊢
    rw [List.find?_cons, decide_eq_false h1]
    exact ih
theorem look_mem : ∀ {f : List (Int × Tree)} {k : Int} {u : Tree}, look f k = some u → (k, u) ∈ f
  | [], _, _, h => by cases h
  | x :: f, k, u, h => by
    unfold look at h
    rw [List.find?_cons] at h
    by_cases e : x.1 = k
    · rw [decide_eq_true e] at h
      have : x.2 = u := Option.some.inj h
      subst e this
      exact List.mem_cons_self
    · rw [decide_eq_false e] at h
      exact List.mem_cons_of_mem _ (look_mem (f := f) h)
theorem prs_mem (a b : Nat → Int → Int) : ∀ (ks : List Int) (c : Nat) (q : Int × Tree), q ∈ prs a b c ks → ∃ j, q.2 = .blank j
  | [], _, _, h => by cases h
  | n :: ks, c, q, h => by
    rcases List.mem_cons.mp h with rfl | h
    · exact ⟨_, rfl⟩
    · exact prs_mem a b ks (c + 1) q h
theorem prs_keys (a b : Nat → Int → Int) (ks : List Int) (hinj : ∀ (i j : Nat) (m n : Int), ks[i]? = some m → ks[j]? = some n → a i m = a j n → i = j) : ((prs a b 0 ks).map (·.1)).Nodup := by
  refine List.pairwise_iff_getElem.mpr fun i j hi hj hij e => ?_
  have hi' := hi
  have hj' := hj
  rw [List.length_map, prs_len] at hi' hj'
  have e1 : ((prs a b 0 ks).map (·.1))[i]? = ((prs a b 0 ks).map (·.1))[j]? := by rw [List.getElem?_eq_getElem hi, List.getElem?_eq_getElem hj, e]
  rw [List.getElem?_map, List.getElem?_map, prs_get a b ks 0 i _ (List.getElem?_eq_getElem hi'), prs_get a b ks 0 j _ (List.getElem?_eq_getElem hj')] at e1
  simp only [Option.map_some, Nat.zero_add] at e1
  have := hinj i j _ _ (List.getElem?_eq_getElem hi') (List.getElem?_eq_getElem hj') (Option.some.inj e1)
  omega
theorem nodup_idx {ks : List Int} (h : ks.Nodup) {i j : Nat} {n : Int} (h1 : ks[i]? = some n) (h2 : ks[j]? = some n) : i = j := by
  obtain ⟨a1, b1⟩ := List.getElem?_eq_some_iff.mp h1
  obtain ⟨a2, b2⟩ := List.getElem?_eq_some_iff.mp h2
  exact (List.getElem_inj h).mp (b1.trans b2.symm)
/-- one filling and then the other -/
def behind (f g : List (Int × Tree)) : List (Int × Tree) := f.map (fun q => (q.1, exch (look g) q.2)) ++ g.filter fun q => (look f q.1).isNone
theorem look_map (e : Tree → Tree) : ∀ (f : List (Int × Tree)) (k : Int), look (f.map fun q => (q.1, e q.2)) k = (look f k).map e
  | [], _ => rfl
  | x :: f, k => by
    have ih := look_map e f k
    unfold look at ih ⊢
    rw [List.map_cons, List.find?_cons, List.find?_cons]
    by_cases h : x.1 = k
    · rw [decide_eq_true h]; rfl
    · rw [decide_eq_false h]; exact ih
theorem look_app : ∀ (f g : List (Int × Tree)) (k : Int), look (f ++ g) k = (look f k).or (look g k)
  | [], _, _ => by simp [look]
  | x :: f, g, k => by
    have ih := look_app f g k
    unfold look at ih ⊢
    rw [List.cons_append, List.find?_cons, List.find?_cons]
    by_cases h : x.1 = k
    · rw [decide_eq_true h]; rfl
    · rw [decide_eq_false h]; exact ih
theorem behind_look {f g : List (Int × Tree)} {k : Int} {u : Tree} (h : look f k = some u) : look (behind f g) k = some (exch (look g) u) := by
  unfold behind
  rw [look_app, look_map, h]; rfl
/-- the number at the place i, with this step -/
def down9 (big step : Int) (i : Nat) : Int := big - (i : Int) * step
theorem down9_inj {big step : Int} (h : 1 ≤ step) {i j : Nat} (e : down9 big step i = down9 big step j) : i = j := by
  unfold down9 at e
  have e1 : ((i : Int) - (j : Int)) * step = 0 := by rw [Int.sub_mul]; omega
  rcases Int.mul_eq_zero.mp e1 with h1 | h1 <;> omega
section
variable {big step : Int} {t : Tree}
abbrev std (t : Tree) : List Int := inss [] (nums t)
def fThere (big step : Int) (ks : List Int) : List (Int × Tree) := prs (fun _ n => n) (fun c _ => down9 big step c) 0 ks
def fBack (big step : Int) (ks : List Int) : List (Int × Tree) := prs (fun c _ => down9 big step c) (fun _ n => n) 0 ks
def fHome (ks : List Int) : List (Int × Tree) := prs (fun c _ => ((c + 1 : Nat) : Int)) (fun _ n => n) 0 ks
theorem there_nd {ks : List Int} (h : ks.Nodup) : ((fThere big step ks).map (·.1)).Nodup := prs_keys _ _ ks fun i j m n h1 h2 e => by
  have e' : m = n := e
  subst e'
  exact nodup_idx h h1 h2
theorem back_nd (hs : 1 ≤ step) (ks : List Int) : ((fBack big step ks).map (·.1)).Nodup := prs_keys _ _ ks fun i j m n h1 h2 e => down9_inj hs e
theorem home_nd (ks : List Int) : ((fHome ks).map (·.1)).Nodup := prs_keys _ _ ks fun i j m n h1 h2 e => by
  have e' : ((i + 1 : Nat) : Int) = ((j + 1 : Nat) : Int) := e
  omega
theorem look_there {ks : List Int} (h : ks.Nodup) {i : Nat} {n : Int} (e : ks[i]? = some n) : look (fThere big step ks) n = some (.blank (down9 big step i)) := by
  have := look_get (there_nd (big := big) (step := step) h) (prs_get _ _ ks 0 i n e)
  simpa using this
theorem look_back (hs : 1 ≤ step) {ks : List Int} {i : Nat} {n : Int} (e : ks[i]? = some n) : look (fBack big step ks) (down9 big step i) = some (.blank n) := by
  have := look_get (back_nd (big := big) hs ks) (prs_get _ _ ks 0 i n e)
  simpa using this
theorem look_home {ks : List Int} {i : Nat} {n : Int} (e : ks[i]? = some n) : look (fHome ks) ((i : Int) + 1) = some (.blank n) := by
  have := look_get (home_nd ks) (prs_get _ _ ks 0 i n e)
  simpa using this
theorem std_get {k : Int} (hk : k ∈ nums t) : ∃ i : Nat, pos (std t) k = some i ∧ (std t)[i]? = some k := by
  obtain ⟨i, hi⟩ := pos_some (inss_mem.mpr (.inr hk) : k ∈ std t)
  exact ⟨i, hi, pos_get hi⟩
def otherT (big step : Int) (t : Tree) : Tree := exch (look (fThere big step (std t))) t
theorem std_nd : (std t).Nodup := inss_nodup List.nodup_nil
theorem other_back (hs : 1 ≤ step) : exch (look (fBack big step (std t))) (otherT big step t) = t :=
  exch_back _ _ t fun k hk => let ⟨i, _, h2⟩ := std_get hk; ⟨_, look_there std_nd h2, look_back hs h2⟩
theorem plain_home : exch (look (fHome (std t))) (plainT t) = t :=
  exch_back _ _ t fun k hk => let ⟨i, h1, h2⟩ := std_get hk; ⟨(i : Int) + 1, by unfold nameOf; rw [h1]; rfl, look_home h2⟩
theorem both_back (hs : 1 ≤ step) : exch (look (behind (fThere big step (std t)) (fBack big step (std t)))) t = t :=
  exch_id _ t fun k hk => by
    obtain ⟨i, _, h2⟩ := std_get hk
    rw [behind_look (look_there std_nd h2)]
    show some (exch _ (.blank _)) = _
    rw [exch, look_back hs h2]; rfl
def gT (big step : Int) (t : Tree) (k : Int) : Int := match pos (std t) k with
  | some i => down9 big step i
  | none => k
theorem gT_at {k : Int} {i : Nat} (h : pos (std t) k = some i) : gT big step t k = down9 big step i := by unfold gT; rw [h]
theorem nums_other : nums (otherT big step t) = (nums t).map (gT big step t) := nums_exch _ _ t fun k hk => by
  obtain ⟨i, h1, h2⟩ := std_get hk
  rw [gT_at h1]
  exact look_there std_nd h2
theorem gT_inj (hs : 1 ≤ step) {a b : Int} (ha : a ∈ nums t) (hb : b ∈ nums t) (e : gT big step t a = gT big step t b) : a = b := by
  obtain ⟨i, h1, h2⟩ := std_get ha
  obtain ⟨j, h3, h4⟩ := std_get hb
  rw [gT_at h1, gT_at h3] at e
  have := down9_inj hs e
  subst this
  rw [h2] at h4
  exact Option.some.inj h4
theorem std_other (hs : 1 ≤ step) : std (otherT big step t) = (std t).map (gT big step t) := by
  show inss [] (nums (otherT big step t)) = _
  rw [nums_other]
  exact inss_map _ (nums t) [] fun a b ha hb e => gT_inj hs (ha.resolve_left (by simp)) (hb.resolve_left (by simp)) e
theorem plain_other (hs : 1 ≤ step) : plainT (otherT big step t) = plainT t := by
  show exch (nameOf (std (otherT big step t))) (otherT big step t) = exch (nameOf (std t)) t
  rw [std_other hs]
  refine exch_then _ _ _ t fun k hk => ?_
  obtain ⟨i, h1, h2⟩ := std_get hk
  refine ⟨gT big step t k, .blank ((i : Int) + 1), by rw [gT_at h1]; exact look_there std_nd h2, ?_, by unfold nameOf; rw [h1]; rfl⟩
  unfold nameOf
  rw [pos_map _ _ k fun a ha e => gT_inj hs ((inss_mem.mp ha).resolve_left (by simp)) hk e, h1]
  rfl
theorem std_list (hs : 1 ≤ step) : std (otherT big step t) = (List.range (std t).length).map fun i => down9 big step i := by
  rw [std_other hs]
  refine List.ext_getElem? fun i => ?_
  rw [List.getElem?_map, List.getElem?_map]
  by_cases hi : i < (std t).length
  · have e := List.getElem?_eq_getElem hi
    have hm : (std t)[i] ∈ nums t := (inss_mem.mp (List.getElem_mem hi)).resolve_left (by simp)
    obtain ⟨j, h1, h2⟩ := std_get hm
    have := nodup_idx std_nd h2 e
    subst this
    rw [e, List.getElem?_range hi]
    simp only [Option.map_some]
    rw [gT_at h1]
  · rw [List.getElem?_eq_none (by omega), List.getElem?_eq_none (by rw [List.length_range]; omega)]
    rfl
theorem there_blank : ∀ k u, look (fThere big step (std t)) k = some u → ∃ j, u = .blank j := fun k u e => prs_mem _ _ _ _ _ (look_mem e)
theorem other_size : (otherT big step t).knots = t.knots ∧ (otherT big step t).depth = t.depth := exch_size _ (fun k u e => by obtain ⟨j, rfl⟩ := there_blank k u e; rfl) t
theorem other_places : (pre [] (otherT big step t)).map (·.1) = (pre [] t).map (·.1) := pre_exch _ there_blank [] t
end
/-! ### filled, one_behind, alike -/
def spRefuse : SpD := fun ds M Q => ∃ t : Tree, ds = [t.d] ∧ t.knots ≤ 400 ∧ t.depth ≤ 60 ∧ Q .non M
theorem ok_refuse (T : Txt K mg) : FnD P w K mg base 62 "refuse_too_great" ["tree"] spRefuse := by
  obtain ⟨t_MOST_TOLD_DEPTH, g_MOST_TOLD_DEPTH⟩ := T.g_MOST_TOLD_DEPTH
  obtain ⟨t_MOST_TOLD_KNOTS, g_MOST_TOLD_KNOTS⟩ := T.g_MOST_TOLD_KNOTS
  have F_knots_of := ok_knots_of (P := P) (w := w) (base := base) T 60
  have F_depth_of := ok_depth_of (P := P) (w := w) (base := base) T 60
  refine def_ok T.f_refuse_too_great sc_refuse_too_great (fun ds M Q h => ?_) fun f cdv A outer s H E hr => ⟨_, (ss_cons (s_if (dt_cmp od_gt (d_call F_knots_of (hr.mono (by omega)) (a_cons (d_var 0) a_nil)) (d_glob_int rfl g_MOST_TOLD_KNOTS ⟨_, rfl⟩) (nomark _)) (ss_one s_never) ss_nil)
 (ss_one (s_if (dt_cmp od_gt (d_call F_depth_of (hr.mono (by omega)) (a_cons (d_var 0) a_nil)) (d_glob_int rfl g_MOST_TOLD_DEPTH ⟨_, rfl⟩) (nomark _)) (ss_one s_never) ss_nil))), fun ds M Q h => ?_⟩
  · obtain ⟨t, rfl, _⟩ := h; rfl
  · obtain ⟨t, rfl, hk, hd, q⟩ := h
    refine ⟨t, rfl, hd, ?_⟩
    show if decide ((400 : Int) < (t.knots : Int)) = true then _ else _
    rw [decide_eq_false (show ¬ (400 : Int) < (t.knots : Int) by omega), if_neg Bool.false_ne_true]
    refine ⟨t, rfl, hd, ?_⟩
    show if decide ((60 : Int) < (t.depth : Int)) = true then _ else _
    rw [decide_eq_false (show ¬ (60 : Int) < (t.depth : Int) by omega), if_neg Bool.false_ne_true]
    exact ⟨M, Sub.refl M, q⟩
def spFilled : SpD := fun ds M Q => ∃ (t : Tree) (l : Addr) (f : List (Int × Tree)), ds = [t.d, .ref l] ∧ t.depth ≤ 60 ∧ t.knots ≤ 1000 ∧ DicAt M l (fdic f) ∧ (exch (look f) t).knots ≤ 400 ∧ (exch (look f) t).depth ≤ 60 ∧ Q (exch (look f) t).d M
theorem ok_filled (T : Txt K mg) : FnD P w K mg base 63 "filled" ["tree", "filling"] spFilled := by
  have F_exchanged := ok_exchanged (P := P) (w := w) (base := base) T 60
  have F_refuse_too_great := ok_refuse (P := P) (w := w) (base := base) T
  refine def_ok T.f_filled sc_filled (fun ds M Q h => ?_) fun f cdv A outer s H E hr => ⟨_, (ss_cons (s_set (i := 2) sc_filled.nd (d_call F_exchanged (hr.mono (by omega)) (a_cons (d_var 0) (a_cons (d_var 1) a_nil))))
 (ss_cons (s_expr (d_call F_refuse_too_great (hr.mono (by omega)) (a_cons (d_var 2) a_nil)))
 (ss_one (s_ret (d_var 2))))), fun ds M Q h => ?_⟩
  · obtain ⟨t, l, f, rfl, _⟩ := h; rfl
  · obtain ⟨t, l, f, rfl, hd, hk, hl, h1, h2, q⟩ := h
    exact ⟨t, l, f, rfl, hd, hk, hl, exch (look f) t, rfl, h1, h2, M, Sub.refl M, q⟩
mutual
theorem self_ok : ∀ t : Tree, D.eqOk t.d t.d = true ∧ D.dep t.d ≤ 2 * t.depth
  | .block n ps => by
    obtain ⟨h1, h2⟩ := selfs_ok ps
    refine ⟨?_, ?_⟩
    · simp only [Tree.d, D.eqOk, D.eqOks, h1, Bool.and_self]
    · simp only [Tree.d, D.dep, D.deps, Tree.depth]; omega
  | .blank k => ⟨rfl, by simp only [Tree.d, D.dep, D.deps, Tree.depth]; omega⟩
theorem selfs_ok : ∀ ts : List Tree, D.eqOks (Tree.ds ts) (Tree.ds ts) = true ∧ D.deps (Tree.ds ts) ≤ 2 * Tree.depths ts
  | [] => ⟨rfl, by simp [Tree.ds, D.deps]⟩
  | t :: ts => by
    obtain ⟨h1, h2⟩ := self_ok t
    obtain ⟨h3, h4⟩ := selfs_ok ts
    refine ⟨?_, ?_⟩
    · simp only [Tree.ds, D.eqOks, h1, h3, Bool.and_self]
    · simp only [Tree.ds, D.deps, Tree.depths]; omega
end
theorem self_tup (t : Tree) : ∃ xs, t.d = .tup xs ∧ D.eqOks xs xs = true ∧ D.deps xs ≤ 2 * t.depth ∧ D.eqs xs xs = true := by
  obtain ⟨h1, h2⟩ := self_ok t
  have h3 := eq_refl_aux _ t.d t.d (Nat.le_refl _) h1 rfl
  cases t with
  | block n ps =>
    refine ⟨_, rfl, by simpa [Tree.d, D.eqOk] using h1, ?_, by simpa [Tree.d, D.eq] using h3⟩
    simp only [Tree.d, D.dep] at h2
    omega
  | blank k =>
    refine ⟨_, rfl, by simpa [Tree.d, D.eqOk] using h1, ?_, by simpa [Tree.d, D.eq] using h3⟩
    simp only [Tree.d, D.dep] at h2
    omega
def spAlk (n : Nat) : SpD := fun ds M Q => ∃ t u : Tree, ds = [t.d, u.d] ∧ (t.depth ≤ n ∧ t.knots ≤ 1000) ∧ (u.depth ≤ n ∧ u.knots ≤ 1000) ∧ plainT t = plainT u ∧ (plainT u).depth ≤ 75 ∧ Q (.bl true) M
theorem ok_alk (T : Txt K mg) (n : Nat) : FnD P w K mg base (n + 4) "alike" ["one", "other"] (spAlk n) := by
  have F_plain := ok_plain (P := P) (w := w) (base := base) T n
  refine def_ok T.f_alike sc_alike (fun ds M Q h => ?_) fun f cdv A outer s H E hr => ⟨_, (ss_one (s_ret (d_cmp (od_eq hr) (d_call F_plain (hr.mono (by omega)) (a_cons (d_var 0) a_nil)) (d_call F_plain (hr.mono (by omega)) (a_cons (d_var 1) a_nil)) (nomark _)))), fun ds M Q h => ?_⟩
  · obtain ⟨t, u, rfl, _⟩ := h; rfl
  · obtain ⟨t, u, rfl, h1, h2, e, hd, q⟩ := h
    refine ⟨t, rfl, h1.1, h1.2, u, rfl, h2.1, h2.2, ?_⟩
    rw [e]
    obtain ⟨xs, hx, a1, a2, a3⟩ := self_tup (plainT u)
    show eqD (plainT u).d (plainT u).d M _
    rw [hx]
    refine ⟨a1, by omega, ?_⟩
    rw [a3]
    exact rt_done q
/-- what stands stays, but for one thing -/
def Sub1 (a : Addr) (M M' : DH) : Prop := ∀ c o, c ≠ a → M c = some o → M' c = some o
def spOneB : SpD := fun ds M Q => ∃ (a b : Addr) (f g : List (Int × Tree)), ds = [.ref a, .ref b] ∧ M a = some (.dic (fdic f)) ∧ M b = some (.dic (fdic g)) ∧ a ≠ b ∧ (f.map (·.1)).Nodup ∧ (g.map (·.1)).Nodup ∧ f.length + g.length ≤ 900 ∧
  (∀ q ∈ f, (q.2.depth ≤ 60 ∧ q.2.knots ≤ 1000) ∧ (exch (look g) q.2).knots ≤ 400 ∧ (exch (look g) q.2).depth ≤ 60) ∧ (∀ q ∈ g, q.2.knots ≤ 400 ∧ q.2.depth ≤ 60) ∧ ∀ l, M l = none → Q (.ref l) (updM M l (.dic (fdic (behind f g))))
theorem fdic_get {f : List (Int × Tree)} {i : Nat} {k : Key} {d : D} (h : (fdic f)[i]? = some (k, d)) : ∃ q, f[i]? = some q ∧ k = .inl q.1 ∧ d = q.2.d := by
  unfold fdic at h
  rw [List.getElem?_map] at h
  cases e : f[i]? with
  | none => rw [e] at h; cases h
  | some q => rw [e] at h; cases h; exact ⟨q, rfl, rfl, rfl⟩
theorem nd_take {f : List (Int × Tree)} {i : Nat} {q : Int × Tree} (h : (f.map (·.1)).Nodup) (e : f[i]? = some q) : q.1 ∉ (f.take i).map (·.1) := by
  have h2 : ((f.take (i + 1)).map (·.1)).Nodup := h.sublist ((List.take_sublist _ _).map _)
  rw [List.take_add_one, e, List.map_append] at h2
  intro z
  exact (List.nodup_append.mp h2).2.2 _ z _ (by simp) rfl
theorem ok_oneb (T : Txt K mg) : FnD P w K mg base 64 "one_behind" ["one", "other"] spOneB := by
  have F_filled := ok_filled (P := P) (w := w) (base := base) T
  have F_refuse_too_great := ok_refuse (P := P) (w := w) (base := base) T
  refine def_ok T.f_one_behind sc_one_behind (fun ds M Q h => ?_) fun f cdv A outer s H E hr => ⟨_, (ss_cons (s_set (i := 2) sc_one_behind.nd d_dict0)
 (ss_cons (s_forK PassesOwn.never rfl (d_var 0) (g_name (i := 3) sc_one_behind.nd) (ss_one (s_asg (d_call F_filled (hr.mono (by omega)) (a_cons (d_ixK hr (d_var 0) (d_var 3)) (a_cons (d_var 1) a_nil))) (g_subK hr (d_var 2) (d_var 3)))))
 (ss_cons (s_forK PassesOwn.never rfl (d_var 1) (g_name (i := 3) sc_one_behind.nd) (ss_one (s_if (dt_cmp (od_notinX hr) (d_var 3) (d_var 0) (rfl)) (ss_cons (s_expr (d_call F_refuse_too_great (hr.mono (by omega)) (a_cons (d_ixK hr (d_var 1) (d_var 3)) a_nil)))
 (ss_one (s_asg (d_ixK hr (d_var 1) (d_var 3)) (g_subK hr (d_var 2) (d_var 3))))) ss_nil)))
 (ss_one (s_ret (d_var 2)))))), fun ds M Q h => ?_⟩
  · obtain ⟨a, b, f, g, rfl, _⟩ := h; rfl
  · obtain ⟨a, b, f, g, rfl, ha, hb, hab, nf', ng, hlen, hf, hg, q⟩ := h
    show ∀ l, M l = none → _
    intro l hl
    have hal : a ≠ l := by intro z; subst z; rw [ha] at hl; cases hl
    have hbl : b ≠ l := by intro z; subst z; rw [hb] at hl; cases hl
    have flen : ∀ f : List (Int × Tree), (fdic f).length = f.length := fun f => by unfold fdic; rw [List.length_map]
    refine ⟨fdic f, by rw [updM_ne hal]; exact ha, fun i τ M' => (∃ v : Option D, τ = [some (.ref a), some (.ref b), some (.ref l), v]) ∧ M' a = some (.fdc (fdic f)) ∧ M' l = some (.dic (fdic ((f.take i).map fun q => (q.1, exch (look g) q.2)))) ∧ Sub1 a M M', ⟨⟨none, rfl⟩, updM_same, by rw [updM_ne (Ne.symm hal), updM_same]; rfl, fun c o hc e => ?_⟩, fun i τ M' _ hW => hW.2.1, ?_, ?_⟩
    · rw [updM_ne hc, updM_ne (by intro z; subst z; rw [hl] at e; cases e)]; exact e
    · rintro i k d τ M' ek ⟨⟨v, rfl⟩, ha', hl', hs'⟩
      obtain ⟨p, ep, rfl, rfl⟩ := fdic_get ek
      have hp := hf p (List.mem_of_getElem? ep)
      have hb' : M' b = some (.dic (fdic g)) := hs' b _ (Ne.symm hab) hb
      have hni := nd_take nf' ep
      have hnk : look ((f.take i).map fun q => (q.1, exch (look g) q.2)) p.1 = none := by rw [look_map, look_not hni]; rfl
      refine ⟨_, _, p.2.d, rfl, .inr ha', by rw [fdic_val, look_get nf' ep]; rfl, p.2, b, g, rfl, hp.1.1, hp.1.2, .inl hb', hp.2.1, hp.2.2, ?_⟩
      refine ⟨_, _, rfl, hl', by rw [flen, List.length_map, List.length_take]; exact small1000 (by omega), ⟨_, rfl⟩, by rw [updM_ne hal]; exact ha', ?_, fun c o hc e => ?_⟩
      · rw [updM_same]
        have e4 : (f.take (i + 1)).map (fun q => (q.1, exch (look g) q.2)) = (f.take i).map (fun q => (q.1, exch (look g) q.2)) ++ [(p.1, exch (look g) p.2)] := by
          rw [List.take_add_one, ep, List.map_append]; rfl
        rw [e4, ← fdic_put hnk]
      · rw [updM_ne (by intro z; subst z; rw [hl] at e; cases e)]; exact hs' c o hc e
    · rintro τ M' ⟨⟨v, rfl⟩, ha', hl', hs'⟩
      rw [flen, List.take_length] at hl'
      have hb1 : updM M' a (.dic (fdic f)) b = some (.dic (fdic g)) := by rw [updM_ne (Ne.symm hab)]; exact hs' b _ (Ne.symm hab) hb
      have ha1 : updM M' a (.dic (fdic f)) a = some (.dic (fdic f)) := updM_same
      have hl1 : updM M' a (.dic (fdic f)) l = some (.dic (fdic (f.map fun q => (q.1, exch (look g) q.2)))) := by rw [updM_ne (Ne.symm hal)]; exact hl'
      have hs1 : Sub M (updM M' a (.dic (fdic f))) := fun c o e => by
        by_cases hc : c = a
        · subst hc; rw [updM_same]; rw [ha] at e; exact e
        · rw [updM_ne hc]; exact hs' c o hc e
      generalize updM M' a (.dic (fdic f)) = M1 at *
      refine ⟨fdic g, hb1, fun i τ M' => (∃ v : Option D, τ = [some (.ref a), some (.ref b), some (.ref l), v]) ∧ M' b = some (.fdc (fdic g)) ∧ M' a = some (.dic (fdic f)) ∧ M' l = some (.dic (fdic (f.map (fun q => (q.1, exch (look g) q.2)) ++ (g.take i).filter fun q => (look f q.1).isNone))) ∧ Sub1 b M M', ⟨⟨_, rfl⟩, updM_same, by rw [updM_ne hab]; exact ha1, by rw [updM_ne (Ne.symm hbl), hl1]; simp, fun c o hc e => by rw [updM_ne hc]; exact hs1 c o e⟩, fun i τ M' _ hW => hW.2.1, ?_, ?_⟩
      · rintro i k d τ M' ek ⟨⟨v, rfl⟩, hb', ha', hl', hs'⟩
        obtain ⟨p, ep, rfl, rfl⟩ := fdic_get ek
        have hp := hg p (List.mem_of_getElem? ep)
        have hni := nd_take ng ep
        have etk : (g.take (i + 1)).filter (fun q => (look f q.1).isNone) = (g.take i).filter (fun q => (look f q.1).isNone) ++ [p].filter (fun q => (look f q.1).isNone) := by
          rw [List.take_add_one, ep, List.filter_append]; rfl
        refine Or.inl ⟨_, _, rfl, .inl ha', ?_⟩
        rw [fdic_val, Option.isSome_map]
        cases hlk : look f p.1 with
        | some u =>
          have e5 : [p].filter (fun q => (look f q.1).isNone) = [] := by simp [hlk]
          rw [e5, List.append_nil] at etk
          exact ⟨⟨_, rfl⟩, hb', ha', by rw [etk]; exact hl', hs'⟩
        | none =>
          have e5 : [p].filter (fun q => (look f q.1).isNone) = [p] := by simp [hlk]
          rw [e5] at etk
          have hv : valD (fdic g) (.inl p.1) = some p.2.d := by rw [fdic_val, look_get ng ep]; rfl
          have hnk : look (f.map (fun q => (q.1, exch (look g) q.2)) ++ (g.take i).filter fun q => (look f q.1).isNone) p.1 = none := by
            rw [look_app, look_map, hlk, look_not fun z => ?_]
            · rfl
            · obtain ⟨y, hy, ey⟩ := List.mem_map.mp z
              exact hni (ey ▸ List.mem_map_of_mem (f := (·.1)) (List.mem_filter.mp hy).1)
          have hlen2 : ((g.take i).filter fun q => (look f q.1).isNone).length ≤ g.length := Nat.le_trans (List.length_filter_le _ _) (by rw [List.length_take]; omega)
          refine ⟨_, _, p.2.d, rfl, .inr hb', hv, p.2, rfl, hp.1, hp.2, ?_⟩
          refine ⟨_, _, p.2.d, rfl, .inr hb', hv, ?_⟩
          refine ⟨_, _, rfl, hl', by rw [flen, List.length_append, List.length_map]; exact small1000 (by omega), ⟨_, rfl⟩, by rw [updM_ne hbl]; exact hb', by rw [updM_ne hal]; exact ha', ?_, fun c o hc e => ?_⟩
          · rw [updM_same, etk, ← List.append_assoc, ← fdic_put hnk]
          · rw [updM_ne (by intro z; subst z; rw [hl] at e; cases e)]; exact hs' c o hc e
      · rintro τ M' ⟨⟨v, rfl⟩, hb', ha', hl', hs'⟩
        rw [flen, List.take_length] at hl'
        refine ⟨updM M l (.dic (fdic (behind f g))), fun c o e => ?_, q l hl⟩
        by_cases hcb : c = b
        · subst hcb
          rw [updM_ne hbl] at e
          rw [updM_same]
          rw [hb] at e
          exact e
        · rw [updM_ne hcb]
          by_cases hcl : c = l
          · subst hcl; rw [updM_same] at e; rw [hl']; exact e
          · rw [updM_ne hcl] at e; exact hs' c o hcb e
-- DICTS law.there law.back law.home law!=
/-! ### the law -/
theorem cut_map {α β : Type} (g : α → β) (xs : List α) (lo hi : Option Int) : DL.cutD (xs.map g) lo hi = (DL.cutD xs lo hi).map g := by
  unfold DL.cutD
  rw [List.length_map, ← List.map_drop, ← List.map_take]
theorem any_ints (k : Int) : ∀ ks : List Int, ((ks.map D.int).any fun y => D.eq y (.int k)) = decide (k ∈ ks)
  | [] => rfl
  | j :: ks => by
    rw [List.map_cons, List.any_cons, any_ints k ks]
    show ((j == k) || _) = _
    by_cases e : j = k
    · subst e; simp
    · have e' : ¬ k = j := fun z => e z.symm
      simp [e, e']
theorem flat_ints : ∀ ks : List Int, (ks.map D.int).all D.flat = true
  | [] => rfl
  | j :: ks => by rw [List.map_cons, List.all_cons, flat_ints ks]; rfl
theorem prs_take (a b : Nat → Int → Int) : ∀ (ks : List Int) (c i : Nat), prs a b c (ks.take i) = (prs a b c ks).take i
  | [], _, i => by simp [prs]
  | n :: ks, _, 0 => by simp [prs]
  | n :: ks, c, i + 1 => by rw [List.take_succ_cons, prs, prs, List.take_succ_cons, prs_take a b ks (c + 1) i]
theorem put_prs (a b : Nat → Int → Int) {ks : List Int} {i : Nat} {n : Int} (h : ((prs a b 0 ks).map (·.1)).Nodup) (e : ks[i]? = some n) :
    putD (fdic (prs a b 0 (ks.take i))) (.inl (a i n)) (Tree.blank (b i n)).d = fdic (prs a b 0 (ks.take (i + 1))) := by
  have hg := prs_get a b ks 0 i n e
  rw [Nat.zero_add] at hg
  have hn := nd_take h hg
  rw [← prs_take] at hn
  rw [fdic_put (look_not hn)]
  have hi : i < ks.length := (List.getElem?_eq_some_iff.mp e).1
  rw [List.take_add_one, e]
  show _ = fdic (prs a b 0 (ks.take i ++ [n]))
  rw [prs_app, List.length_take, show min i ks.length = i by omega, Nat.zero_add]
theorem fdic_len (f : List (Int × Tree)) : (fdic f).length = f.length := by unfold fdic; rw [List.length_map]
theorem ints_eqOks : ∀ a b : List Int, D.eqOks (a.map .int) (b.map .int) = true
  | [], _ => by cases ‹List Int› <;> rfl
  | _ :: _, [] => rfl
  | x :: a, y :: b => by rw [List.map_cons, List.map_cons, D.eqOks, ints_eqOks a b]; rfl
theorem ints_deps : ∀ a : List Int, D.deps (a.map .int) = 0
  | [] => rfl
  | x :: a => by rw [List.map_cons, D.deps, ints_deps a]; rfl
theorem rows_ok : ∀ ps : List (List Int), D.eqOks (ps.map tupI) (ps.map tupI) = true ∧ D.deps (ps.map tupI) ≤ 1
  | [] => ⟨rfl, Nat.zero_le _⟩
  | p :: ps => by
    obtain ⟨h1, h2⟩ := rows_ok ps
    rw [List.map_cons]
    refine ⟨?_, ?_⟩
    · rw [D.eqOks, h1]; show (D.eqOks (p.map .int) (p.map .int) && true) = true; rw [ints_eqOks]; rfl
    · rw [D.deps]; show max (D.deps (p.map .int) + 1) _ ≤ 1; rw [ints_deps]; omega
theorem rows_eq (ps : List (List Int)) : D.eqs (ps.map tupI) (ps.map tupI) = true := by
  have h := eq_refl_aux _ (.tup (ps.map tupI)) (.tup (ps.map tupI)) (Nat.le_refl _) (by show D.eqOks _ _ = true; exact (rows_ok ps).1) rfl
  exact h
def ninth : Int := 10 ^ (9 : Int).toNat
def stepD (step : Int) : D → Option D
  | .int k => some (.int (ninth - k * step))
  | _ => none
theorem stepD_map (step : Int) (n : Nat) : ((List.range n).map fun i : Nat => D.int (i : Int)).filterMap (stepD step) = ((List.range n).map fun i => down9 ninth step i).map D.int := by
  induction n with
  | zero => rfl
  | succ n ih => rw [List.range_succ, List.map_append, List.map_append, List.map_append, List.filterMap_append, ih]; rfl
theorem name_size (ks : List Int) : ∀ k t, nameOf ks k = some t → t.knots = 1 := fun k t e => by
  unfold nameOf at e
  cases h : pos ks k with
  | none => rw [h] at e; cases e
  | some i => rw [h] at e; cases e; rfl
theorem fgtS {a : Option D} {d : D} : Fgt [none, a] [some d, a] := ⟨rfl, fun i x e => by
  match i, e with
  | 0, e => cases e
  | 1, e => exact e
  | i + 2, e => simp at e⟩
theorem ok_law (T : Txt K mg) {qual : Str} {f : Addr} {fd : FuncData} (F : Fun K "law" qual s_law f fd) : FnOk P w K mg base CX0 kLaw f fd ["script"] (lowSp K spLaw) := by
  have m_enumerate := T.m_enumerate
  have m_len := T.m_len
  have m_range := T.m_range
  have F__law_draw := ok_draw (P := P) (w := w) (base := base) T
  have F__law_cell_at := ok_cell (P := P) (w := w) (base := base) T
  have F__law_alike := ok_al (P := P) (w := w) (base := base) T 150
  have F__law_places := ok_places (P := P) (w := w) (base := base) T
  have F__law_tree := ok_tree T F__law_draw (ok_names (P := P) (w := w) (base := base) T F__law_draw) (ok_leaf T F__law_draw)
  have F_blanks_of := ok_blanks_of (P := P) (w := w) (base := base) T 60
  have F_plain := ok_plain (P := P) (w := w) (base := base) T 60
  have F_alike := ok_alk (P := P) (w := w) (base := base) T 60
  have F_filled := ok_filled (P := P) (w := w) (base := base) T
  have F_one_behind := ok_oneb (P := P) (w := w) (base := base) T
  have F_places_of := ok_places_of (P := P) (w := w) (base := base) T 60
  have F_knots_of := ok_knots_of (P := P) (w := w) (base := base) T 60
  refine def_fn F sc_law (fun ds M Q h => ?_) fun cdv A outer s H E hr => ⟨_, (ss_cons (s_set (i := 1) sc_law.nd (d_call F__law_cell_at (hr.mono (by omega)) (a_cons (d_var 0) (a_cons d_int a_nil))))
 (ss_cons (s_set (i := 2) sc_law.nd (d_call F__law_tree (hr.mono (by omega)) (a_cons (d_sl sd_sl (d_var 0) (o_some d_int) o_none) (a_cons (d_var 1) (a_cons (d_op od_add d_int (d_call F__law_draw (hr.mono (by omega)) (a_cons (d_var 1) (a_cons d_int (a_cons d_int a_nil))))) a_nil)))))
 (ss_cons (s_set (i := 3) sc_law.nd (d_lst a_nil))
 (ss_cons (s_for PassesOwn.never rfl (d_call F__law_places (hr.mono (by omega)) (a_cons (d_var 2) a_nil)) (g_tup rfl (gs_cons (g_name (i := 4) sc_law.nd) (gs_cons (g_name (i := 5) sc_law.nd) gs_nil)) len_2) (ss_one (s_if (PW.pt (dw_and (dt_cmp (od_eq hr) (d_ix (d_var 5) d_int) d_str (nomark _)) (dw_and1 (dt_cmp (od_notinX hr) (d_ix (d_var 5) d_int) (d_var 3) (rfl))))) (ss_one (s_expr (d_bm PySem.F.plainAttrs_list PySem.F.slot_list_append PySem.F.type_list_append md_append (d_var 3) (a_cons (d_ix (d_var 5) d_int) a_nil)))) ss_nil)))
 (ss_cons (s_set (i := 6) sc_law.nd (d_op od_add d_int (d_call F__law_draw (hr.mono (by omega)) (a_cons (d_var 1) (a_cons d_int (a_cons (d_op od_pow d_int d_int) a_nil))))))
 (ss_cons (s_set (i := 7) sc_law.nd d_dict0)
 (ss_cons (s_set (i := 8) sc_law.nd d_dict0)
 (ss_cons (s_set (i := 9) sc_law.nd d_dict0)
 (ss_cons (s_forE PassesOwn.never rfl m_enumerate (a_cons (d_var 3) a_nil) (g_tup rfl (gs_cons (g_name (i := 10) sc_law.nd) (gs_cons (g_name (i := 11) sc_law.nd) gs_nil)) len_2) (ss_cons (s_asg (d_tup (a_cons d_str (a_cons (d_op od_sub (d_op od_pow d_int d_int) (d_op od_mulS (d_var 10) (d_var 6))) a_nil))) (g_subK hr (d_var 7) (d_var 11)))
 (ss_cons (s_asg (d_tup (a_cons d_str (a_cons (d_var 11) a_nil))) (g_subK hr (d_var 8) (d_op od_sub (d_op od_pow d_int d_int) (d_op od_mulS (d_var 10) (d_var 6)))))
 (ss_one (s_asg (d_tup (a_cons d_str (a_cons (d_var 11) a_nil))) (g_subK hr (d_var 9) (d_op od_add (d_var 10) d_int)))))))
 (ss_cons (s_set (i := 12) sc_law.nd (d_call F_filled (hr.mono (by omega)) (a_cons (d_var 2) (a_cons (d_var 7) a_nil))))
 (ss_cons (s_if (PW.pt (dw_or (dt_cmp od_isnot (d_call F_alike (hr.mono (by omega)) (a_cons (d_var 2) (a_cons (d_var 12) a_nil))) d_bl (nomark _)) (dw_or1 (dt_not (dt_val (d_call F__law_alike (hr.mono (by omega)) (a_cons (d_call F_plain (hr.mono (by omega)) (a_cons (d_var 12) a_nil)) (a_cons (d_call F_plain (hr.mono (by omega)) (a_cons (d_var 2) a_nil)) a_nil)))))))) (ss_one (s_ret d_bl)) ss_nil)
 (ss_cons (s_if (dt_not (dt_val (d_call F__law_alike (hr.mono (by omega)) (a_cons (d_call F_blanks_of (hr.mono (by omega)) (a_cons (d_var 12) a_nil)) (a_cons (d_compR (Nc := ["k", "step"]) (js := [none, some 6]) (comp_okF ["script", "first", "tree", "standing", "place", "here", "step", "there", "back", "home", "k", "number", "other"] (defScope s_law).names rfl rfl rfl rfl (by decide +kernel) (by decide +kernel) (by decide +kernel) rfl (by decide +kernel)) rfl m_range (a_cons (d_callB cd_len rfl m_len bt_len (a_cons (d_var 3) a_nil)) a_nil) (fun C s H fp => (g_name (i := 0) (by show List.Nodup (["k", "step"] : List Str); decide +kernel))) (fun C s H fp => Or.inl ⟨rfl, rfl⟩) (fun C s H fp => (d_op od_sub (d_op od_pow d_int d_int) (d_op od_mulS (d_var 0) (d_var 1))))) a_nil))))) (ss_one (s_ret d_bl)) ss_nil)
 (ss_cons (s_if (PW.pt (dw_or (dt_cmp (od_neX hr) (d_call F_knots_of (hr.mono (by omega)) (a_cons (d_var 12) a_nil)) (d_call F_knots_of (hr.mono (by omega)) (a_cons (d_var 2) a_nil)) (nomark _)) (dw_or1 (dt_cmp (od_neX hr) (d_call F_places_of (hr.mono (by omega)) (a_cons (d_var 12) a_nil)) (d_call F_places_of (hr.mono (by omega)) (a_cons (d_var 2) a_nil)) (nomark _))))) (ss_one (s_ret d_bl)) ss_nil)
 (ss_cons (s_if (PW.pt (dw_or (dt_not (dt_val (d_call F__law_alike (hr.mono (by omega)) (a_cons (d_call F_filled (hr.mono (by omega)) (a_cons (d_var 12) (a_cons (d_var 8) a_nil))) (a_cons (d_var 2) a_nil))))) (dw_or1 (dt_not (dt_val (d_call F__law_alike (hr.mono (by omega)) (a_cons (d_call F_filled (hr.mono (by omega)) (a_cons (d_call F_plain (hr.mono (by omega)) (a_cons (d_var 2) a_nil)) (a_cons (d_var 9) a_nil))) (a_cons (d_var 2) a_nil)))))))) (ss_one (s_ret d_bl)) ss_nil)
 (ss_one (s_ret (d_call F__law_alike (hr.mono (by omega)) (a_cons (d_call F_filled (hr.mono (by omega)) (a_cons (d_var 2) (a_cons (d_call F_one_behind (hr.mono (by omega)) (a_cons (d_var 7) (a_cons (d_var 8) a_nil))) a_nil))) (a_cons (d_var 2) a_nil))))))))))))))))))), fun ds M Q h => ?_⟩
  · obtain ⟨ns, rfl, _⟩ := h; rfl
  · obtain ⟨ns, rfl, hl, q⟩ := h
    refine ⟨ns, 0, rfl, by decide, fun first => ?_⟩
    show ∀ p, M p = none → _
    intro p hp
    refine ⟨first, 50, 3, rfl, ⟨by decide, by decide⟩, by decide, fun r h0 h1 => ?_⟩
    refine ⟨p, DL.cutD ns (some 1) none, first, _, rfl, by rw [updM_same, cut_map], fun n ps hk hdp => ?_⟩
    have hM : Sub M (updM M p (.lst (DL.cutD (ns.map D.int) (some 1) none))) := Sub.new hp
    generalize updM M p (.lst (DL.cutD (ns.map D.int) (some 1) none)) = M1 at *
    have ht : (Tree.block n ps).knots ≤ 201 := by show Tree.knotss ps + 1 ≤ 201; omega
    have hd : (Tree.block n ps).depth ≤ 42 := by show Tree.depths ps + 1 ≤ 42; omega
    dsimp only [DL.hName]
    generalize Tree.block n ps = t at *
    show ∀ p, M1 p = none → _
    intro ld hld
    have hM2 : Sub M (updM M1 ld (.lst [])) := hM.trans (Sub.new hld)
    have hD : updM M1 ld (.lst []) ld = some (.lst []) := updM_same
    have h0' : M ld = none := by
      cases e : M ld with
      | none => rfl
      | some o => rw [hM ld o e] at hld; cases hld
    generalize updM M1 ld (.lst []) = M2 at *
    refine ⟨t, rfl, by omega, fun l hl => ?_⟩
    have hne : ld ≠ l := by intro z; subst z; rw [hD] at hl; cases hl
    refine ⟨_, updM_same, fun i τ M' => (∃ v4 v5 : Option D, τ = [some (.rol (ns.map .int)), some (.int first), some t.d, some (.ref ld), v4, v5, none, none, none, none, none, none, none]) ∧ M' l = some (.lst ((pre [] t).map pd)) ∧ M' ld = some (.lst ((inss [] (((pre [] t).take i).filterMap numAtP)).map .int)) ∧ Sub M M',
      ⟨⟨none, none, rfl⟩, updM_same, by rw [updM_ne hne]; exact hD, hM2.trans (Sub.new hl)⟩, fun i τ M' _ hW => hW.2.1, ?_, ?_⟩
    · rintro i d τ M' ed ⟨⟨v4, v5, rfl⟩, hl', hd', hs'⟩
      rw [List.getElem?_map] at ed
      cases ey : (pre [] t)[i]? with
      | none => rw [ey] at ed; cases ed
      | some y =>
        rw [ey] at ed
        cases ed
        have etk : ((pre [] t).take (i + 1)).filterMap numAtP = ((pre [] t).take i).filterMap numAtP ++ [y].filterMap numAtP := by
          rw [List.take_add_one, ey, List.filterMap_append]; rfl
        have hlen : (inss [] (((pre [] t).take i).filterMap numAtP)).length ≤ 201 := by
          have h1 := inss_len (((pre [] t).take i).filterMap numAtP) []
          have h2 := List.length_filterMap_le numAtP ((pre [] t).take i)
          have h3 := pre_length [] t
          rw [List.length_take] at h2
          simp only [List.length_nil] at h1
          omega
        obtain ⟨pl, here⟩ := y
        cases here with
        | block z qs =>
          have e0 : ([(pl, Tree.block z qs)] : List PT').filterMap numAtP = [] := rfl
          rw [e0, List.append_nil] at etk
          exact ⟨⟨_, _, rfl⟩, hl', by rw [etk]; exact hd', hs'⟩
        | blank k =>
          have e0 : ([(pl, Tree.blank k)] : List PT').filterMap numAtP = [k] := rfl
          rw [e0] at etk
          have e9 : inss [] (((pre [] t).take (i + 1)).filterMap numAtP) = inss (inss [] (((pre [] t).take i).filterMap numAtP)) [k] := by rw [etk, inss_app]
          generalize inss [] (((pre [] t).take i).filterMap numAtP) = ks at *
          refine Or.inr ⟨_, hd', rfl, flat_ints ks, ?_⟩
          rw [any_ints]
          by_cases hkk : k ∈ ks
          · rw [decide_eq_true hkk]
            have e1 : inss ks [k] = ks := if_pos hkk
            exact ⟨⟨_, _, rfl⟩, hl', by rw [e9, e1]; exact hd', hs'⟩
          · rw [decide_eq_false hkk]
            have e1 : inss ks [k] = ks ++ [k] := if_neg hkk
            refine ⟨⟨rfl, _, hd'⟩, _, hd', by rw [List.length_map]; exact small1000 (by omega), ⟨_, _, rfl⟩, by rw [updM_ne (Ne.symm hne)]; exact hl', by rw [updM_same, e9, e1, List.map_append]; rfl, sub_upd hs' h0'⟩
    · rintro τ M' ⟨⟨v4, v5, rfl⟩, hl', hd', hs'⟩
      have etk : ((pre [] t).take ((pre [] t).map pd).length).filterMap numAtP = nums t := by rw [List.length_map, List.take_length, nums_pre]
      rw [etk] at hd'
      have hlen : (std t).length ≤ 201 := by
        have h1 := inss_len (nums t) []
        have h2 := nums_len t
        simp only [List.length_nil] at h1
        show (inss [] (nums t)).length ≤ 201
        omega
      have hnd : (std t).Nodup := std_nd
      clear hl' hl
      have hp8 : CPow 10 8 := ⟨by decide, by decide, by decide⟩
      have hp9 : CPow 10 9 := ⟨by decide, by decide, by decide⟩
      refine ⟨hp8, first, 51, _, rfl, ⟨by decide, by decide⟩, by decide, fun r2 h2 h3 => ?_⟩
      have hst : 1 ≤ 1 + r2 := by omega
      generalize hstep : 1 + r2 = step at hst
      show ∀ p, M' p = none → _
      rw [hstep]
      intro la hla
      show ∀ p, updM M' la (.dic []) p = none → _
      intro lb hlb
      show ∀ p, updM (updM M' la (.dic [])) lb (.dic []) p = none → _
      intro lh hlh
      obtain ⟨b1, b2⟩ := upd_none hlb
      obtain ⟨c1, c2⟩ := upd_none hlh
      obtain ⟨c3, c4⟩ := upd_none c2
      have da : ld ≠ la := by intro z; subst z; rw [hd'] at hla; cases hla
      have db : ld ≠ lb := by intro z; subst z; rw [hd'] at b2; cases b2
      have dh : ld ≠ lh := by intro z; subst z; rw [hd'] at c4; cases c4
      have free : ∀ {a : Addr}, M' a = none → M a = none := fun {a} h => by
        cases e : M a with
        | none => rfl
        | some o => rw [hs' a o e] at h; cases h
      refine ⟨(std t).map .int, by rw [updM_ne dh, updM_ne db, updM_ne da]; exact hd', fun i τ M'' => (∃ v10 v11 : Option D, τ = [some (.rol (ns.map .int)), some (.int first), some t.d, some (.ref ld), v4, v5, some (.int step), some (.ref la), some (.ref lb), some (.ref lh), v10, v11, none]) ∧ M'' ld = some (.lst ((std t).map .int)) ∧
        M'' la = some (.dic (fdic (prs (fun _ n => n) (fun c _ => down9 ninth step c) 0 ((std t).take i)))) ∧ M'' lb = some (.dic (fdic (prs (fun c _ => down9 ninth step c) (fun _ n => n) 0 ((std t).take i)))) ∧ M'' lh = some (.dic (fdic (prs (fun c _ => ((c + 1 : Nat) : Int)) (fun _ n => n) 0 ((std t).take i)))) ∧ Sub M M'',
        ⟨⟨none, none, rfl⟩, by rw [updM_ne dh, updM_ne db, updM_ne da]; exact hd', by rw [updM_ne (Ne.symm c3), updM_ne (Ne.symm b1), updM_same]; rfl, by rw [updM_ne (Ne.symm c1), updM_same]; rfl, by rw [updM_same]; rfl, ((hs'.trans (Sub.new hla)).trans (Sub.new hlb)).trans (Sub.new hlh)⟩, fun i τ M'' _ hW => hW.2.1, ?_, ?_⟩
      · rintro i d τ M'' ed ⟨⟨v10, v11, rfl⟩, e1, e2, e3, e4, e5⟩
        have hi : i < (std t).length := by
          rcases Nat.lt_or_ge i (std t).length with h | h
          · exact h
          · rw [List.getElem?_eq_none (by rw [enumL_len, List.length_map]; exact h)] at ed; cases ed
        have e : (std t)[i]? = some (std t)[i] := List.getElem?_eq_getElem hi
        generalize (std t)[i] = nn at e
        rw [enumL_get (d := .int nn) (by rw [List.getElem?_map, e]; rfl), Nat.zero_add] at ed
        cases ed
        have len : ∀ a b : Nat → Int → Int, (fdic (prs a b 0 ((std t).take i))).length < sizeLine := fun a b => by rw [fdic_len, prs_len, List.length_take]; exact small1000 (by omega)
        have z1 := put_prs (fun _ n => n) (fun c _ => down9 ninth step c) (there_nd hnd) e
        have z2 := put_prs (fun c _ => down9 ninth step c) (fun _ n => n) (back_nd hst (std t)) e
        have z3 := put_prs (fun c _ => ((c + 1 : Nat) : Int)) (fun _ n => n) (home_nd (std t)) e
        refine ⟨hp9, .inl ⟨by omega, by omega⟩, _, _, rfl, e2, len _ _, ?_⟩
        refine ⟨hp9, .inl ⟨by omega, by omega⟩, _, _, rfl, by rw [updM_ne b1]; exact e3, len _ _, ?_⟩
        refine ⟨_, _, rfl, by rw [updM_ne c1, updM_ne c3]; exact e4, len _ _, ⟨_, _, rfl⟩, by rw [updM_ne dh, updM_ne db, updM_ne da]; exact e1, ?_, ?_, ?_, sub_upd (sub_upd (sub_upd e5 (free hla)) (free b2)) (free c4)⟩
        · rw [updM_ne (Ne.symm c3), updM_ne (Ne.symm b1), updM_same, ← z1]; rfl
        · rw [updM_ne (Ne.symm c1), updM_same, ← z2]; rfl
        · rw [updM_same, ← z3]; rfl
      · rintro τ M'' ⟨⟨v10, v11, rfl⟩, e1, e2, e3, e4, e5⟩
        rw [enumL_len, List.length_map, List.take_length] at e2 e3 e4
        have e2 : M'' la = some (.dic (fdic (fThere ninth step (std t)))) := e2
        have e3 : M'' lb = some (.dic (fdic (fBack ninth step (std t)))) := e3
        have e4 : M'' lh = some (.dic (fdic (fHome (std t)))) := e4
        obtain ⟨o1, o2⟩ := other_size (big := ninth) (step := step) (t := t)
        obtain ⟨p1, p2⟩ := exch_size _ (name_size (std t)) t
        have p1 : (plainT t).knots = t.knots := p1
        have p2 : (plainT t).depth = t.depth := p2
        have po := plain_other (big := ninth) (t := t) hst
        have ob := other_back (big := ninth) (t := t) hst
        have ph := plain_home (t := t)
        have bb := both_back (big := ninth) (t := t) hst
        refine ⟨t, la, _, rfl, by omega, by omega, .inl e2, ?_, ?_, ?_⟩
        · show (otherT ninth step t).knots ≤ 400; omega
        · show (otherT ninth step t).depth ≤ 60; omega
        have eo : exch (look (fThere ninth step (std t))) t = otherT ninth step t := rfl
        rw [eo]
        refine ⟨t, otherT ninth step t, rfl, ⟨by omega, by omega⟩, ⟨by omega, by omega⟩, po.symm, by rw [po]; omega, ?_⟩
        refine ⟨otherT ninth step t, rfl, by omega, by omega, t, rfl, by omega, by omega, _, _, rfl, by rw [po]; exact al_tree (plainT t) 150 (by omega) (by omega), ?_⟩
        refine ⟨otherT ninth step t, rfl, by omega, by omega, fun lx hlx => ?_⟩
        have hdx : ld ≠ lx := by intro z; subst z; rw [e1] at hlx; cases hlx
        refine ⟨(std t).map .int, by show updM _ lx _ ld = _; rw [updM_ne hdx]; exact e1, ⟨by rw [List.length_map]; omega, by rw [List.length_map]; omega⟩, ?_⟩
        have en : ((((std t).map D.int).length : Nat) : Int).toNat = (std t).length := by rw [List.length_map]; simp
        have sl := std_list (big := ninth) (t := t) hst
        refine ⟨by rw [List.length_map, List.length_range, en]; omega, stepD step, ?_, fun ly hly => ?_⟩
        · intro d hdm p3 acc hp3
          obtain ⟨i, hi, rfl⟩ := List.mem_map.mp hdm
          rw [List.mem_range, en] at hi
          exact ⟨fgtS, hp9, .inl ⟨by omega, by omega⟩, rfl, rfl⟩
        · rw [stepD_map, en, ← sl]
          have hxy : lx ≠ ly := by intro z; subst z; rw [updM_same] at hly; cases hly
          have slen : (std (otherT ninth step t)).length = (std t).length := by rw [sl, List.length_map, List.length_range]
          refine ⟨_, _, rfl, al_lst (n := 149) (xs := (std (otherT ninth step t)).map .int) (by rw [updM_ne hxy, updM_same]) updM_same (by rw [List.length_map, slen]; omega) fun x hx => by obtain ⟨k, _, rfl⟩ := List.mem_map.mp hx; exact al_int k, ?_⟩
          have hS : Sub M'' (updM (updM M'' lx (.lst ((inss [] (nums (otherT ninth step t))).map .int))) ly (.lst ((std (otherT ninth step t)).map .int))) := (Sub.new hlx).trans (Sub.new hly)
          generalize updM (updM M'' lx (.lst ((inss [] (nums (otherT ninth step t))).map .int))) ly (.lst ((std (otherT ninth step t)).map .int)) = M3 at *
          refine ⟨otherT ninth step t, rfl, by omega, t, rfl, by omega, ?_⟩
          rw [o1]
          show if (!decide ((t.knots : Int) = (t.knots : Int))) = true then _ else _
          rw [decide_eq_true rfl]
          refine ⟨otherT ninth step t, rfl, by omega, by omega, fun l1 h1 => ?_⟩
          refine ⟨t, rfl, by omega, by omega, fun l2 h2 => ?_⟩
          have h12 : l1 ≠ l2 := by intro z; subst z; rw [updM_same] at h2; cases h2
          have op := other_places (big := ninth) (step := step) (t := t)
          obtain ⟨r1, r2⟩ := rows_ok ((pre [] t).map (·.1))
          refine ⟨((pre [] (otherT ninth step t)).map (·.1)).map tupI, ((pre [] t).map (·.1)).map tupI, by show updM _ l2 _ l1 = _; rw [updM_ne h12, updM_same], updM_same, by rw [op]; exact r1, by rw [op]; omega, ?_⟩
          rw [op, rows_eq]
          rw [op] at h2
          have hS2 : Sub M'' (updM (updM M3 l1 (.lst (((pre [] t).map (·.1)).map tupI))) l2 (.lst (((pre [] t).map (·.1)).map tupI))) := (hS.trans (Sub.new h1)).trans (Sub.new h2)
          generalize updM (updM M3 l1 (.lst (((pre [] t).map (·.1)).map tupI))) l2 (.lst (((pre [] t).map (·.1)).map tupI)) = M4 at *
          have f2 := hS2 _ _ e2
          have f3 := hS2 _ _ e3
          have f4 := hS2 _ _ e4
          refine ⟨otherT ninth step t, lb, _, rfl, by omega, by omega, .inl f3, by rw [ob]; omega, by rw [ob]; omega, ?_⟩
          rw [ob]
          refine ⟨_, _, rfl, al_tree t 150 (by omega) (by omega), ?_⟩
          refine ⟨t, rfl, by omega, by omega, plainT t, lh, _, rfl, by omega, by omega, .inl f4, by rw [ph]; omega, by rw [ph]; omega, ?_⟩
          rw [ph]
          refine ⟨_, _, rfl, al_tree t 150 (by omega) (by omega), ?_⟩
          have bl : ∀ (f : Int → Option Tree), (∀ k u, f k = some u → ∃ j, u = .blank j) → ∀ u : Tree, (∃ j, u = .blank j) → (u.depth ≤ 60 ∧ u.knots ≤ 1000) ∧ (exch f u).knots ≤ 400 ∧ (exch f u).depth ≤ 60 := fun f hf u ⟨j, ej⟩ => by
            obtain ⟨s1, s2⟩ := exch_size f (fun k u e => by obtain ⟨j, rfl⟩ := hf k u e; rfl) u
            rw [s1, s2, ej]
            exact ⟨⟨by show 1 ≤ 60; decide, by show 1 ≤ 1000; decide⟩, by show 1 ≤ 400; decide, by show 1 ≤ 60; decide⟩
          have hbk : ∀ k u, look (fBack ninth step (std t)) k = some u → ∃ j, u = .blank j := fun k u e => prs_mem _ _ _ _ _ (look_mem e)
          refine ⟨la, lb, fThere ninth step (std t), fBack ninth step (std t), rfl, f2, f3, Ne.symm b1, there_nd hnd, back_nd hst _, ?_, fun z hz => bl _ hbk z.2 (prs_mem _ _ _ _ z hz), fun z hz => ?_, fun lz hlz => ?_⟩
          · have l1 : (fThere ninth step (std t)).length = (std t).length := prs_len _ _ _ _
            have l2 : (fBack ninth step (std t)).length = (std t).length := prs_len _ _ _ _
            omega
          · obtain ⟨j, ej⟩ := prs_mem _ _ _ _ z hz
            rw [ej]
            exact ⟨by show 1 ≤ 400; decide, by show 1 ≤ 60; decide⟩
          · refine ⟨t, lz, _, rfl, by omega, by omega, .inl updM_same, by rw [bb]; omega, by rw [bb]; omega, ?_⟩
            rw [bb]
            exact ⟨_, _, rfl, al_tree t 150 (by omega) (by omega), M, (e5.trans hS2).trans (Sub.new hlz), q⟩

-- TAIL
end
theorem all_mk {l : PySem.W.OpenLaw} {w : World} {K : PySem.W.Frag} {h : Heap} {mg : Str → Option Value} {fa : Addr} (X : K.In h) (G : h.Ns mainGlobals mg) (hfa : mg "law" = some (.ref fa))
    {od0 an0 : Option Addr} {sl0 : Array (Option Value)} {oc0 kV0 dc0 pm0 cd0 ct0 : Value} {f0 : Addr} {od1 an1 : Option Addr} {sl1 : Array (Option Value)} {oc1 kV1 dc1 pm1 cd1 ct1 : Value} {f1 : Addr} {od2 an2 : Option Addr} {sl2 : Array (Option Value)} {oc2 kV2 dc2 pm2 cd2 ct2 : Value} {f2 : Addr} {od3 an3 : Option Addr} {sl3 : Array (Option Value)} {oc3 kV3 dc3 pm3 cd3 ct3 : Value} {f3 : Addr} {od4 an4 : Option Addr} {sl4 : Array (Option Value)} {oc4 kV4 dc4 pm4 cd4 ct4 : Value} {f4 : Addr} {od5 an5 : Option Addr} {sl5 : Array (Option Value)} {oc5 kV5 dc5 pm5 cd5 ct5 : Value} {f5 : Addr} {od6 an6 : Option Addr} {sl6 : Array (Option Value)} {oc6 kV6 dc6 pm6 cd6 ct6 : Value} {f6 : Addr} {od7 an7 : Option Addr} {sl7 : Array (Option Value)} {oc7 kV7 dc7 pm7 cd7 ct7 : Value} {f7 : Addr} {od8 an8 : Option Addr} {sl8 : Array (Option Value)} {oc8 kV8 dc8 pm8 cd8 ct8 : Value} {f8 : Addr} {od9 an9 : Option Addr} {sl9 : Array (Option Value)} {oc9 kV9 dc9 pm9 cd9 ct9 : Value} {f9 : Addr} {od10 an10 : Option Addr} {sl10 : Array (Option Value)} {oc10 kV10 dc10 pm10 cd10 ct10 : Value} {f10 : Addr} {od11 an11 : Option Addr} {sl11 : Array (Option Value)} {oc11 kV11 dc11 pm11 cd11 ct11 : Value} {f11 : Addr} {od12 an12 : Option Addr} {sl12 : Array (Option Value)} {oc12 kV12 dc12 pm12 cd12 ct12 : Value} {f12 : Addr} {od13 an13 : Option Addr} {sl13 : Array (Option Value)} {oc13 kV13 dc13 pm13 cd13 ct13 : Value} {f13 : Addr} {od14 an14 : Option Addr} {sl14 : Array (Option Value)} {oc14 kV14 dc14 pm14 cd14 ct14 : Value} {f14 : Addr} {od15 an15 : Option Addr} {sl15 : Array (Option Value)} {oc15 kV15 dc15 pm15 cd15 ct15 : Value} {f15 : Addr} {od16 an16 : Option Addr} {sl16 : Array (Option Value)} {oc16 kV16 dc16 pm16 cd16 ct16 : Value} {f16 : Addr} {od17 an17 : Option Addr} {sl17 : Array (Option Value)} {oc17 kV17 dc17 pm17 cd17 ct17 : Value} {f17 : Addr} {od18 an18 : Option Addr} {sl18 : Array (Option Value)} {oc18 kV18 dc18 pm18 cd18 ct18 : Value} {f18 : Addr} {od19 an19 : Option Addr} {sl19 : Array (Option Value)} {oc19 kV19 dc19 pm19 cd19 ct19 : Value} {f19 : Addr} {od20 an20 : Option Addr} {sl20 : Array (Option Value)} {oc20 kV20 dc20 pm20 cd20 ct20 : Value} {f20 : Addr} {tk0 : Tok} {tk1 : Tok}
    (a0 : PySem.W.nsIn K mainGlobals "parts_of" = some (some (.ref f0))) (l0 : K.lookup f0 = some ⟨oc0, od0, .func (PySem.W.fnOf "parts_of" "parts_of" (defArgs s_parts_of) (defBody s_parts_of) (defScope s_parts_of) .none kV0 dc0 pm0 an0 cd0 ct0), sl0⟩) (c0 : PySem.W.codeIn K cd0 "parts_of" = true) (k0 : PySem.W.keepIn K (.ref f0) = true)
    (a1 : PySem.W.nsIn K mainGlobals "knots_of" = some (some (.ref f1))) (l1 : K.lookup f1 = some ⟨oc1, od1, .func (PySem.W.fnOf "knots_of" "knots_of" (defArgs s_knots_of) (defBody s_knots_of) (defScope s_knots_of) .none kV1 dc1 pm1 an1 cd1 ct1), sl1⟩) (c1 : PySem.W.codeIn K cd1 "knots_of" = true) (k1 : PySem.W.keepIn K (.ref f1) = true)
    (a2 : PySem.W.nsIn K mainGlobals "depth_of" = some (some (.ref f2))) (l2 : K.lookup f2 = some ⟨oc2, od2, .func (PySem.W.fnOf "depth_of" "depth_of" (defArgs s_depth_of) (defBody s_depth_of) (defScope s_depth_of) .none kV2 dc2 pm2 an2 cd2 ct2), sl2⟩) (c2 : PySem.W.codeIn K cd2 "depth_of" = true) (k2 : PySem.W.keepIn K (.ref f2) = true)
    (a3 : PySem.W.nsIn K mainGlobals "gather_places" = some (some (.ref f3))) (l3 : K.lookup f3 = some ⟨oc3, od3, .func (PySem.W.fnOf "gather_places" "gather_places" (defArgs s_gather_places) (defBody s_gather_places) (defScope s_gather_places) .none kV3 dc3 pm3 an3 cd3 ct3), sl3⟩) (c3 : PySem.W.codeIn K cd3 "gather_places" = true) (k3 : PySem.W.keepIn K (.ref f3) = true)
    (a4 : PySem.W.nsIn K mainGlobals "places_of" = some (some (.ref f4))) (l4 : K.lookup f4 = some ⟨oc4, od4, .func (PySem.W.fnOf "places_of" "places_of" (defArgs s_places_of) (defBody s_places_of) (defScope s_places_of) .none kV4 dc4 pm4 an4 cd4 ct4), sl4⟩) (c4 : PySem.W.codeIn K cd4 "places_of" = true) (k4 : PySem.W.keepIn K (.ref f4) = true)
    (a5 : PySem.W.nsIn K mainGlobals "gather_blanks" = some (some (.ref f5))) (l5 : K.lookup f5 = some ⟨oc5, od5, .func (PySem.W.fnOf "gather_blanks" "gather_blanks" (defArgs s_gather_blanks) (defBody s_gather_blanks) (defScope s_gather_blanks) .none kV5 dc5 pm5 an5 cd5 ct5), sl5⟩) (c5 : PySem.W.codeIn K cd5 "gather_blanks" = true) (k5 : PySem.W.keepIn K (.ref f5) = true)
    (a6 : PySem.W.nsIn K mainGlobals "blanks_of" = some (some (.ref f6))) (l6 : K.lookup f6 = some ⟨oc6, od6, .func (PySem.W.fnOf "blanks_of" "blanks_of" (defArgs s_blanks_of) (defBody s_blanks_of) (defScope s_blanks_of) .none kV6 dc6 pm6 an6 cd6 ct6), sl6⟩) (c6 : PySem.W.codeIn K cd6 "blanks_of" = true) (k6 : PySem.W.keepIn K (.ref f6) = true)
    (a7 : PySem.W.nsIn K mainGlobals "exchanged" = some (some (.ref f7))) (l7 : K.lookup f7 = some ⟨oc7, od7, .func (PySem.W.fnOf "exchanged" "exchanged" (defArgs s_exchanged) (defBody s_exchanged) (defScope s_exchanged) .none kV7 dc7 pm7 an7 cd7 ct7), sl7⟩) (c7 : PySem.W.codeIn K cd7 "exchanged" = true) (k7 : PySem.W.keepIn K (.ref f7) = true)
    (a8 : PySem.W.nsIn K mainGlobals "refuse_too_great" = some (some (.ref f8))) (l8 : K.lookup f8 = some ⟨oc8, od8, .func (PySem.W.fnOf "refuse_too_great" "refuse_too_great" (defArgs s_refuse_too_great) (defBody s_refuse_too_great) (defScope s_refuse_too_great) .none kV8 dc8 pm8 an8 cd8 ct8), sl8⟩) (c8 : PySem.W.codeIn K cd8 "refuse_too_great" = true) (k8 : PySem.W.keepIn K (.ref f8) = true)
    (a9 : PySem.W.nsIn K mainGlobals "filled" = some (some (.ref f9))) (l9 : K.lookup f9 = some ⟨oc9, od9, .func (PySem.W.fnOf "filled" "filled" (defArgs s_filled) (defBody s_filled) (defScope s_filled) .none kV9 dc9 pm9 an9 cd9 ct9), sl9⟩) (c9 : PySem.W.codeIn K cd9 "filled" = true) (k9 : PySem.W.keepIn K (.ref f9) = true)
    (a10 : PySem.W.nsIn K mainGlobals "one_behind" = some (some (.ref f10))) (l10 : K.lookup f10 = some ⟨oc10, od10, .func (PySem.W.fnOf "one_behind" "one_behind" (defArgs s_one_behind) (defBody s_one_behind) (defScope s_one_behind) .none kV10 dc10 pm10 an10 cd10 ct10), sl10⟩) (c10 : PySem.W.codeIn K cd10 "one_behind" = true) (k10 : PySem.W.keepIn K (.ref f10) = true)
    (a11 : PySem.W.nsIn K mainGlobals "plain" = some (some (.ref f11))) (l11 : K.lookup f11 = some ⟨oc11, od11, .func (PySem.W.fnOf "plain" "plain" (defArgs s_plain) (defBody s_plain) (defScope s_plain) .none kV11 dc11 pm11 an11 cd11 ct11), sl11⟩) (c11 : PySem.W.codeIn K cd11 "plain" = true) (k11 : PySem.W.keepIn K (.ref f11) = true)
    (a12 : PySem.W.nsIn K mainGlobals "alike" = some (some (.ref f12))) (l12 : K.lookup f12 = some ⟨oc12, od12, .func (PySem.W.fnOf "alike" "alike" (defArgs s_alike) (defBody s_alike) (defScope s_alike) .none kV12 dc12 pm12 an12 cd12 ct12), sl12⟩) (c12 : PySem.W.codeIn K cd12 "alike" = true) (k12 : PySem.W.keepIn K (.ref f12) = true)
    (a13 : PySem.W.nsIn K mainGlobals "_law_cell_at" = some (some (.ref f13))) (l13 : K.lookup f13 = some ⟨oc13, od13, .func (PySem.W.fnOf "_law_cell_at" "_law_cell_at" (defArgs s__law_cell_at) (defBody s__law_cell_at) (defScope s__law_cell_at) .none kV13 dc13 pm13 an13 cd13 ct13), sl13⟩) (c13 : PySem.W.codeIn K cd13 "_law_cell_at" = true) (k13 : PySem.W.keepIn K (.ref f13) = true)
    (a14 : PySem.W.nsIn K mainGlobals "_law_draw" = some (some (.ref f14))) (l14 : K.lookup f14 = some ⟨oc14, od14, .func (PySem.W.fnOf "_law_draw" "_law_draw" (defArgs s__law_draw) (defBody s__law_draw) (defScope s__law_draw) .none kV14 dc14 pm14 an14 cd14 ct14), sl14⟩) (c14 : PySem.W.codeIn K cd14 "_law_draw" = true) (k14 : PySem.W.keepIn K (.ref f14) = true)
    (a15 : PySem.W.nsIn K mainGlobals "_law_alike" = some (some (.ref f15))) (l15 : K.lookup f15 = some ⟨oc15, od15, .func (PySem.W.fnOf "_law_alike" "_law_alike" (defArgs s__law_alike) (defBody s__law_alike) (defScope s__law_alike) .none kV15 dc15 pm15 an15 cd15 ct15), sl15⟩) (c15 : PySem.W.codeIn K cd15 "_law_alike" = true) (k15 : PySem.W.keepIn K (.ref f15) = true)
    (a16 : PySem.W.nsIn K mainGlobals "_law_names" = some (some (.ref f16))) (l16 : K.lookup f16 = some ⟨oc16, od16, .func (PySem.W.fnOf "_law_names" "_law_names" (defArgs s__law_names) (defBody s__law_names) (defScope s__law_names) .none kV16 dc16 pm16 an16 cd16 ct16), sl16⟩) (c16 : PySem.W.codeIn K cd16 "_law_names" = true) (k16 : PySem.W.keepIn K (.ref f16) = true)
    (a17 : PySem.W.nsIn K mainGlobals "_law_leaf" = some (some (.ref f17))) (l17 : K.lookup f17 = some ⟨oc17, od17, .func (PySem.W.fnOf "_law_leaf" "_law_leaf" (defArgs s__law_leaf) (defBody s__law_leaf) (defScope s__law_leaf) .none kV17 dc17 pm17 an17 cd17 ct17), sl17⟩) (c17 : PySem.W.codeIn K cd17 "_law_leaf" = true) (k17 : PySem.W.keepIn K (.ref f17) = true)
    (a18 : PySem.W.nsIn K mainGlobals "_law_tree" = some (some (.ref f18))) (l18 : K.lookup f18 = some ⟨oc18, od18, .func (PySem.W.fnOf "_law_tree" "_law_tree" (defArgs s__law_tree) (defBody s__law_tree) (defScope s__law_tree) .none kV18 dc18 pm18 an18 cd18 ct18), sl18⟩) (c18 : PySem.W.codeIn K cd18 "_law_tree" = true) (k18 : PySem.W.keepIn K (.ref f18) = true)
    (a19 : PySem.W.nsIn K mainGlobals "_law_places" = some (some (.ref f19))) (l19 : K.lookup f19 = some ⟨oc19, od19, .func (PySem.W.fnOf "_law_places" "_law_places" (defArgs s__law_places) (defBody s__law_places) (defScope s__law_places) .none kV19 dc19 pm19 an19 cd19 ct19), sl19⟩) (c19 : PySem.W.codeIn K cd19 "_law_places" = true) (k19 : PySem.W.keepIn K (.ref f19) = true)
    (a20 : PySem.W.nsIn K mainGlobals "law" = some (some (.ref f20))) (l20 : K.lookup f20 = some ⟨oc20, od20, .func (PySem.W.fnOf "law" "law" (defArgs s_law) (defBody s_law) (defScope s_law) .none kV20 dc20 pm20 an20 cd20 ct20), sl20⟩) (c20 : PySem.W.codeIn K cd20 "law" = true) (k20 : PySem.W.keepIn K (.ref f20) = true)
    (z0 : PySem.W.nsIn K mainGlobals "bool" = some none)
    (z1 : PySem.W.nsIn K mainGlobals "enumerate" = some none)
    (z2 : PySem.W.nsIn K mainGlobals "int" = some none)
    (z3 : PySem.W.nsIn K mainGlobals "isinstance" = some none)
    (z4 : PySem.W.nsIn K mainGlobals "len" = some none)
    (z5 : PySem.W.nsIn K mainGlobals "list" = some none)
    (z6 : PySem.W.nsIn K mainGlobals "max" = some none)
    (z7 : PySem.W.nsIn K mainGlobals "min" = some none)
    (z8 : PySem.W.nsIn K mainGlobals "range" = some none)
    (z9 : PySem.W.nsIn K mainGlobals "str" = some none)
    (z10 : PySem.W.nsIn K mainGlobals "tuple" = some none)
    (y0 : PySem.W.nsIn K mainGlobals "MOST_TOLD_DEPTH" = some (some (.int 60 tk0)))
    (y1 : PySem.W.nsIn K mainGlobals "MOST_TOLD_KNOTS" = some (some (.int 400 tk1)))
    : ∃ fd : FuncData, (∀ (s : Shared) (v : Value), BindsTo s fd ⟨[v], []⟩ [("script", v)]) ∧ ∀ base : Heap, K.In base → base.Ns mainGlobals mg → FnOk l.prog w K mg base CX0 kLaw fa fd ["script"] (lowSp K spLaw) := by
  have e := hfa.symm.trans (PySem.W.mg_of X G a20)
  cases e
  have F0 := fun_mk (st := s_parts_of) l0 c0 k0
  have b0 := F0.binds (ps := ["tree"]) fun _ _ _ _ _ _ us hl => match us, hl with | [_], _ => rfl
  have F1 := fun_mk (st := s_knots_of) l1 c1 k1
  have b1 := F1.binds (ps := ["tree"]) fun _ _ _ _ _ _ us hl => match us, hl with | [_], _ => rfl
  have F2 := fun_mk (st := s_depth_of) l2 c2 k2
  have b2 := F2.binds (ps := ["tree"]) fun _ _ _ _ _ _ us hl => match us, hl with | [_], _ => rfl
  have F3 := fun_mk (st := s_gather_places) l3 c3 k3
  have b3 := F3.binds (ps := ["tree", "place", "places"]) fun _ _ _ _ _ _ us hl => match us, hl with | [_, _, _], _ => rfl
  have F4 := fun_mk (st := s_places_of) l4 c4 k4
  have b4 := F4.binds (ps := ["tree"]) fun _ _ _ _ _ _ us hl => match us, hl with | [_], _ => rfl
  have F5 := fun_mk (st := s_gather_blanks) l5 c5 k5
  have b5 := F5.binds (ps := ["tree", "found"]) fun _ _ _ _ _ _ us hl => match us, hl with | [_, _], _ => rfl
  have F6 := fun_mk (st := s_blanks_of) l6 c6 k6
  have b6 := F6.binds (ps := ["tree"]) fun _ _ _ _ _ _ us hl => match us, hl with | [_], _ => rfl
  have F7 := fun_mk (st := s_exchanged) l7 c7 k7
  have b7 := F7.binds (ps := ["tree", "filling"]) fun _ _ _ _ _ _ us hl => match us, hl with | [_, _], _ => rfl
  have F8 := fun_mk (st := s_refuse_too_great) l8 c8 k8
  have b8 := F8.binds (ps := ["tree"]) fun _ _ _ _ _ _ us hl => match us, hl with | [_], _ => rfl
  have F9 := fun_mk (st := s_filled) l9 c9 k9
  have b9 := F9.binds (ps := ["tree", "filling"]) fun _ _ _ _ _ _ us hl => match us, hl with | [_, _], _ => rfl
  have F10 := fun_mk (st := s_one_behind) l10 c10 k10
  have b10 := F10.binds (ps := ["one", "other"]) fun _ _ _ _ _ _ us hl => match us, hl with | [_, _], _ => rfl
  have F11 := fun_mk (st := s_plain) l11 c11 k11
  have b11 := F11.binds (ps := ["tree"]) fun _ _ _ _ _ _ us hl => match us, hl with | [_], _ => rfl
  have F12 := fun_mk (st := s_alike) l12 c12 k12
  have b12 := F12.binds (ps := ["one", "other"]) fun _ _ _ _ _ _ us hl => match us, hl with | [_, _], _ => rfl
  have F13 := fun_mk (st := s__law_cell_at) l13 c13 k13
  have b13 := F13.binds (ps := ["script", "k"]) fun _ _ _ _ _ _ us hl => match us, hl with | [_, _], _ => rfl
  have F14 := fun_mk (st := s__law_draw) l14 c14 k14
  have b14 := F14.binds (ps := ["cell", "k", "many"]) fun _ _ _ _ _ _ us hl => match us, hl with | [_, _, _], _ => rfl
  have F15 := fun_mk (st := s__law_alike) l15 c15 k15
  have b15 := F15.binds (ps := ["found", "due"]) fun _ _ _ _ _ _ us hl => match us, hl with | [_, _], _ => rfl
  have F16 := fun_mk (st := s__law_names) l16 c16 k16
  have b16 := F16.binds (ps := ["cell"]) fun _ _ _ _ _ _ us hl => match us, hl with | [_], _ => rfl
  have F17 := fun_mk (st := s__law_leaf) l17 c17 k17
  have b17 := F17.binds (ps := ["cell", "first", "names", "shares"]) fun _ _ _ _ _ _ us hl => match us, hl with | [_, _, _, _], _ => rfl
  have F18 := fun_mk (st := s__law_tree) l18 c18 k18
  have b18 := F18.binds (ps := ["cells", "first", "shares"]) fun _ _ _ _ _ _ us hl => match us, hl with | [_, _, _], _ => rfl
  have F19 := fun_mk (st := s__law_places) l19 c19 k19
  have b19 := F19.binds (ps := ["tree"]) fun _ _ _ _ _ _ us hl => match us, hl with | [_], _ => rfl
  have TX : Txt K mg := { f_parts_of := ⟨_, _, F0, b0, PySem.W.mg_of X G a0⟩, f_knots_of := ⟨_, _, F1, b1, PySem.W.mg_of X G a1⟩, f_depth_of := ⟨_, _, F2, b2, PySem.W.mg_of X G a2⟩, f_gather_places := ⟨_, _, F3, b3, PySem.W.mg_of X G a3⟩, f_places_of := ⟨_, _, F4, b4, PySem.W.mg_of X G a4⟩, f_gather_blanks := ⟨_, _, F5, b5, PySem.W.mg_of X G a5⟩, f_blanks_of := ⟨_, _, F6, b6, PySem.W.mg_of X G a6⟩, f_exchanged := ⟨_, _, F7, b7, PySem.W.mg_of X G a7⟩, f_refuse_too_great := ⟨_, _, F8, b8, PySem.W.mg_of X G a8⟩, f_filled := ⟨_, _, F9, b9, PySem.W.mg_of X G a9⟩, f_one_behind := ⟨_, _, F10, b10, PySem.W.mg_of X G a10⟩, f_plain := ⟨_, _, F11, b11, PySem.W.mg_of X G a11⟩, f_alike := ⟨_, _, F12, b12, PySem.W.mg_of X G a12⟩, f__law_cell_at := ⟨_, _, F13, b13, PySem.W.mg_of X G a13⟩, f__law_draw := ⟨_, _, F14, b14, PySem.W.mg_of X G a14⟩, f__law_alike := ⟨_, _, F15, b15, PySem.W.mg_of X G a15⟩, f__law_names := ⟨_, _, F16, b16, PySem.W.mg_of X G a16⟩, f__law_leaf := ⟨_, _, F17, b17, PySem.W.mg_of X G a17⟩, f__law_tree := ⟨_, _, F18, b18, PySem.W.mg_of X G a18⟩, f__law_places := ⟨_, _, F19, b19, PySem.W.mg_of X G a19⟩, m_bool := PySem.W.mg_none_of X G z0, m_enumerate := PySem.W.mg_none_of X G z1, m_int := PySem.W.mg_none_of X G z2, m_isinstance := PySem.W.mg_none_of X G z3, m_len := PySem.W.mg_none_of X G z4, m_list := PySem.W.mg_none_of X G z5, m_max := PySem.W.mg_none_of X G z6, m_min := PySem.W.mg_none_of X G z7, m_range := PySem.W.mg_none_of X G z8, m_str := PySem.W.mg_none_of X G z9, m_tuple := PySem.W.mg_none_of X G z10, g_MOST_TOLD_DEPTH := ⟨_, PySem.W.mg_of X G y0⟩, g_MOST_TOLD_KNOTS := ⟨_, PySem.W.mg_of X G y1⟩ }
  refine ⟨PySem.W.fnOf "law" "law" (defArgs s_law) (defBody s_law) (defScope s_law) .none kV20 dc20 pm20 an20 cd20 ct20, fun s v => .of_eq rfl, fun base _ _ => ?_⟩
  exact ok_law TX (fun_mk (st := s_law) l20 c20 k20)
theorem walk {l : PySem.W.OpenLaw} {q : Program} {loose : List Str} {XP : (Str → Option Value) → Heap → Prop} {YP : World → Heap → Prop} {d : DefRec} {K : Params → PySem.W.Frag} (hn : l.most = some 63) (hdf : d.params.defaults = [])
    (hY : ∀ (w : World) (h : Heap), YP w h → (K w.params).In h)
    (F : ∀ (w : World) (mg : Str → Option Value) (fa : Addr) (h : Heap), (K w.params).In h → h.Ns mainGlobals mg → mg d.name = some (.ref fa) →
      ∃ fd : FuncData, (∀ (s : Shared) (u : Value), BindsTo s fd ⟨[u], []⟩ [("script", u)]) ∧ ∀ base : Heap, (K w.params).In base → base.Ns mainGlobals mg → FnOk l.prog w (K w.params) mg base CX0 kLaw fa fd ["script"] (lowSp (K w.params) spLaw)) :
    PySem.W.WalkO q loose XP YP l.row.toRowW d [] (fun f vs => PySem.call f vs) :=
  L2.walk_of (n := 63) (k := kLaw) (x := "script") (CX := fun _ => CX0) (sp := fun w => lowSp (K w.params) spLaw) hn (by decide) hdf ⟨rfl, by decide, by decide⟩ hY F (fun _ _ a ns hl hO hS => law_low hO hl hS) fun _ _ _ _ _ z => z
end Law
open PySem PySem.W PyProof.Rows
set_option maxRecDepth 100000 in
set_option maxHeartbeats 0 in
theorem PySem.Challenge.cw_commonform_k21_whole_renamed_and_back_holds : PySem.Challenge.rw_commonform_k21_whole_renamed_and_back.Holds := by
  w_on; o_law; k_head; (case hw => w_witness2)
  k_fill
  refine Law.walk (l := PySem.Challenge.rw_commonform_k21_whole_renamed_and_back) rfl rfl (fun w h Y => PySem.W.kIn_of Y) ?F
  case F =>
    intro w mg fa h KX G hmg
    refine' Law.all_mk KX G hmg ?a0 ?l0 ?c0 ?k0 ?a1 ?l1 ?c1 ?k1 ?a2 ?l2 ?c2 ?k2 ?a3 ?l3 ?c3 ?k3 ?a4 ?l4 ?c4 ?k4 ?a5 ?l5 ?c5 ?k5 ?a6 ?l6 ?c6 ?k6 ?a7 ?l7 ?c7 ?k7 ?a8 ?l8 ?c8 ?k8 ?a9 ?l9 ?c9 ?k9 ?a10 ?l10 ?c10 ?k10 ?a11 ?l11 ?c11 ?k11 ?a12 ?l12 ?c12 ?k12 ?a13 ?l13 ?c13 ?k13 ?a14 ?l14 ?c14 ?k14 ?a15 ?l15 ?c15 ?k15 ?a16 ?l16 ?c16 ?k16 ?a17 ?l17 ?c17 ?k17 ?a18 ?l18 ?c18 ?k18 ?a19 ?l19 ?c19 ?k19 ?a20 ?l20 ?c20 ?k20 ?z0 ?z1 ?z2 ?z3 ?z4 ?z5 ?z6 ?z7 ?z8 ?z9 ?z10 ?y0 ?y1
    (case a0 => k_is)
    (case l0 => k_is)
    (case c0 => k_is)
    (case k0 => k_is)
    (case a1 => k_is)
    (case l1 => k_is)
    (case c1 => k_is)
    (case k1 => k_is)
    (case a2 => k_is)
    (case l2 => k_is)
    (case c2 => k_is)
    (case k2 => k_is)
    (case a3 => k_is)
    (case l3 => k_is)
    (case c3 => k_is)
    (case k3 => k_is)
    (case a4 => k_is)
    (case l4 => k_is)
    (case c4 => k_is)
    (case k4 => k_is)
    (case a5 => k_is)
    (case l5 => k_is)
    (case c5 => k_is)
    (case k5 => k_is)
    (case a6 => k_is)
    (case l6 => k_is)
    (case c6 => k_is)
    (case k6 => k_is)
    (case a7 => k_is)
    (case l7 => k_is)
    (case c7 => k_is)
    (case k7 => k_is)
    (case a8 => k_is)
    (case l8 => k_is)
    (case c8 => k_is)
    (case k8 => k_is)
    (case a9 => k_is)
    (case l9 => k_is)
    (case c9 => k_is)
    (case k9 => k_is)
    (case a10 => k_is)
    (case l10 => k_is)
    (case c10 => k_is)
    (case k10 => k_is)
    (case a11 => k_is)
    (case l11 => k_is)
    (case c11 => k_is)
    (case k11 => k_is)
    (case a12 => k_is)
    (case l12 => k_is)
    (case c12 => k_is)
    (case k12 => k_is)
    (case a13 => k_is)
    (case l13 => k_is)
    (case c13 => k_is)
    (case k13 => k_is)
    (case a14 => k_is)
    (case l14 => k_is)
    (case c14 => k_is)
    (case k14 => k_is)
    (case a15 => k_is)
    (case l15 => k_is)
    (case c15 => k_is)
    (case k15 => k_is)
    (case a16 => k_is)
    (case l16 => k_is)
    (case c16 => k_is)
    (case k16 => k_is)
    (case a17 => k_is)
    (case l17 => k_is)
    (case c17 => k_is)
    (case k17 => k_is)
    (case a18 => k_is)
    (case l18 => k_is)
    (case c18 => k_is)
    (case k18 => k_is)
    (case a19 => k_is)
    (case l19 => k_is)
    (case c19 => k_is)
    (case k19 => k_is)
    (case a20 => k_is)
    (case l20 => k_is)
    (case c20 => k_is)
    (case k20 => k_is)
    (case z0 => k_is)
    (case z1 => k_is)
    (case z2 => k_is)
    (case z3 => k_is)
    (case z4 => k_is)
    (case z5 => k_is)
    (case z6 => k_is)
    (case z7 => k_is)
    (case z8 => k_is)
    (case z9 => k_is)
    (case z10 => k_is)
    (case y0 => k_is)
    (case y1 => k_is)
