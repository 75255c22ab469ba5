import PyProof.Rows.All
import Wide.All
import OpenK.AllK
import Wide.FinOn
import Lean
import PyProof.EqAt
import PyProof.EqKinds
import PyProof.TupleCall
import KE.KIntText
import PySem.Challenge.RW_commonform_k61_refused_once
set_option Elab.async false
set_option linter.all false
set_option maxRecDepth 100000
namespace L2
open PySem PySem.Spec PyProof.Rows
noncomputable abbrev Key := Sum Int Str
noncomputable def keyIs : Key → Value → Bool
  | .inl k, v => Value.isInt k v
  | .inr x, v => Value.isStrOf x v
noncomputable def keyH (w : World) : Key → Int
  | .inl k => hashInt k
  | .inr x => hashStr w x
theorem keyIs_shape : ∀ {k : Key} {v : Value}, keyIs k v = true → (∃ i t, k = Sum.inl i ∧ v = Value.int i t) ∨ (∃ x t, k = Sum.inr x ∧ v = Value.str x t)
  | .inl i, v, h => by
    obtain ⟨t, e⟩ := Value.isInt_shape (k := i) (v := v) h
    exact .inl ⟨i, t, rfl, e⟩
  | .inr x, v, h => by
    obtain ⟨t, e⟩ := Value.isStrOf_shape (x := x) (v := v) h
    exact .inr ⟨x, t, rfl, e⟩
theorem keyIs_int (i : Int) (t : Tok) : keyIs (.inl i) (.int i t) = true := by simp [keyIs, Value.isInt]
theorem keyIs_str (x : Str) (t : Tok) : keyIs (.inr x) (.str x t) = true := by simp [keyIs, Value.isStrOf]
theorem key_ll (a b : Int) : decide ((Sum.inl a : Key) = Sum.inl b) = (a == b) := by
  by_cases e : a = b
  · subst e; simp
  · have h : ¬ (Sum.inl a : Key) = Sum.inl b := fun q => e (Sum.inl.inj q)
    rw [decide_eq_false h]
    exact (beq_eq_false_iff_ne.mpr e).symm
theorem key_rr (a b : Str) : decide ((Sum.inr a : Key) = Sum.inr b) = decide (a = b) := by
  by_cases e : a = b
  · subst e; simp
  · have h : ¬ (Sum.inr a : Key) = Sum.inr b := fun q => e (Sum.inr.inj q)
    rw [decide_eq_false h, decide_eq_false e]
theorem key_lr (a : Int) (b : Str) : decide ((Sum.inl a : Key) = Sum.inr b) = false := decide_eq_false (fun q => nomatch q)
theorem key_rl (a : Str) (b : Int) : decide ((Sum.inr a : Key) = Sum.inl b) = false := decide_eq_false (fun q => nomatch q)
noncomputable def mixKind (prog : Program) (w : World) : PySem.KeyKind prog w Key where
  is := keyIs
  hash := keyH w
  inj := fun v a b ha hb => by
    rcases keyIs_shape ha with ⟨i, t, rfl, rfl⟩ | ⟨x, t, rfl, rfl⟩
    · rcases keyIs_shape hb with ⟨j, u, rfl, e⟩ | ⟨y, u, rfl, e⟩
      · injection e with e1 _; rw [e1]
      · exact nomatch e
    · rcases keyIs_shape hb with ⟨j, u, rfl, e⟩ | ⟨y, u, rfl, e⟩
      · exact nomatch e
      · injection e with e1 _; rw [e1]
  byValue := fun k v h => by
    rcases keyIs_shape h with ⟨i, t, rfl, rfl⟩ | ⟨x, t, rfl, rfl⟩ <;> rfl
  pyHash := fun hv h => by
    rcases keyIs_shape hv with ⟨i, t, rfl, rfl⟩ | ⟨x, t, rfl, rfl⟩
    · exact wpAny_pyHash_int h
    · exact wpAny_pyHash_str h
  eqBool := fun hu hv h => by
    rcases keyIs_shape hu with ⟨i, t, rfl, rfl⟩ | ⟨x, t, rfl, rfl⟩
    · rcases keyIs_shape hv with ⟨j, u, rfl, rfl⟩ | ⟨y, u, rfl, rfl⟩
      · rw [key_ll] at h; exact wpAny_eqBool_int h
      · rw [key_lr] at h; exact SeqAt.EqAt.int_str i t y u _ _ _ _ h
    · rcases keyIs_shape hv with ⟨j, u, rfl, rfl⟩ | ⟨y, u, rfl, rfl⟩
      · rw [key_rl] at h; exact SeqAt.EqAt.str_int x t j u _ _ _ _ h
      · rw [key_rr] at h; exact wpAny_eqBool_str h
  «strs» := fun k x t v h => by
    rcases keyIs_shape h with ⟨i, u, rfl, e⟩ | ⟨y, u, rfl, e⟩
    · exact nomatch e
    · injection e with e1 _
      subst e1
      cases v <;> rfl
theorem mixKind_int (prog : Program) (w : World) (i : Int) (t : Tok) : (mixKind prog w).is (.inl i) (.int i t) = true := keyIs_int i t
theorem mixKind_str (prog : Program) (w : World) (x : Str) (t : Tok) : (mixKind prog w).is (.inr x) (.str x t) = true := keyIs_str x t
end L2
namespace L2
open PySem PySem.Spec PyProof.Rows
inductive V where
  | non | bl (b : Bool) | int (i : Int) | str (x : Str) | byt (b : Array UInt8) | flt (b : UInt64) | ref (a : Addr) | ty (n : String)
  deriving DecidableEq
noncomputable def RelV : V → Value → Prop
  | .non, u => u = Value.none
  | .bl b, u => u = Value.bool b
  | .int i, u => ∃ t, u = Value.int i t
  | .str x, u => ∃ t, u = Value.str x t
  | .byt b, u => ∃ t, u = Value.bytes b t
  | .flt b, u => ∃ t, u = Value.float b t
  | .ref a, u => u = Value.ref a
  | .ty n, u => u = Value.type n
noncomputable abbrev Vals : List V → List Value → Prop := Paired RelV
theorem Vals.length {xs : List V} {us : List Value} (r : Vals xs us) : xs.length = us.length := Paired.length r
theorem Vals.get : ∀ {xs : List V} {us : List Value} {i : Nat} {x : V}, Vals xs us → xs[i]? = some x → ∃ u, us[i]? = some u ∧ RelV x u
  | _, _, _, _, .nil, e => by simp at e
  | _, _, 0, _, .cons r _, e => by simp at e; subst e; exact ⟨_, rfl, r⟩
  | _, _, i + 1, x, .cons _ t, e => by
    obtain ⟨u, h1, h2⟩ := Vals.get (i := i) (x := x) t (by simpa using e)
    exact ⟨u, by simpa using h1, h2⟩
theorem Vals.set {x : V} {u : Value} (r : RelV x u) : ∀ {xs : List V} {us : List Value} (i : Nat), Vals xs us → Vals (xs.set i x) (us.set i u)
  | _, _, _, .nil => .nil
  | _, _, 0, .cons _ t => .cons r t
  | _, _, i + 1, .cons q t => .cons q (Vals.set r i t)
theorem Vals.append {xs ys : List V} {us ws : List Value} (h : Vals xs us) (s : Vals ys ws) : Vals (xs ++ ys) (us ++ ws) := by
  induction h with
  | nil => exact s
  | cons r t ih => exact .cons r ih
theorem Vals.take {xs : List V} {us : List Value} (n : Nat) (h : Vals xs us) : Vals (xs.take n) (us.take n) := by
  induction h generalizing n with
  | nil => cases n <;> exact .nil
  | cons r t ih => cases n with
    | zero => exact .nil
    | succ n => exact .cons r (ih n)
theorem Vals.drop {xs : List V} {us : List Value} (n : Nat) (h : Vals xs us) : Vals (xs.drop n) (us.drop n) := by
  induction h generalizing n with
  | nil => cases n <;> exact .nil
  | cons r t ih => cases n with
    | zero => exact .cons r t
    | succ n => exact ih n
noncomputable def RelO : Option V → Option Value → Prop
  | some v, some u => RelV v u
  | none, none => True
  | _, _ => False
noncomputable def KV {κ : Type} : List (κ × V) → List (κ × Value) → Prop := Paired fun (p : κ × V) (q : κ × Value) => p.1 = q.1 ∧ RelV p.2 q.2
noncomputable def kV : Key → V
  | .inl i => .int i
  | .inr x => .str x
inductive HO where
  | lst (xs : List V)
  | tup (xs : List V)
  | dK (kvs : List (Key × V)) | dT (kvs : List (List Key × V))
  | set (S : Int → Bool) (n : Nat)
  | ins (C dx : Addr) (fs : List (Str × V))
  | own (x : Addr)
  | xd (fs : List (Str × V))
  | met (f x : Addr)
  | rng (lo hi : Int)
  | frz (o : Obj) (u : HO)
  | tbl (ps : Array Value)
  | ext (φ : Heap → Prop)
noncomputable abbrev Hp := Addr → Option HO
noncomputable def upd (H : Hp) (a : Addr) (o : HO) : Hp := fun b => if b = a then some o else H b
theorem upd_same {H : Hp} {a : Addr} {o : HO} : upd H a o a = some o := by unfold upd; rw [if_pos rfl]
theorem upd_ne {H : Hp} {a b : Addr} {o : HO} (h : b ≠ a) : upd H a o b = H b := by unfold upd; rw [if_neg h]
theorem ne_of {H : Hp} {a b : Addr} {o u : HO} (h : H a = some o) (h' : H b = some u) (d : o ≠ u) : a ≠ b := by
  intro e; subst e; rw [h] at h'; exact d (Option.some.inj h')
theorem ne_of_none {H : Hp} {a b : Addr} {o : HO} (h : H a = some o) (h' : H b = none) : a ≠ b := by
  intro e; subst e; rw [h] at h'; cases h'
section
variable (P : Program) (w : World)
noncomputable def ObjOk (H : Hp) (h : Heap) (a : Addr) : HO → Prop
  | .lst xs => xs.length ≤ sizeLine ∧ ∃ (its : List Value) (n : Nat), Vals xs its ∧ h.get? a = some { cls := .type "list", data := .seq its.toArray n }
  | .tup xs => xs.length ≤ sizeLine ∧ ∃ its : List Value, Vals xs its ∧ IsTup h a its.toArray
  | .dK kvs => kvs.length ≤ sizeLine ∧ (a == sysModules) = false ∧ ∃ vs, KV kvs vs ∧ h.DictOf (mixKind P w) a vs
  | .dT kvs => kvs.length ≤ sizeLine ∧ (a == sysModules) = false ∧ ∃ xs : List (List Key × Addr × Value),
      Paired (fun (p : List Key × V) (q : List Key × Addr × Value) => p.1 = q.1 ∧ H q.2.1 = some (.tup (p.1.map kV)) ∧ RelV p.2 q.2.2) kvs xs ∧
      ∃ o es ep, h.get? a = some o ∧ o.ExactDict ∧ o.data = .dict es ep ∧ es.toList = xs.map (entryOfKey (tupleKind (mixKind P w))) ∧ (xs.map (·.1)).Nodup
  | .set S n => h.SetOf (intKind P w) a S n
  | .ins C dx fs => H dx = some (.own a) ∧ fs.length ≤ 1000 ∧ dx ≠ a ∧ h.get? a = some (PySem.W.instObj C dx) ∧
      ∃ mA, h.Ns1 dx mA ∧ (∀ f, RelO (fs.lookup f) (mA f)) ∧ PySem.Within mA (fs.map (·.1))
  | .own _ => ∃ o, h.get? a = some o
  | .xd fs => ∃ mA, h.Ns1 a mA ∧ ∀ f, RelO (fs.lookup f) (mA f)
  | .rng lo hi => ∃ t u v, h.get? a = some { cls := .type "range", data := .fields #[.int lo t, .int hi u, .int 1 v] }
  | .frz o u => h.get? a = some o ∧ ObjOk H h a u
  | .tbl ps => h.get? a = some { cls := .none, data := .fields ps }
  | .met f x => h.get? a = some (PySem.W.methodObj (.ref f) (.ref x))
  | .ext φ => φ h ∧ (∃ o, h.get? a = some o) ∧ ∀ h1 h2 : Heap, φ h1 → (∀ o, h1.get? a = some o → h2.get? a = some o) → φ h2
noncomputable def HOk (H : Hp) (h : Heap) : Prop := ∀ a o, H a = some o → ObjOk P w H h a o
end
section
variable {P : Program} {w : World} {H H' : Hp} {h h' : Heap} {a : Addr} {o : HO}
theorem ObjOk.lt (x : ObjOk P w H h a o) : a < h.objs.size := by
  cases o with
  | lst xs => obtain ⟨_, _, _, _, e⟩ := x; exact Heap.lt_size e
  | tup xs => obtain ⟨_, _, _, p⟩ := x; exact p.lt
  | dK kvs => obtain ⟨_, _, _, _, o, _, _, e, _⟩ := x; exact Heap.lt_size e
  | dT kvs => obtain ⟨_, _, _, _, o, _, _, e, _⟩ := x; exact Heap.lt_size e
  | set S n => obtain ⟨o, _, _, _, e, _⟩ := x; exact Heap.lt_size e
  | ins C dx fs => obtain ⟨_, _, _, e, _⟩ := x; exact Heap.lt_size e
  | own y => obtain ⟨_, e⟩ := x; exact Heap.lt_size e
  | xd fs => obtain ⟨_, ⟨_, _, _, e, _⟩, _⟩ := x; exact Heap.lt_size e
  | rng lo hi => obtain ⟨_, _, _, e⟩ := x; exact Heap.lt_size e
  | frz ob u => obtain ⟨e, _⟩ := x; exact Heap.lt_size e
  | tbl ps => exact Heap.lt_size (show h.get? a = some _ from x)
  | met f y => exact Heap.lt_size (show h.get? a = some _ from x)
  | ext φ => obtain ⟨_, ⟨_, e⟩, _⟩ := x; exact Heap.lt_size e
theorem Paired.mapP {α β : Type} {F G : α → β → Prop} {l₁ : List α} {l₂ : List β} (h : Paired F l₁ l₂) (f : ∀ a b, F a b → G a b) : Paired G l₁ l₂ := by
  induction h with
  | nil => exact .nil
  | cons r t ih => exact .cons (f _ _ r) ih
theorem ObjOk.stay (x : ObjOk P w H h a o) (k : ∀ b u, (b = a ∨ H b = some (.own a)) → h.get? b = some u → h'.get? b = some u)
    (ho : ∀ b, H b = some (.own a) → H' b = some (.own a)) (ht : ∀ b xs, H b = some (.tup xs) → H' b = some (.tup xs)) : ObjOk P w H' h' a o := by
  induction o with
  | lst xs => obtain ⟨z, its, n, r, e⟩ := x; exact ⟨z, its, n, r, k _ _ (.inl rfl) e⟩
  | tup xs => obtain ⟨z, its, r, ob, e, c⟩ := x; exact ⟨z, its, r, ob, k _ _ (.inl rfl) e, c⟩
  | dK kvs => obtain ⟨z, y, vs, r, ob, es, ep, e, c⟩ := x; exact ⟨z, y, vs, r, ob, es, ep, k _ _ (.inl rfl) e, c⟩
  | dT kvs =>
    obtain ⟨z, y, xs, r, ob, es, ep, e, c⟩ := x
    exact ⟨z, y, xs, Paired.mapP r fun p q z => ⟨z.1, ht _ _ z.2.1, z.2.2⟩, ob, es, ep, k _ _ (.inl rfl) e, c⟩
  | set S n => obtain ⟨ob, es, ep, t, e, c⟩ := x; exact ⟨ob, es, ep, t, k _ _ (.inl rfl) e, c⟩
  | ins C dx fs =>
    obtain ⟨d, z, ne, e, mA, ⟨od, es, ep, e2, c⟩, r⟩ := x
    exact ⟨ho _ d, z, ne, k _ _ (.inl rfl) e, mA, ⟨od, es, ep, k _ _ (.inr d) e2, c⟩, r⟩
  | own y => obtain ⟨ob, e⟩ := x; exact ⟨ob, k _ _ (.inl rfl) e⟩
  | xd fs => obtain ⟨mA, ⟨od, es, ep, e, c⟩, r⟩ := x; exact ⟨mA, ⟨od, es, ep, k _ _ (.inl rfl) e, c⟩, r⟩
  | rng lo hi => obtain ⟨t, u, v, e⟩ := x; exact ⟨t, u, v, k _ _ (.inl rfl) e⟩
  | frz ob u ih => obtain ⟨e, q⟩ := x; exact ⟨k _ _ (.inl rfl) e, ih q⟩
  | tbl ps =>
    have e : h.get? a = some { cls := .none, data := .fields ps } := x
    show h'.get? a = some { cls := .none, data := .fields ps }
    exact k a _ (.inl rfl) e
  | met f y =>
    have e : h.get? a = some (PySem.W.methodObj (.ref f) (.ref y)) := x
    show h'.get? a = some (PySem.W.methodObj (.ref f) (.ref y))
    exact k a _ (.inl rfl) e
  | ext φ => obtain ⟨p, ⟨o, e⟩, st⟩ := x; exact ⟨st _ _ p fun o q => k _ _ (.inl rfl) q, ⟨o, k _ _ (.inl rfl) e⟩, st⟩
theorem HOk.lt (x : HOk P w H h) (e : H a = some o) : a < h.objs.size := (x a o e).lt
theorem HOk.fresh (x : HOk P w H h) (e : h.objs.size ≤ a) : H a = none := by
  cases q : H a with
  | none => rfl
  | some u => exact absurd (Nat.lt_of_lt_of_le (x.lt q) e) (Nat.lt_irrefl _)
theorem HOk.kept (x : HOk P w H h) (k : ∀ b u, h.get? b = some u → h'.get? b = some u) : HOk P w H h' := fun a o e =>
  (x a o e).stay (fun b u _ q => k b u q) (fun _ q => q) fun _ _ q => q
theorem HOk.laid (x : HOk P w H h) (k : ∀ b u, h.get? b = some u → h'.get? b = some u) (hp : h.objs.size ≤ a) (new : ObjOk P w (upd H a o) h' a o) : HOk P w (upd H a o) h' := fun b u e => by
  have hn := x.fresh hp
  by_cases hb : b = a
  · subst hb; rw [upd_same] at e; cases e; exact new
  · rw [upd_ne hb] at e
    exact (x b u e).stay (fun c v _ q => k c v q) (fun c q => by rw [upd_ne (ne_of_none q hn)]; exact q) fun c xs q => by rw [upd_ne (ne_of_none q hn)]; exact q
end
noncomputable def Rd (H : Hp) (a : Addr) (u : HO) : Prop := H a = some u ∨ ∃ o, H a = some (.frz o u)
theorem Rd.ok {P : Program} {w : World} {H : Hp} {h : Heap} {a : Addr} {u : HO} (r : Rd H a u) (x : HOk P w H h) : ObjOk P w H h a u := by
  rcases r with r | ⟨o, r⟩
  · exact x a u r
  · obtain ⟨_, q⟩ := x a _ r
    exact q
noncomputable def Mut : Option HO → Prop
  | some (.lst _) => True
  | some (.dK _) => True
  | some (.dT _) => True
  | some (.set _ _) => True
  | some (.ins _ _ _) => True
  | some (.ext _) => True
  | _ => False
section
variable {P : Program} {w : World} {H : Hp} {h h' : Heap} {x e : Addr} {o' : HO}
theorem HOk.write (ok : HOk P w H h) (mu : Mut (H x)) (he : e = x ∨ H e = some (.own x)) (k : ∀ b u, b ≠ e → h.get? b = some u → h'.get? b = some u) (heo : ∃ u, h'.get? e = some u)
    (new : ObjOk P w (upd H x o') h' x o') : HOk P w (upd H x o') h' := fun b u q => by
  have nown : ∀ c y, H c = some (.own y) → c ≠ x := fun c y r z => by subst z; rw [r] at mu; exact mu
  have ntup : ∀ c xs, H c = some (.tup xs) → c ≠ x := fun c xs r z => by subst z; rw [r] at mu; exact mu
  by_cases hb : b = x
  · subst hb; rw [upd_same] at q; cases q; exact new
  · rw [upd_ne hb] at q
    by_cases hbe : b = e
    · have q' : H b = some (.own x) := by
        rcases he with z | z
        · exact absurd (hbe.trans z) hb
        · rw [hbe]; exact z
      rw [q] at q'; cases q'
      obtain ⟨v, hv⟩ := heo
      exact ⟨v, by rw [hbe]; exact hv⟩
    · refine (ok b u q).stay (fun c v hc r => k c v ?_ r) (fun c r => by rw [upd_ne (nown c b r)]; exact r) fun c xs r => by rw [upd_ne (ntup c xs r)]; exact r
      rcases hc with rfl | hc
      · exact hbe
      · rintro rfl
        rcases he with z | z
        · exact nown c b hc z
        · rw [hc] at z; cases z; exact hb rfl
end
structure Un (fs ex : List Addr) (H H' : Hp) (h h' : Heap) : Prop where
  keep : ∀ b o, h.get? b = some o → H b = none → b ∉ fs → b ∉ ex → h'.get? b = some o
  slot : ∀ b o, h.get? b = some o → H b = none → b ∈ fs → b ∉ ex → ∃ sl, h'.get? b = some { o with slots := sl }
  free : ∀ b o, h.get? b = some o → H b = none → b ∉ ex → H' b = none
  there : ∀ b o, h.get? b = some o → b ∉ ex → ∃ o', h'.get? b = some o'
  tups : ∀ b xs, H b = some (.tup xs) → H' b = some (.tup xs)
  frzs : ∀ b o u, H b = some (.frz o u) → H' b = some (.frz o u)
  tbls : ∀ b ps, H b = some (.tbl ps) → ∃ more, H' b = some (.tbl (ps ++ more))
section
variable {fs fs' ex ex' : List Addr} {H H1 H2 : Hp} {h h1 h2 h' : Heap} {a x e : Addr} {o : HO}
theorem Un.any (u : Un fs ex H H1 h h1) {b : Addr} {ob : Obj} (q : h.get? b = some ob) (n : H b = none) (hx : b ∉ ex) : ∃ sl, h1.get? b = some { ob with slots := sl } := by
  by_cases hb : b ∈ fs
  · exact u.slot b ob q n hb hx
  · exact ⟨ob.slots, u.keep b ob q n hb hx⟩
theorem Un.kept (k : ∀ b u, h.get? b = some u → h'.get? b = some u) : Un fs ex H H h h' :=
  ⟨fun b ob q _ _ _ => k b ob q, fun b ob q _ _ _ => ⟨ob.slots, k b ob q⟩, fun _ _ _ n _ => n, fun b ob q _ => ⟨ob, k b ob q⟩, fun _ _ q => q, fun _ _ _ q => q, fun _ ps q => ⟨#[], by rw [q]; simp⟩⟩
theorem Un.refl : Un fs ex H H h h := Un.kept fun _ _ q => q
theorem Un.laid (k : ∀ b u, h.get? b = some u → h'.get? b = some u) (hp : h.objs.size ≤ a) (hn : H a = none) : Un fs ex H (upd H a o) h h' where
  keep := fun b u q _ _ _ => k b u q
  slot := fun b u q _ _ _ => ⟨u.slots, k b u q⟩
  free := fun b u q n _ => by rw [upd_ne (Nat.ne_of_lt (Nat.lt_of_lt_of_le (Heap.lt_size q) hp))]; exact n
  there := fun b u q _ => ⟨u, k b u q⟩
  tups := fun b xs q => by rw [upd_ne (ne_of_none q hn)]; exact q
  frzs := fun b u xs q => by rw [upd_ne (ne_of_none q hn)]; exact q
  tbls := fun b ps q => ⟨#[], by rw [upd_ne (ne_of_none q hn), q]; simp⟩
theorem Un.write (mu : Mut (H x)) (he : e = x ∨ H e = some (.own x)) (k : ∀ b u, b ≠ e → h.get? b = some u → h'.get? b = some u) (heo : ∃ u, h'.get? e = some u) : Un fs ex H (upd H x o) h h' := by
  have hx : ∀ b, H b = none → b ≠ x := fun b n z => by subst z; rw [n] at mu; exact mu
  have hb : ∀ b, H b = none → b ≠ e := fun b n z => by
    subst z
    rcases he with r | r
    · exact hx b n r
    · rw [n] at r; cases r
  have hm : ∀ b u, H b = some u → ¬ Mut (some u) → b ≠ x := fun b u q nm z => by subst z; rw [q] at mu; exact nm mu
  refine ⟨fun b u q n _ _ => k b u (hb b n) q, fun b u q n _ _ => ⟨u.slots, k b u (hb b n) q⟩, fun b u q n _ => by rw [upd_ne (hx b n)]; exact n, fun b u q _ => ?_,
    fun b xs q => by rw [upd_ne (hm b _ q fun z => z)]; exact q, fun b u xs q => by rw [upd_ne (hm b _ q fun z => z)]; exact q, fun b ps q => ⟨#[], by rw [upd_ne (hm b _ q fun z => z), q]; simp⟩⟩
  by_cases hbe : b = e
  · subst hbe; exact heo
  · exact ⟨u, k b u hbe q⟩
end
noncomputable def trk (h : Heap) (H : Hp) : List Addr := (List.range h.objs.size).filter fun a => (H a).isSome
noncomputable def hidT (h : Heap) (H : Hp) : Heap := PySem.W.hideAll h (trk h H)
theorem hidT_size (h : Heap) (H : Hp) : (hidT h H).objs.size = h.objs.size := PySem.W.hideAll_size _ _
theorem hidT_get {h : Heap} {H : Hp} {b : Addr} {o : Obj} (e : h.get? b = some o) (n : H b = none) : (hidT h H).get? b = some o :=
  PySem.W.hideAll_get _ e fun hm => by
    have q : (H b).isSome = true := (List.mem_filter.mp hm).2
    rw [n] at q; simp at q
theorem of_hidT {h : Heap} {H : Hp} {b : Addr} {o : Obj} (e : (hidT h H).get? b = some o) : h.get? b = some o ∧ H b = none := by
  have e' : h.get? b = some o := PySem.W.of_hideAll (trk h H) e
  refine ⟨e', ?_⟩
  cases q : H b with
  | none => rfl
  | some x =>
    have hm : b ∈ trk h H := List.mem_filter.mpr ⟨List.mem_range.mpr (Heap.lt_size e'), by simp [q]⟩
    have z : (hidT h H).get? b = none := PySem.W.hideAll_none (trk h H) hm
    rw [z] at e; cases e
noncomputable def allNews (g h : Heap) (L : Addr) : List (Addr × Obj) := (List.range h.objs.size).filterMap fun a => if a = L ∨ (g.get? a).isSome = true then none else (h.get? a).map fun o => (a, o)
noncomputable def rest (g h : Heap) (L d : Addr) : List (Addr × Obj) := (allNews g h L).filter fun p => decide (p.1 ≠ d)
end L2
namespace L2
open PySem PySem.Spec PyProof.Rows
structure Mod (K : PySem.W.Frag) (mg : Str → Option Value) (base : Heap) : Prop where
  kin : K.In base
  glob : base.Ns mainGlobals mg
  blt : ∃ mb, base.Ns builtinsNs mb ∧ ∀ x : Str, x ≠ "__name__" → mb x = bootBuiltins x
  nolimit : base.NoLimit
structure Cx where
  prog : Program
  w : World
  K : PySem.W.Frag
  mg : Str → Option Value
  base : Heap
  A : Around
  N : List Str
  s₀ : Shared
  H₀ : Hp
  env : Env
  outer : List Env
  stack : List Env
  ex : List Addr
  fn : Str → Bool
  calm : Bool
  pn : List (Addr × Obj)
  xe : Value → Shared → Prop
noncomputable def frs (l : List Env) : List Addr := l.filterMap (·.frame)
noncomputable abbrev Cx.fs (X : Cx) : List Addr := frs X.outer
noncomputable def Vis (sc : Scope) (x : Str) : Prop := sc.names.lookup x = some .local ∨ sc.names.lookup x = some .cell ∨ sc.names.lookup x = some .free
noncomputable def Loc (sc : Scope) (x : Str) : Prop := sc.names.lookup x = some .local ∨ sc.names.lookup x = some .cell
noncomputable def Look (env : Env) (h : Heap) (m : Str → Option Value) (x : Str) (u : Value) : Prop :=
  (env.kindOf x = some .local ∧ m x = some u) ∨ ((env.kindOf x = some .cell ∨ env.kindOf x = some .free) ∧ ∃ c, env.cells.lookup x = some c ∧ h.IsCell c (some u))
structure Cx.Ok (X : Cx) : Prop where
  mod : Mod X.K X.mg X.base
  kind : X.env.scope.kind = .function
  glob : X.env.globals = mainGlobals
  blt : X.env.builtins = builtinsNs
  above : X.s₀.heap.objs.size ≤ X.env.locals
  inj : ∀ x y c, X.env.cells.lookup x = some c → X.env.cells.lookup y = some c → x = y
  has : ∀ x, (X.env.kindOf x = some .cell ∨ X.env.kindOf x = some .free) → ∃ c, X.env.cells.lookup x = some c
  cab : ∀ x c, X.fn x = true → X.env.cells.lookup x = some c → X.s₀.heap.objs.size ≤ c
  hd : X.calm = true → X.A.handled = none
  frames : X.A.frames = some X.stack
  stk : X.stack = X.outer ∨ (X.stack = X.env :: X.outer ∧ X.env.frame = some X.env.locals)
  exf : ∀ b ∈ X.ex, b ≠ X.env.locals ∧ ∀ x c, X.env.cells.lookup x = some c → c ≠ b
  bs : ∀ b o, X.base.get? b = some o → X.s₀.heap.get? b = some o ∧ X.H₀ b = none
  bsz : X.base.objs.size ≤ X.s₀.heap.objs.size
  noex : ∀ b o, X.base.get? b = some o → b ∉ X.ex
  exfs : ∀ b ∈ X.ex, b ∉ X.fs
  funs : X.s₀.heap.FunFrames X.base X.outer
  frf : ∀ b ∈ X.fs, X.H₀ b = none
structure Inv (X : Cx) (pins : List (Addr × Obj)) (σ : List (Option V)) (H : Hp) (s : Shared) : Prop where
  ok : X.Ok
  os : s.os = X.s₀.os
  bare : AllBare s.gens
  base : Un X.fs X.ex X.H₀ H X.s₀.heap s.heap
  loc : ∃ m, s.heap.Ns X.env.locals m ∧ ∀ (i : Nat) (x : Str) (v : V), X.N[i]? = some x → σ[i]? = some (some v) → Vis X.env.scope x → ∃ u, RelV v u ∧ Look X.env s.heap m x u
  cell : ∀ x c, X.env.cells.lookup x = some c → ∃ v, s.heap.IsCell c v
  free : H X.env.locals = none
  freeC : ∀ x c, X.env.cells.lookup x = some c → H c = none
  pin : ∀ p ∈ X.pn ++ pins, s.heap.get? p.1 = some p.2 ∧ H p.1 = none ∧ p.1 ≠ X.env.locals ∧ p.1 ∉ X.fs ∧ ∀ v, p.2.data ≠ .cell v
  hok : HOk X.prog X.w H s.heap
  len : σ.length = X.N.length
section
variable {X : Cx} {pins : List (Addr × Obj)} {σ : List (Option V)} {H H' : Hp} {s : Shared} {h' : Heap}
theorem Cx.Ok.nofr (ok : X.Ok) {b : Addr} {o : Obj} (e : X.base.get? b = some o) : b ∉ X.fs := fun hb => by
  have := (ok.funs.mem hb).1
  rw [e] at this; cases this
theorem Inv.bs (I : Inv X pins σ H s) : ∀ b o, X.base.get? b = some o → s.heap.get? b = some o ∧ H b = none := fun b o e =>
  ⟨I.base.keep b o (I.ok.bs b o e).1 (I.ok.bs b o e).2 (I.ok.nofr e) (I.ok.noex b o e), I.base.free b o (I.ok.bs b o e).1 (I.ok.bs b o e).2 (I.ok.noex b o e)⟩
theorem Inv.bk (I : Inv X pins σ H s) : ∀ b o, X.base.get? b = some o → s.heap.get? b = some o := fun b o e => (I.bs b o e).1
theorem Inv.mod (I : Inv X pins σ H s) : Mod X.K X.mg X.base := I.ok.mod
theorem Inv.kIn (I : Inv X pins σ H s) : X.K.In s.heap := I.ok.mod.kin.keeps I.bk
theorem Inv.lt (I : Inv X pins σ H s) : X.env.locals < s.heap.objs.size := let ⟨_, hn, _⟩ := I.loc; hn.lt
theorem Inv.sz (I : Inv X pins σ H s) : X.s₀.heap.objs.size ≤ s.heap.objs.size := Nat.le_trans I.ok.above (Nat.le_of_lt I.lt)
theorem Inv.nofs (I : Inv X pins σ H s) {a : Addr} (h : s.heap.objs.size ≤ a) : a ∉ X.fs := fun hb => by
  obtain ⟨_, o, ho, _⟩ := I.ok.funs.mem hb
  exact absurd (Nat.lt_of_lt_of_le (Heap.lt_size ho) (Nat.le_trans I.sz h)) (Nat.lt_irrefl _)
theorem Inv.cne (I : Inv X pins σ H s) : ∀ x c, X.env.cells.lookup x = some c → c ≠ X.env.locals := fun x c e z => by
  obtain ⟨v, o, ho, hd⟩ := I.cell x c e
  obtain ⟨m, ⟨o', es, ep, ho', hd', _⟩, _⟩ := I.loc
  rw [z, ho'] at ho; cases ho; rw [hd'] at hd; cases hd
theorem Inv.funs (I : Inv X pins σ H s) : s.heap.FunFrames X.base X.outer := by
  have all : ∀ (l : List Env), (∀ b ∈ frs l, b ∈ X.fs) → X.s₀.heap.FunFrames X.base l → s.heap.FunFrames X.base l := by
    intro l
    induction l with
    | nil => intro _ _; trivial
    | cons env r ih =>
      intro hs hl
      obtain ⟨hk, ⟨L, o, hf, hn, ho, hd⟩, hr⟩ := hl
      have hL : L ∈ X.fs := hs L (by unfold frs; rw [List.filterMap_cons, hf]; exact List.mem_cons_self)
      obtain ⟨sl, e⟩ := I.base.slot L o ho (I.ok.frf L hL) hL fun z => I.ok.exfs L z hL
      exact ⟨hk, ⟨L, _, hf, hn, e, hd⟩, ih (fun b hb => hs b (by unfold frs; rw [List.filterMap_cons, hf]; exact List.mem_cons_of_mem _ hb)) hr⟩
  exact all X.outer (fun _ hb => hb) I.ok.funs
theorem Inv.stack (I : Inv X pins σ H s) : s.heap.FunFrames X.base X.stack := by
  rcases I.ok.stk with e | ⟨e, hf⟩
  · rw [e]; exact I.funs
  · rw [e]
    obtain ⟨m, hn, _⟩ := I.loc
    refine .cons (by rw [I.ok.kind]; decide) hf hn ?_ I.funs
    exact Heap.get?_none_of_le (Nat.le_trans I.ok.bsz I.ok.above)
theorem Inv.stkSub (I : Inv X pins σ H s) : ∀ b ∈ frs X.stack, b ∈ X.env.locals :: X.fs := fun b hb => by
  rcases I.ok.stk with e | ⟨e, hf⟩
  · rw [e] at hb; exact List.mem_cons_of_mem _ hb
  · rw [e] at hb
    unfold frs at hb
    rw [List.filterMap_cons, hf] at hb
    exact hb
theorem Inv.stkFree (I : Inv X pins σ H s) : ∀ b ∈ frs X.stack, H b = none := fun b hb => by
  rcases List.mem_cons.mp (I.stkSub b hb) with e | hb
  · rw [e]; exact I.free
  · obtain ⟨_, o, ho, _⟩ := I.ok.funs.mem hb
    exact I.base.free b o ho (I.ok.frf b hb) fun z => I.ok.exfs b z hb
theorem Inv.step {g' : Array GenState} {t' : Nat} {d' : Drawn} {ch : List Addr} (I : Inv X pins σ H s)
    (hch : ∀ b ∈ ch, (b ∈ X.ex ∨ X.s₀.heap.objs.size ≤ b) ∧ b ≠ X.env.locals ∧ (∀ x c, X.env.cells.lookup x = some c → c ≠ b) ∧ ∀ p ∈ X.pn ++ pins, p.1 ≠ b)
    (keep : ∀ b o, b ≠ X.env.locals → b ∉ X.fs → b ∉ ch → s.heap.get? b = some o → H b = none → h'.get? b = some o)
    (slot : ∀ b o, b ≠ X.env.locals → b ∈ X.fs → b ∉ ch → s.heap.get? b = some o → H b = none → ∃ sl, h'.get? b = some { o with slots := sl }) (free : ∀ b o, b ∉ ch → s.heap.get? b = some o → H b = none → H' b = none)
    (there : ∀ b o, b ∉ ch → s.heap.get? b = some o → ∃ o', h'.get? b = some o')
    (tups : ∀ b xs, H b = some (.tup xs) → H' b = some (.tup xs)) (frzs : ∀ b o u, H b = some (.frz o u) → H' b = some (.frz o u)) (tbls : ∀ b ps, H b = some (.tbl ps) → ∃ more, H' b = some (.tbl (ps ++ more)))
    (ns : ∀ m, s.heap.Ns X.env.locals m → h'.Ns X.env.locals m) (hok : HOk X.prog X.w H' h') (hg : AllBare g') :
    Inv X pins σ H' { s with heap := h', gens := g', drawn := d', toks := t' } := by
  have neL : ∀ b o, X.s₀.heap.get? b = some o → b ≠ X.env.locals := fun b o e => Nat.ne_of_lt (Nat.lt_of_lt_of_le (Heap.lt_size e) I.ok.above)
  have neC : ∀ b o, X.s₀.heap.get? b = some o → b ∉ X.ex → b ∉ ch := fun b o e hx hb => by
    rcases (hch b hb).1 with z | z
    · exact hx z
    · exact absurd (Nat.lt_of_lt_of_le (Heap.lt_size e) z) (Nat.lt_irrefl _)
  have cellK : ∀ x c, X.env.cells.lookup x = some c → ∀ v, s.heap.IsCell c v → h'.IsCell c v := fun x c e v ⟨o, ho, hd⟩ => by
    have nch : c ∉ ch := fun z => (hch c z).2.2.1 x c e rfl
    by_cases hc : c ∈ X.fs
    · obtain ⟨sl, q⟩ := slot c o (I.cne x c e) hc nch ho (I.freeC x c e)
      exact ⟨_, q, hd⟩
    · exact ⟨o, keep c o (I.cne x c e) hc nch ho (I.freeC x c e), hd⟩
  refine ⟨I.ok, I.os, hg, ⟨fun b o e n hb hx => ?_, fun b o e n hb hx => ?_, fun b o e n hx => ?_, fun b o e hx => ?_, fun b xs e => tups b xs (I.base.tups b xs e), fun b o xs e => frzs b o xs (I.base.frzs b o xs e), fun b ps e => ?_⟩, ?_, fun x c e => ?_, ?_, fun x c e => ?_, fun p hp => ?_, hok, I.len⟩
  · exact keep b o (neL b o e) hb (neC b o e hx) (I.base.keep b o e n hb hx) (I.base.free b o e n hx)
  · obtain ⟨sl, e1⟩ := I.base.slot b o e n hb hx
    obtain ⟨sl', e2⟩ := slot b _ (neL b o e) hb (neC b o e hx) e1 (I.base.free b o e n hx)
    exact ⟨sl', e2⟩
  · obtain ⟨o', e1⟩ := I.base.there b o e hx
    exact free b o' (neC b o e hx) e1 (I.base.free b o e n hx)
  · obtain ⟨o', e1⟩ := I.base.there b o e hx
    exact there b o' (neC b o e hx) e1
  · obtain ⟨m1, e1⟩ := I.base.tbls b ps e
    obtain ⟨m2, e2⟩ := tbls b _ e1
    exact ⟨m1 ++ m2, by rw [e2, Array.append_assoc]⟩
  · obtain ⟨m, hn, hl⟩ := I.loc
    refine ⟨m, ns m hn, fun i x v e1 e2 e3 => ?_⟩
    obtain ⟨u, r, l⟩ := hl i x v e1 e2 e3
    refine ⟨u, r, ?_⟩
    rcases l with l | ⟨k, c, e, z⟩
    · exact .inl l
    · exact .inr ⟨k, c, e, cellK x c e _ z⟩
  · obtain ⟨v, z⟩ := I.cell x c e
    exact ⟨v, cellK x c e v z⟩
  · obtain ⟨m, ⟨o, _, _, ho, _⟩, _⟩ := I.loc
    exact free _ o (fun z => (hch _ z).2.1 rfl) ho I.free
  · obtain ⟨v, o, ho, hd⟩ := I.cell x c e
    exact free c o (fun z => (hch c z).2.2.1 x c e rfl) ho (I.freeC x c e)
  · obtain ⟨e, n, ne, nf, d⟩ := I.pin p hp
    have nch : p.1 ∉ ch := fun z => (hch p.1 z).2.2.2 p hp rfl
    exact ⟨keep p.1 p.2 ne nf nch e n, free p.1 p.2 nch e n, ne, nf, d⟩
theorem Inv.un {t' : Nat} (I : Inv X pins σ H s) (u : Un X.fs [] H H' s.heap h') (hok : HOk X.prog X.w H' h') : Inv X pins σ H' { s with heap := h', toks := t' } := by
  obtain ⟨m, ⟨o, es, ep, ho, r⟩, _⟩ := id I.loc
  obtain ⟨sl, hL⟩ := u.any ho I.free (by simp)
  exact I.step (g' := s.gens) (d' := s.drawn) (ch := []) (fun _ z => nomatch z) (fun b o _ hb _ e n => u.keep b o e n hb (by simp)) (fun b o _ hb _ e n => u.slot b o e n hb (by simp)) (fun b o _ e n => u.free b o e n (by simp)) (fun b o _ e => u.there b o e (by simp)) u.tups u.frzs u.tbls (fun m' hm => by
    obtain ⟨o', es', ep', ho', r'⟩ := hm
    rw [ho] at ho'; cases ho'
    exact ⟨_, es', ep', hL, r'⟩) hok I.bare
theorem Inv.call {g' : Array GenState} {t' : Nat} {d' : Drawn} {ch : List Addr} (I : Inv X pins σ H s) (u : Un (frs X.stack) ch H H' s.heap h') (hok : HOk X.prog X.w H' h') (hg : AllBare g')
    (hch : ∀ b ∈ ch, (b ∈ X.ex ∨ X.s₀.heap.objs.size ≤ b) ∧ b ≠ X.env.locals ∧ (∀ x c, X.env.cells.lookup x = some c → c ≠ b) ∧ ∀ p ∈ X.pn ++ pins, p.1 ≠ b) :
    Inv X pins σ H' { s with heap := h', gens := g', drawn := d', toks := t' } := by
  obtain ⟨m, ⟨o, es, ep, ho, r⟩, _⟩ := id I.loc
  obtain ⟨sl, hL⟩ := u.any ho I.free fun z => (hch _ z).2.1 rfl
  exact I.step (ch := ch) hch (fun b o hL hb hc e n => u.keep b o e n (fun z => (List.mem_cons.mp (I.stkSub b z)).elim hL hb) hc) (fun b o _ _ hc e n => u.any e n hc) (fun b o hc e n => u.free b o e n hc) (fun b o hc e => u.there b o e hc) u.tups u.frzs u.tbls (fun m' hm => by
    obtain ⟨o', es', ep', ho', r'⟩ := hm
    rw [ho] at ho'; cases ho'
    exact ⟨_, es', ep', hL, r'⟩) hok hg
theorem Inv.turned {t' : Nat} {it : Addr} (I : Inv X pins σ H s) (k : ∀ b o, b ≠ it → s.heap.get? b = some o → h'.get? b = some o) (hn : H it = none) (hL : it ≠ X.env.locals)
    (h1 : it ∈ X.ex ∨ X.s₀.heap.objs.size ≤ it) (h2 : ∀ x c, X.env.cells.lookup x = some c → c ≠ it) (h3 : ∀ p ∈ X.pn ++ pins, p.1 ≠ it) : Inv X pins σ H { s with heap := h', toks := t' } := by
  have nit : ∀ b u, H b = some u → b ≠ it := fun b u e z => by rw [z, hn] at e; cases e
  refine I.step (g' := s.gens) (d' := s.drawn) (ch := [it]) (fun b hb => ?_) (fun b o _ _ hc e _ => k b o (fun z => hc (by simp [z])) e) (fun b o _ _ hc e _ => ⟨o.slots, k b o (fun z => hc (by simp [z])) e⟩) (fun _ _ _ _ n => n)
    (fun b o hc e => ⟨o, k b o (fun z => hc (by simp [z])) e⟩) (fun _ _ e => e) (fun _ _ _ e => e) (fun b ps e => ⟨#[], by rw [e]; simp⟩) (fun m hm => ?_) (fun b u e => ?_) I.bare
  · have e : b = it := by simpa using hb
    subst e
    exact ⟨h1, hL, h2, h3⟩
  · obtain ⟨o, es, ep, ho, r⟩ := hm
    exact ⟨o, es, ep, k _ o (Ne.symm hL) ho, r⟩
  · refine (I.hok b u e).stay (fun c v hc q => k c v ?_ q) (fun _ q => q) fun _ _ q => q
    rcases hc with z | z
    · rw [z]; exact nit b u e
    · exact nit c _ z
theorem Inv.tok (I : Inv X pins σ H s) (t : Nat) : Inv X pins σ H { s with toks := t } := I.un (h' := s.heap) (t' := t) Un.refl I.hok
theorem Inv.kept {t' : Nat} (I : Inv X pins σ H s) (k : ∀ b u, s.heap.get? b = some u → h'.get? b = some u) : Inv X pins σ H { s with heap := h', toks := t' } := I.un (Un.kept k) (I.hok.kept k)
theorem Inv.laid {a : Addr} {o : HO} {t' : Nat} (I : Inv X pins σ H s) (k : ∀ b u, s.heap.get? b = some u → h'.get? b = some u) (hp : s.heap.objs.size ≤ a) (new : ObjOk X.prog X.w (upd H a o) h' a o) :
    Inv X pins σ (upd H a o) { s with heap := h', toks := t' } := I.un (Un.laid k hp (I.hok.fresh hp)) (I.hok.laid k hp new)
theorem Inv.write {x e : Addr} {o : HO} {t' : Nat} (I : Inv X pins σ H s) (mu : Mut (H x)) (he : e = x ∨ H e = some (.own x)) (k : ∀ b u, b ≠ e → s.heap.get? b = some u → h'.get? b = some u) (heo : ∃ u, h'.get? e = some u)
    (new : ObjOk X.prog X.w (upd H x o) h' x o) : Inv X pins σ (upd H x o) { s with heap := h', toks := t' } := I.un (Un.write mu he k heo) (I.hok.write mu he k heo new)
theorem Inv.pins_of {pins' : List (Addr × Obj)} (I : Inv X pins σ H s) (h : ∀ p ∈ pins', s.heap.get? p.1 = some p.2 ∧ H p.1 = none ∧ p.1 ≠ X.env.locals ∧ p.1 ∉ X.fs ∧ ∀ v, p.2.data ≠ .cell v) : Inv X pins' σ H s :=
  ⟨I.ok, I.os, I.bare, I.base, I.loc, I.cell, I.free, I.freeC, fun p hp => (List.mem_append.mp hp).elim (fun z => I.pin p (List.mem_append_left _ z)) (h p), I.hok, I.len⟩
theorem nodup_ix {N : List Str} (hN : N.Nodup) {i j : Nat} {x : Str} (a : N[i]? = some x) (b : N[j]? = some x) : i = j := by
  obtain ⟨h1, e1⟩ := List.getElem?_eq_some_iff.mp a
  obtain ⟨h2, e2⟩ := List.getElem?_eq_some_iff.mp b
  exact (List.getElem_inj hN).mp (e1.trans e2.symm)
theorem store_ok2 {M : Model} {A : Around} {E : Value → Shared → Prop} {i : Nat} {x : Str} {v : V} {u : Value} {Q : Unit → Shared → Prop} (I : Inv X pins σ H s) (hN : X.N.Nodup) (hi : X.N[i]? = some x) (hx : Loc X.env.scope x) (r : RelV v u)
    (h : ∀ s', Inv X pins (σ.set i (some v)) H s' → (∃ a, Heap.SameBut a s.heap s'.heap ∧ (a = X.env.locals ∨ X.env.cells.lookup x = some a)) → Q () s') (hf : X.fn x = true ∨ X.env.scope.names.lookup x = some .local := by first | exact .inl rfl | exact .inr rfl | assumption) : wpAny M A (storeName X.env x u) Q E s := by
  obtain ⟨m, hn, hl⟩ := id I.loc
  have hcls : (X.env.scope.kind == .class || (X.env.scope.kind == .module && X.env.locals != X.env.globals)) = false := by rw [I.ok.kind]; rfl
  have hiσ : i < σ.length := by rw [I.len]; exact (List.getElem?_eq_some_iff.mp hi).1
  have cne := I.cne
  have tracked : ∀ {a : Addr} {h' : Heap}, (∃ o, s.heap.get? a = some o ∧ H a = none) → Heap.SameBut a s.heap h' → HOk X.prog X.w H h' := fun {a h'} ha hs b ob e => by
    obtain ⟨_, _, hfree⟩ := ha
    refine (I.hok b ob e).stay (fun c w' hc q => (hs.2 c ?_).trans q) (fun _ q => q) fun _ _ q => q
    rintro rfl
    rcases hc with rfl | hc
    · rw [hfree] at e; cases e
    · rw [hfree] at hc; cases hc
  rcases hx with hk | hk
  · refine wpAny_storeName_local hk hn (fun h' hn' hs => ?_) hcls
    obtain ⟨oL, _, _, hoL, _⟩ := id hn
    refine h _ ⟨I.ok, I.os, I.bare, ⟨fun b o e n hb hx => ?_, fun b o e n hb hx => ?_, I.base.free, fun b o e hx => ?_, I.base.tups, I.base.frzs, I.base.tbls⟩, ⟨_, hn', fun j y v' e1 e2 e3 => ?_⟩, fun y c e => ?_, I.free, I.freeC, fun p hp => ?_, tracked ⟨oL, hoL, I.free⟩ hs, by simpa using I.len⟩ ⟨_, hs, .inl rfl⟩
    · exact (hs.2 b (Nat.ne_of_lt (Nat.lt_of_lt_of_le (Heap.lt_size e) I.ok.above))).trans (I.base.keep b o e n hb hx)
    · obtain ⟨sl, e1⟩ := I.base.slot b o e n hb hx
      exact ⟨sl, (hs.2 b (Nat.ne_of_lt (Nat.lt_of_lt_of_le (Heap.lt_size e) I.ok.above))).trans e1⟩
    · obtain ⟨o', e1⟩ := I.base.there b o e hx
      exact ⟨o', (hs.2 b (Nat.ne_of_lt (Nat.lt_of_lt_of_le (Heap.lt_size e) I.ok.above))).trans e1⟩
    · by_cases hj : j = i
      · subst hj
        rw [hi] at e1; cases e1
        rw [List.getElem?_set_self hiσ] at e2
        cases e2
        exact ⟨u, r, .inl ⟨hk, by simp⟩⟩
      · rw [List.getElem?_set_ne (Ne.symm hj)] at e2
        obtain ⟨u', r', q⟩ := hl j y v' e1 e2 e3
        refine ⟨u', r', ?_⟩
        rcases q with ⟨k, e⟩ | ⟨k, c, e, z⟩
        · refine .inl ⟨k, ?_⟩
          have : y ≠ x := fun e => hj (nodup_ix hN e1 (e ▸ hi))
          simp [this, e]
        · exact .inr ⟨k, c, e, z.sameBut hs (cne y c e)⟩
    · obtain ⟨w', z⟩ := I.cell y c e
      exact ⟨w', z.sameBut hs (cne y c e)⟩
    · obtain ⟨e, n, ne, nf, d⟩ := I.pin p hp
      exact ⟨(hs.2 p.1 ne).trans e, n, ne, nf, d⟩
  · have hfn : X.fn x = true := by
      rcases hf with z | z
      · exact z
      · rw [z] at hk; cases hk
    obtain ⟨c, hc⟩ := I.ok.has x (.inl hk)
    obtain ⟨w', z⟩ := I.cell x c hc
    refine wpAny_storeName_cell I.ok.kind hk hc z (fun h' hc' hs => ?_)
    obtain ⟨oc, hoc, hocd⟩ := id z
    refine h { s with heap := h' } ⟨I.ok, I.os, I.bare, ⟨fun b o e n hb hx => ?_, fun b o e n hb hx => ?_, I.base.free, fun b o e hx => ?_, I.base.tups, I.base.frzs, I.base.tbls⟩, ⟨m, hn.sameBut hs (Ne.symm (cne x c hc)), fun j y v' e1 e2 e3 => ?_⟩, fun y c' e => ?_, I.free, I.freeC, fun p hp => ?_, tracked ⟨oc, hoc, I.freeC x c hc⟩ hs, by simpa using I.len⟩ ⟨c, hs, .inr hc⟩
    · exact (hs.2 b (Nat.ne_of_lt (Nat.lt_of_lt_of_le (Heap.lt_size e) (I.ok.cab x c hfn hc)))).trans (I.base.keep b o e n hb hx)
    · obtain ⟨sl, e1⟩ := I.base.slot b o e n hb hx
      exact ⟨sl, (hs.2 b (Nat.ne_of_lt (Nat.lt_of_lt_of_le (Heap.lt_size e) (I.ok.cab x c hfn hc)))).trans e1⟩
    · obtain ⟨o', e1⟩ := I.base.there b o e hx
      exact ⟨o', (hs.2 b (Nat.ne_of_lt (Nat.lt_of_lt_of_le (Heap.lt_size e) (I.ok.cab x c hfn hc)))).trans e1⟩
    · by_cases hj : j = i
      · subst hj
        rw [hi] at e1; cases e1
        rw [List.getElem?_set_self hiσ] at e2
        cases e2
        exact ⟨u, r, .inr ⟨.inl hk, c, hc, hc'⟩⟩
      · rw [List.getElem?_set_ne (Ne.symm hj)] at e2
        obtain ⟨u', r', q⟩ := hl j y v' e1 e2 e3
        refine ⟨u', r', ?_⟩
        rcases q with q | ⟨k, c', e, z'⟩
        · exact .inl q
        · refine .inr ⟨k, c', e, z'.sameBut hs ?_⟩
          rintro rfl
          exact hj (nodup_ix hN e1 (I.ok.inj _ _ _ e hc ▸ hi))
    · by_cases hcc : c' = c
      · subst hcc; exact ⟨_, hc'⟩
      · obtain ⟨w2, z2⟩ := I.cell y c' e
        exact ⟨w2, z2.sameBut hs hcc⟩
    · obtain ⟨e, n, ne, nf, d⟩ := I.pin p hp
      refine ⟨(hs.2 p.1 ?_).trans e, n, ne, nf, d⟩
      intro q
      rw [q, hoc] at e
      have q' : oc = p.2 := Option.some.inj e
      exact d w' (by rw [← q']; exact hocd)
theorem store_ok {M : Model} {A : Around} {E : Value → Shared → Prop} {i : Nat} {x : Str} {v : V} {u : Value} {Q : Unit → Shared → Prop} (I : Inv X pins σ H s) (hN : X.N.Nodup) (hi : X.N[i]? = some x) (hx : Loc X.env.scope x) (r : RelV v u)
    (h : ∀ s', Inv X pins (σ.set i (some v)) H s' → Q () s') (hf : X.fn x = true ∨ X.env.scope.names.lookup x = some .local := by first | exact .inl rfl | exact .inr rfl | assumption) : wpAny M A (storeName X.env x u) Q E s :=
  store_ok2 I hN hi hx r (fun s' I' _ => h s' I') hf
theorem Inv.call' {s' : Shared} {ch : List Addr} (I : Inv X pins σ H s) (ho : s'.os = s.os) (u : Un (frs X.stack) ch H H' s.heap s'.heap) (hok : HOk X.prog X.w H' s'.heap) (hg : AllBare s'.gens)
    (hch : ∀ b ∈ ch, (b ∈ X.ex ∨ X.s₀.heap.objs.size ≤ b) ∧ b ≠ X.env.locals ∧ (∀ x c, X.env.cells.lookup x = some c → c ≠ b) ∧ ∀ p ∈ X.pn ++ pins, p.1 ≠ b) : Inv X pins σ H' s' := by
  obtain ⟨h', g', d', t', o'⟩ := s'
  have e : o' = s.os := ho
  subst e
  exact I.call (g' := g') (t' := t') (d' := d') u hok hg hch
end
noncomputable abbrev XK := Value → Option Addr → Hp → Prop
noncomputable abbrev St := List (Option V)
noncomputable abbrev VK := V → Hp → Prop
noncomputable abbrev TE := St → Hp → VK → Prop
noncomputable abbrev TT := St → Hp → (Bool → Hp → Prop) → Prop
noncomputable abbrev TA := St → Hp → (List V → Hp → Prop) → Prop
structure Ends where
  nx : St → Hp → Prop
  rt : VK
  bk : St → Hp → Prop := fun _ _ => False
  ct : St → Hp → Prop := fun _ _ => False
noncomputable abbrev TS := Ends → St → Hp → Prop
noncomputable def EP (X : Cx) (pins : List (Addr × Obj)) (σ : St) (Q : VK) (u : Value) (s' : Shared) : Prop := ∃ v H', Inv X pins σ H' s' ∧ RelV v u ∧ Q v H'
noncomputable def TP (X : Cx) (pins : List (Addr × Obj)) (σ : St) (Q : Bool → Hp → Prop) (b : Bool) (s' : Shared) : Prop := ∃ H', Inv X pins σ H' s' ∧ Q b H'
noncomputable def AP (X : Cx) (pins : List (Addr × Obj)) (σ : St) (Q : List V → Hp → Prop) (us : List Value) (s' : Shared) : Prop := ∃ vs H', Inv X pins σ H' s' ∧ Vals vs us ∧ Q vs H'
noncomputable def SP (X : Cx) (pins : List (Addr × Obj)) (D : Ends) (f : Flow) (s' : Shared) : Prop :=
  match f with
  | .next => ∃ σ' H', Inv X pins σ' H' s' ∧ D.nx σ' H'
  | .brk => ∃ σ' H', Inv X pins σ' H' s' ∧ D.bk σ' H'
  | .cont => ∃ σ' H', Inv X pins σ' H' s' ∧ D.ct σ' H'
  | .ret u => ∃ v σ' H', Inv X pins σ' H' s' ∧ RelV v u ∧ D.rt v H'
noncomputable def PE (X : Cx) (e : Expr) (t : TE) : Prop :=
  ∀ (pins : List (Addr × Obj)) (s : Shared) (σ : St) (H : Hp) (Q : VK), Inv X pins σ H s → t σ H Q → wpAny (model X.prog X.w) X.A (eval e X.env) (EP X pins σ Q) X.xe s
noncomputable def PT (X : Cx) (e : Expr) (t : TT) : Prop :=
  ∀ (pins : List (Addr × Obj)) (s : Shared) (σ : St) (H : Hp) (Q : Bool → Hp → Prop), Inv X pins σ H s → t σ H Q → wpAny (model X.prog X.w) X.A (isTrue e X.env (eval e X.env)) (TP X pins σ Q) X.xe s
noncomputable def PW (X : Cx) (e : Expr) (t : TT) : Prop :=
  ∀ (whole : Sem Value) (pins : List (Addr × Obj)) (s : Shared) (σ : St) (H : Hp) (Q : Bool → Hp → Prop), Inv X pins σ H s → t σ H Q → wpAny (model X.prog X.w) X.A (isTrue e X.env whole) (TP X pins σ Q) X.xe s
theorem PW.pt {X : Cx} {e : Expr} {t : TT} (h : PW X e t) : PT X e t := h _
noncomputable def PA (X : Cx) (es : List Expr) (t : TA) : Prop :=
  ∀ (pos : Pos) (pins : List (Addr × Obj)) (s : Shared) (σ : St) (H : Hp) (Q : List V → Hp → Prop), Inv X pins σ H s → t σ H Q → wpAny (model X.prog X.w) X.A (spliced (backTo pos (starEach es X.env))) (AP X pins σ Q) X.xe s
noncomputable def PS (X : Cx) (st : Stmt) (t : TS) : Prop :=
  ∀ (pins : List (Addr × Obj)) (s : Shared) (σ : St) (H : Hp) (D : Ends), Inv X pins σ H s → t D σ H → wpAny (model X.prog X.w) X.A (exec st X.env) (SP X pins D) X.xe s
noncomputable def PSs (X : Cx) (st : List Stmt) (t : TS) : Prop :=
  ∀ (pins : List (Addr × Obj)) (s : Shared) (σ : St) (H : Hp) (D : Ends), Inv X pins σ H s → t D σ H → wpAny (model X.prog X.w) X.A (execs st X.env) (SP X pins D) X.xe s
theorem thn {α : Type} {t : Sem α} {Q Q' : α → Shared → Prop} {M : Model} {A : Around} {E : Value → Shared → Prop} {s : Shared} (h : wpAny M A t Q E s) (hQ : ∀ a s, Q a s → Q' a s) : wpAny M A t Q' E s := wpAny_mono h hQ fun _ _ x => x
end L2
namespace L2
open PySem PySem.Spec PyProof.Rows
section
variable {X : Cx}
noncomputable def tVar (i : Nat) : TE := fun σ H Q => ∃ v, σ[i]? = some (some v) ∧ Q v H
noncomputable def tC (v : V) : TE := fun _ H Q => Q v H
theorem pe_var {i : Nat} {x : Str} {pos : Pos} (hN : X.N[i]? = some x) (hv : Vis X.env.scope x) (hd : (x == ("__debug__" : Str)) = false := by decide) (hcd : (x == ("__classdict__" : Str)) = false := by decide) : PE X (.Name x pos) (tVar i) := by
  intro pins s σ H Q I h
  obtain ⟨v, e, h⟩ := h
  obtain ⟨m, hn, hl⟩ := I.loc
  obtain ⟨u, r, l⟩ := hl i x v hN e hv
  have fin : EP X pins σ Q u s := ⟨v, H, I, r, h⟩
  rcases l with ⟨hk, hm⟩ | ⟨hk, c, hc, hcell⟩
  · exact wpAny_Name (wpAny_loadName_local I.ok.kind hk hn hm fin) hd
  · rcases hk with hk | hk
    · exact wpAny_Name (wpAny_loadName_cell I.ok.kind hk hc hcell fin) hd
    · exact wpAny_Name (wpAny_loadName_free I.ok.kind hk hc hcell fin hcd) hd
theorem pe_int {i j pos} : PE X (.Constant (.int i) j pos) (tC (.int i)) := fun _ _ _ H _ I h => wpAny_Constant_int ⟨.int i, H, I.tok _, ⟨_, rfl⟩, h⟩
theorem pe_bl {b j pos} : PE X (.Constant (.bool b) j pos) (tC (.bl b)) := fun _ _ _ H _ I h => Constant_bool ⟨.bl b, H, I, rfl, h⟩
theorem pe_non {j pos} : PE X (.Constant .none j pos) (tC .non) := fun _ _ _ H _ I h => Constant_none ⟨.non, H, I, rfl, h⟩
theorem pe_str {x j pos} : PE X (.Constant (.str x) j pos) (tC (.str x)) := fun _ _ _ H _ I h => Calls.Constant_str ⟨.str x, H, I.tok _, ⟨_, rfl⟩, h⟩
noncomputable def Gl (X : Cx) (x : Str) : Prop := X.env.kindOf x = some .globalImplicit
theorem ld_glob {E : Value → Shared → Prop} {pins : List (Addr × Obj)} {s : Shared} {σ : St} {H : Hp} {x : Str} {u : Value} {pos : Pos} {Q : Value → Shared → Prop} (I : Inv X pins σ H s) (hg : Gl X x) (hm : X.mg x = some u) (h : Q u s)
    (hd : (x == ("__debug__" : Str)) = false := by decide) : wpAny (model X.prog X.w) X.A (eval (.Name x pos) X.env) Q E s :=
  Calls.Name_function_global I.ok.kind hg (Calls.loadGlobal_global (by rw [I.ok.glob]; exact I.mod.glob.keeps I.bk) hm h) hd
theorem ld_blt {E : Value → Shared → Prop} {pins : List (Addr × Obj)} {s : Shared} {σ : St} {H : Hp} {x : Str} {u : Value} {pos : Pos} {Q : Value → Shared → Prop} (I : Inv X pins σ H s) (hg : Gl X x) (hm : X.mg x = none) (hv : bootBuiltins x = some u) (h : Q u s)
    (hn : x ≠ "__name__" := by decide) (hd : (x == ("__debug__" : Str)) = false := by decide) : wpAny (model X.prog X.w) X.A (eval (.Name x pos) X.env) Q E s := by
  obtain ⟨mb, h1, h2⟩ := I.mod.blt
  exact Calls.Name_function_global I.ok.kind hg (Calls.loadGlobal_builtin (by rw [I.ok.glob]; exact I.mod.glob.keeps I.bk) hm (by rw [I.ok.blt]; exact h1.keeps I.bk) ((h2 x hn).trans hv) h) hd
theorem pe_glob {x : Str} {v : V} {u : Value} {pos : Pos} (hg : Gl X x) (hm : X.mg x = some u) (r : RelV v u) (hd : (x == ("__debug__" : Str)) = false := by decide) : PE X (.Name x pos) (tC v) :=
  fun _ _ _ H _ I h => ld_glob I hg hm ⟨v, H, I, r, h⟩ hd
theorem pe_bltn {x : Str} {v : V} {u : Value} {pos : Pos} (hg : Gl X x) (hm : X.mg x = none) (hv : bootBuiltins x = some u) (r : RelV v u) (hn : x ≠ "__name__" := by decide) (hd : (x == ("__debug__" : Str)) = false := by decide) : PE X (.Name x pos) (tC v) :=
  fun _ _ _ H _ I h => ld_blt I hg hm hv ⟨v, H, I, r, h⟩ hn hd
variable {a b : Expr} {ta tb : TE} {pos : Pos}
noncomputable def tB (t : TE) : TT := fun σ H Q => t σ H fun x H1 => ∃ c, x = .bl c ∧ Q c H1
variable {tA tB' : TT} {rest : List Expr}
noncomputable def tAnd (t u : TT) : TT := fun σ H Q => t σ H fun c H1 => if c = true then u σ H1 Q else Q false H1
noncomputable def tOr (t u : TT) : TT := fun σ H Q => t σ H fun c H1 => if c = true then Q true H1 else u σ H1 Q
noncomputable def tNot (t : TT) : TT := fun σ H Q => t σ H fun c H1 => Q (!c) H1
theorem pw_and1 (ha : PT X a tA) : PW X (.BoolOp .And [a] pos) tA := by
  intro wh pins s σ H Q I h
  refine isTrue_and (thn (ha pins s σ H Q I h) fun c s1 e => ?_)
  cases c with
  | true => exact isTrue_and_nil e
  | false => exact e
theorem pw_or1 (ha : PT X a tA) : PW X (.BoolOp .Or [a] pos) tA := by
  intro wh pins s σ H Q I h
  refine isTrue_or (thn (ha pins s σ H Q I h) fun c s1 e => ?_)
  cases c with
  | false => exact isTrue_or_nil e
  | true => exact e
theorem pw_and (ha : PT X a tA) (hb : PW X (.BoolOp .And (b :: rest) pos) tB') : PW X (.BoolOp .And (a :: b :: rest) pos) (tAnd tA tB') := by
  intro wh pins s σ H Q I h
  refine isTrue_and (thn (ha pins s σ H _ I h) fun c s1 zz0 => ?_)
  obtain ⟨H1, I1, q1⟩ := zz0
  cases c with
  | true => exact hb wh pins s1 σ H1 Q I1 q1
  | false => exact ⟨H1, I1, q1⟩
theorem pw_or (ha : PT X a tA) (hb : PW X (.BoolOp .Or (b :: rest) pos) tB') : PW X (.BoolOp .Or (a :: b :: rest) pos) (tOr tA tB') := by
  intro wh pins s σ H Q I h
  refine isTrue_or (thn (ha pins s σ H _ I h) fun c s1 zz0 => ?_)
  obtain ⟨H1, I1, q1⟩ := zz0
  cases c with
  | true => exact ⟨H1, I1, q1⟩
  | false => exact hb wh pins s1 σ H1 Q I1 q1
theorem pt_not (ha : PT X a tA) : PT X (.UnaryOp .Not a pos) (tNot tA) := by
  intro pins s σ H Q I h
  exact isTrue_not (ha pins s σ H (fun c H1 => Q (!c) H1) I h)
noncomputable def tAndV (ta tb : TE) : TE := fun σ H Q => ta σ H fun x H1 => ∃ c, x = .bl c ∧ if c = true then tb σ H1 Q else Q (.bl false) H1
noncomputable def tOrV (ta tb : TE) : TE := fun σ H Q => ta σ H fun x H1 => ∃ c, x = .bl c ∧ if c = true then Q (.bl true) H1 else tb σ H1 Q
theorem pe_one {op} {t : TE} (h : PE X a t) : PE X (.BoolOp op [a] pos) t := fun pins s σ H Q I hw => BoolOp_one (h pins s σ H Q I hw)
theorem pe_and (ha : PE X a ta) (hb : PE X (.BoolOp .And (b :: rest) pos) tb) : PE X (.BoolOp .And (a :: b :: rest) pos) (tAndV ta tb) := by
  intro pins s σ H Q I h
  refine BoolOp_and (thn (ha pins s σ H _ I h) fun v s1 zz0 => ?_)
  obtain ⟨x, H1, I1, r1, q1⟩ := zz0
  obtain ⟨c, rfl, q1⟩ := q1
  cases r1
  refine wpAny_truthy_bool ?_
  cases c with
  | true => exact hb pins s1 σ H1 Q I1 q1
  | false => exact ⟨.bl false, H1, I1, rfl, q1⟩
theorem pe_or (ha : PE X a ta) (hb : PE X (.BoolOp .Or (b :: rest) pos) tb) : PE X (.BoolOp .Or (a :: b :: rest) pos) (tOrV ta tb) := by
  intro pins s σ H Q I h
  refine BoolOp_or (thn (ha pins s σ H _ I h) fun v s1 zz0 => ?_)
  obtain ⟨x, H1, I1, r1, q1⟩ := zz0
  obtain ⟨c, rfl, q1⟩ := q1
  cases r1
  refine wpAny_truthy_bool ?_
  cases c with
  | false => exact hb pins s1 σ H1 Q I1 q1
  | true => exact ⟨.bl true, H1, I1, rfl, q1⟩
noncomputable def tIf (t : TT) (ta tb : TE) : TE := fun σ H Q => t σ H fun c H1 => if c = true then ta σ H1 Q else tb σ H1 Q
theorem pe_ifExp {c : Expr} (hc : PT X c tA) (ha : PE X a ta) (hb : PE X b tb) : PE X (.IfExp c a b pos) (tIf tA ta tb) := by
  intro pins s σ H Q I h
  refine wpAny_IfExp (thn (hc pins s σ H _ I h) fun d s1 zz0 => ?_)
  obtain ⟨H1, I1, q1⟩ := zz0
  cases d with
  | true => exact ha pins s1 σ H1 Q I1 q1
  | false => exact hb pins s1 σ H1 Q I1 q1
end
end L2
namespace L2
open PySem PySem.Spec PyProof.Rows
noncomputable def SqL (K : PySem.W.Frag) (H : Hp) (a : Addr) (xs : List V) : Prop :=
  Rd H a (.lst xs) ∨
    ∃ (o : Obj) (its : Array Value) (n : Nat), K.lookup a = some o ∧ o.cls = .type "list" ∧ o.dict = none ∧ o.data = .seq its n ∧ its.size ≤ sizeLine ∧ Vals xs its.toList
noncomputable def SqT (K : PySem.W.Frag) (H : Hp) (a : Addr) (xs : List V) : Prop :=
  Rd H a (.tup xs) ∨
    ∃ (o : Obj) (its : Array Value) (n : Nat), K.lookup a = some o ∧ o.cls = .type "tuple" ∧ o.data = .seq its n ∧ its.size ≤ sizeLine ∧ Vals xs its.toList
noncomputable def absV : Value → Option V
  | .none => some .non
  | .bool b => some (.bl b)
  | .int i _ => some (.int i)
  | .str x _ => some (.str x)
  | .bytes b _ => some (.byt b)
  | .float b _ => some (.flt b)
  | .ref a => some (.ref a)
  | .type n => some (.ty n)
  | _ => none
theorem RelV.abs {x : V} {u : Value} (r : RelV x u) : absV u = some x := by
  cases x with
  | non => cases r; rfl
  | bl _ => cases r; rfl
  | int _ => obtain ⟨t, rfl⟩ := r; rfl
  | str _ => obtain ⟨t, rfl⟩ := r; rfl
  | byt _ => obtain ⟨t, rfl⟩ := r; rfl
  | flt _ => obtain ⟨t, rfl⟩ := r; rfl
  | ref _ => cases r; rfl
  | ty _ => cases r; rfl
theorem RelV.inj {x y : V} {u : Value} (r : RelV x u) (q : RelV y u) : x = y := Option.some.inj (r.abs.symm.trans q.abs)
theorem Vals.inj {xs ys : List V} {us : List Value} (h : Vals xs us) (h' : Vals ys us) : xs = ys := by
  induction h generalizing ys with
  | nil => cases h'; rfl
  | cons r t ih => cases h' with
    | cons r' t' => rw [r.inj r', ih t']
section
variable {X : Cx} {pins : List (Addr × Obj)} {σ : St} {H : Hp} {s : Shared} {a : Addr} {xs ys : List V}
theorem SqL.of {K : PySem.W.Frag} (h : H a = some (.lst xs)) : SqL K H a xs := .inl (.inl h)
theorem SqT.of {K : PySem.W.Frag} (h : H a = some (.tup xs)) : SqT K H a xs := .inl (.inl h)
theorem Inv.list (I : Inv X pins σ H s) (h : SqL X.K H a xs) : ∃ its : List Value, Vals xs its ∧ PlainL s.heap a its.toArray ∧ xs.length ≤ sizeLine := by
  rcases h with h | ⟨o, its, n, hk, hc, hd, hs, hz, r⟩
  · obtain ⟨z, its, n, r, e⟩ := h.ok I.hok
    exact ⟨its, r, ⟨_, n, e, rfl, rfl, rfl⟩, z⟩
  · refine ⟨its.toList, r, ⟨o, n, I.kIn a o hk, hc, hd, by simpa using hs⟩, ?_⟩
    have e := r.length
    simp only [Array.length_toList] at e
    (first | lia | omega)
theorem Inv.tuple (I : Inv X pins σ H s) (h : SqT X.K H a xs) : ∃ its : List Value, Vals xs its ∧ IsTup s.heap a its.toArray ∧ xs.length ≤ sizeLine := by
  rcases h with h | ⟨o, its, n, hk, hc, hs, hz, r⟩
  · obtain ⟨z, its, r, p⟩ := h.ok I.hok
    exact ⟨its, r, p, z⟩
  · refine ⟨its.toList, r, ⟨o, I.kIn a o hk, hc, n, by simpa using hs⟩, ?_⟩
    have e := r.length
    simp only [Array.length_toList] at e
    (first | lia | omega)
theorem Inv.list_inj (I : Inv X pins σ H s) (h : SqL X.K H a xs) (h' : SqL X.K H a ys) : xs = ys := by
  obtain ⟨its, r, ⟨o, n, e, _, _, d⟩, _⟩ := I.list h
  obtain ⟨its', r', ⟨o', n', e', _, _, d'⟩, _⟩ := I.list h'
  rw [e] at e'; cases e'
  rw [d] at d'
  injection d' with d1 _
  have : its = its' := by simpa using congrArg Array.toList d1
  subst this
  exact r.inj r'
theorem Inv.tuple_inj (I : Inv X pins σ H s) (h : SqT X.K H a xs) (h' : SqT X.K H a ys) : xs = ys := by
  obtain ⟨its, r, ⟨o, e, _, n, d⟩, _⟩ := I.tuple h
  obtain ⟨its', r', ⟨o', e', _, n', d'⟩, _⟩ := I.tuple h'
  rw [e] at e'; cases e'
  rw [d] at d'
  injection d' with d1 _
  have : its = its' := by simpa using congrArg Array.toList d1
  subst this
  exact r.inj r'
end
noncomputable abbrev Cx.wish (X : Cx) (E : Value → Shared → Prop) : Cx := { X with xe := E }
noncomputable abbrev Cx.nox (X : Cx) : Cx := X.wish fun _ _ => False
theorem Cx.Ok.wish {X : Cx} (ok : X.Ok) (E : Value → Shared → Prop) : (X.wish E).Ok :=
  ⟨ok.mod, ok.kind, ok.glob, ok.blt, ok.above, ok.inj, ok.has, ok.cab, ok.hd, ok.frames, ok.stk, ok.exf, ok.bs, ok.bsz, ok.noex, ok.exfs, ok.funs, ok.frf⟩
theorem Cx.Ok.unwish {X : Cx} {E : Value → Shared → Prop} (ok : (X.wish E).Ok) : X.Ok :=
  ⟨ok.mod, ok.kind, ok.glob, ok.blt, ok.above, ok.inj, ok.has, ok.cab, ok.hd, ok.frames, ok.stk, ok.exf, ok.bs, ok.bsz, ok.noex, ok.exfs, ok.funs, ok.frf⟩
section
variable {X : Cx} {pins : List (Addr × Obj)} {σ : St} {H : Hp} {s : Shared} {E : Value → Shared → Prop}
theorem Inv.wish (I : Inv X pins σ H s) (E : Value → Shared → Prop) : Inv (X.wish E) pins σ H s := ⟨I.ok.wish E, I.os, I.bare, I.base, I.loc, I.cell, I.free, I.freeC, I.pin, I.hok, I.len⟩
theorem Inv.unwish (I : Inv (X.wish E) pins σ H s) : Inv X pins σ H s := ⟨I.ok.unwish, I.os, I.bare, I.base, I.loc, I.cell, I.free, I.freeC, I.pin, I.hok, I.len⟩
theorem SP.unwish {D : Ends} {f : Flow} {s' : Shared} (h : SP (X.wish E) pins D f s') : SP X pins D f s' := by
  cases f with
  | next => obtain ⟨σ', H', I, q⟩ := h; exact ⟨σ', H', I.unwish, q⟩
  | brk => obtain ⟨σ', H', I, q⟩ := h; exact ⟨σ', H', I.unwish, q⟩
  | cont => obtain ⟨σ', H', I, q⟩ := h; exact ⟨σ', H', I.unwish, q⟩
  | ret u => obtain ⟨v, σ', H', I, r, q⟩ := h; exact ⟨v, σ', H', I.unwish, r, q⟩
theorem PSs.nox {st : List Stmt} {t : TS} (h : PSs X.nox st t) : PSs X st t := fun pins s σ H D I hw =>
  wpAny_mono (h pins s σ H D (I.wish _) hw) (fun _ _ q => q.unwish) fun _ _ z => False.elim z
end
section
variable {X : Cx} {st : Stmt} {rest : List Stmt} {t u : TS} {e : Expr} {te : TE} {pos : Pos}
noncomputable def tNext : TS := fun D σ H => D.nx σ H
noncomputable def tSeq (t u : TS) : TS := fun D σ H => t { D with nx := u D } σ H
theorem pss_nil : PSs X [] tNext := fun _ _ σ H _ I h => wpAny_execs_nil ⟨σ, H, I, h⟩
theorem pss_cons (h1 : PS X st t) (h2 : PSs X rest u) : PSs X (st :: rest) (tSeq t u) := by
  intro pins s σ H D I h
  refine wpAny_execs_cons (thn (h1 pins s σ H { D with nx := u D } I h) fun f s1 q => ?_)
  cases f with
  | next =>
    obtain ⟨σ', H', I', q⟩ := q
    exact h2 pins s1 σ' H' D I' q
  | ret v => exact q
  | brk => exact q
  | cont => exact q
theorem pss_one (h1 : PS X st t) : PSs X [st] t := by
  intro pins s σ H D I h
  refine wpAny_execs_cons (thn (h1 pins s σ H D I h) fun f s1 q => ?_)
  cases f with
  | next => exact wpAny_execs_nil q
  | ret v => exact q
  | brk => exact q
  | cont => exact q
theorem Inv.quiet {pins : List (Addr × Obj)} {σ : St} {H : Hp} {s : Shared} (I : Inv X pins σ H s) : interactive X.env = false := by simp [interactive, I.ok.kind]
noncomputable def tDrop (te : TE) : TS := fun D σ H => te σ H fun _ H1 => D.nx σ H1
theorem ps_expr (he : PE X e te) (hs : swapsWith e none pos.line X.env = pure false := by rfl) : PS X (.Expr e pos) (tDrop te) := by
  intro pins s σ H D I h
  refine wpAny_Expr_any (thn (he pins s σ H _ I h) fun v s1 zz0 => ?_) I.quiet hs
  obtain ⟨x, H1, I1, r1, q1⟩ := zz0
  exact ⟨σ, H1, I1, q1⟩
noncomputable def tRet (te : TE) : TS := fun D σ H => te σ H D.rt
theorem ps_ret (he : PE X e te) : PS X (.Return (some e) pos) (tRet te) := by
  intro pins s σ H D I h
  refine wpAny_Return_some (thn (he pins s σ H _ I h) fun v s1 zz0 => ?_)
  obtain ⟨x, H1, I1, r1, q1⟩ := zz0
  exact ⟨x, σ, H1, I1, r1, q1⟩
noncomputable def tIfS (c : TT) (t u : TS) : TS := fun D σ H => c σ H fun b H1 => if b = true then t D σ H1 else u D σ H1
theorem ps_if {c : Expr} {a b : List Stmt} {tc : TT} (hc : PT X c tc) (ha : PSs X a t) (hb : PSs X b u) : PS X (.If c a b pos) (tIfS tc t u) := by
  intro pins s σ H D I h
  refine wpAny_If (thn (hc pins s σ H _ I h) fun d s1 zz0 => ?_)
  obtain ⟨H1, I1, q1⟩ := zz0
  cases d with
  | true => exact ha pins s1 σ H1 D I1 q1
  | false => exact hb pins s1 σ H1 D I1 q1
end
noncomputable abbrev TG := V → St → Hp → (St → Hp → Prop) → Prop
noncomputable abbrev TGs := List V → St → Hp → (St → Hp → Prop) → Prop
noncomputable def PG (X : Cx) (target : Expr) (t : TG) : Prop :=
  ∀ (pins : List (Addr × Obj)) (s : Shared) (σ : St) (H : Hp) (v : V) (u : Value) (Q : St → Hp → Prop), Inv X pins σ H s → RelV v u → t v σ H Q →
    wpAny (model X.prog X.w) X.A (assign target X.env u) (fun _ s' => ∃ σ' H', Inv X pins σ' H' s' ∧ Q σ' H') X.xe s
noncomputable def PGs (X : Cx) (ts : List Expr) (t : TGs) : Prop :=
  ∀ (pins : List (Addr × Obj)) (s : Shared) (σ : St) (H : Hp) (vs : List V) (us : List Value) (Q : St → Hp → Prop), Inv X pins σ H s → Vals vs us → t vs σ H Q →
    wpAny (model X.prog X.w) X.A (assignInOrder ((assignEach ts X.env).map (·.2)) us) (fun _ s' => ∃ σ' H', Inv X pins σ' H' s' ∧ Q σ' H') X.xe s
noncomputable abbrev TSet := V → V → V → Hp → (Hp → Prop) → Prop
noncomputable def PSet (X : Cx) (t : TSet) : Prop :=
  ∀ (pins : List (Addr × Obj)) (s : Shared) (σ : St) (H : Hp) (o i v : V) (ov iv u : Value) (Q : Hp → Prop), Inv X pins σ H s → RelV o ov → RelV i iv → RelV v u → t o i v H Q →
    wpAny (model X.prog X.w) X.A (setItem ov iv u) (fun _ s' => ∃ H', Inv X pins σ H' s' ∧ Q H') X.xe s
noncomputable abbrev TIp := V → V → Hp → VK → Prop
noncomputable def PIp (X : Cx) (op : Operator) (t : TIp) : Prop :=
  ∀ (pins : List (Addr × Obj)) (s : Shared) (σ : St) (H : Hp) (x y : V) (v u : Value) (Q : VK), Inv X pins σ H s → RelV x v → RelV y u → t x y H Q →
    wpAny (model X.prog X.w) X.A (inplaceOp op v u) (EP X pins σ Q) X.xe s
section
variable {X : Cx} {pos : Pos}
noncomputable def gName (i : Nat) : TG := fun v σ H Q => Q (σ.set i (some v)) H
theorem pg_name {i : Nat} {x : Str} (hN : X.N.Nodup) (hi : X.N[i]? = some x) (hx : Loc X.env.scope x) (hf : X.fn x = true ∨ X.env.scope.names.lookup x = some .local := by first | exact .inl rfl | exact .inr rfl | assumption) : PG X (.Name x pos) (gName i) := by
  intro pins s σ H v u Q I r h
  exact wpAny_assign_Name (store_ok I hN hi hx r (fun s' I' => ⟨_, H, I', h⟩) hf)
noncomputable def gNil : TGs := fun vs σ H Q => vs = [] ∧ Q σ H
noncomputable def gCons (t : TG) (u : TGs) : TGs := fun vs σ H Q => ∃ v r, vs = v :: r ∧ t v σ H fun σ' H' => u r σ' H' Q
theorem pgs_nil : PGs X [] gNil := by
  intro pins s σ H vs us Q I r h
  obtain ⟨e, h⟩ := h
  subst e
  cases r
  exact assignInOrder_nil ⟨σ, H, I, h⟩
theorem pgs_cons {e : Expr} {es : List Expr} {t : TG} {u : TGs} (h1 : PG X e t) (h2 : PGs X es u)
    (hs : (assignEach (e :: es) X.env).map (·.2) = assign e X.env :: (assignEach es X.env).map (·.2) := by rfl) : PGs X (e :: es) (gCons t u) := by
  intro pins s σ H vs us Q I r h
  obtain ⟨v, vr, e1, h⟩ := h
  subst e1
  cases r with
  | cons r rr =>
    rw [hs]
    refine assignInOrder_cons (thn (h1 pins s σ H _ _ _ I r h) fun _ s1 zz0 => ?_)
    obtain ⟨σ1, H1, I1, q1⟩ := zz0
    exact h2 pins s1 σ1 H1 _ _ Q I1 rr q1
noncomputable def gTup (K : PySem.W.Frag) (n : Nat) (t : TGs) : TG := fun v σ H Q => ∃ a xs, v = .ref a ∧ SqT K H a xs ∧ xs.length = n ∧ t xs σ H Q
theorem pg_tup {es : List Expr} {k : Nat} {t : TGs} {n : Nat} (hc : X.calm = true) (h : PGs X es t)
    (hn : (assignEach es X.env).length = n := by rfl) (hst : (assignEach es X.env).findIdx? (·.1) = none := by rfl) : PG X (.Tuple es k pos) (gTup X.K n t) := by
  intro pins s σ H v u Q I r hw
  obtain ⟨a, xs, e1, hq, hl, hw⟩ := hw
  subst e1
  cases r
  obtain ⟨its, rv, ht, hz⟩ := I.tuple hq
  refine assign_Tuple_tuple (I.ok.hd hc) ht (by simp [hn, ← hl, rv.length]) hst fun h' hx => ?_
  have I1 : Inv X pins σ H { s with heap := h' } := I.kept (t' := s.toks) fun b o e => hx b o (Nat.ne_of_lt (Heap.lt_size e)) e
  exact h pins _ σ H xs _ Q I1 (by simpa using rv) hw
noncomputable def gSub (to ti : TE) (t : TSet) : TG := fun v σ H Q => to σ H fun o H1 => ti σ H1 fun i H2 => t o i v H2 fun H3 => Q σ H3
theorem pg_sub {o i : Expr} {to ti : TE} {t : TSet} (ho : PE X o to) (hi : PE X i ti) (hs : PSet X t)
    (ha : ∀ v, assign (.Subscript o i pos) X.env v = (do
      let ov ← holding [v] (eval o X.env)
      let iv ← holding [v, ov] (eval i X.env)
      standAt pos
      holding [v, ov, iv] (setItem ov iv v)
      release [v, ov, iv] []) := by intro _; rfl) : PG X (.Subscript o i pos) (gSub to ti t) := by
  intro pins s σ H v u Q I r h
  rw [ha]
  refine wpAny_bind (wpAny_holding (thn (ho pins s σ H _ I h) fun ov s1 zz0 => ?_))
  obtain ⟨x, H1, I1, r1, q1⟩ := zz0
  refine wpAny_bind (wpAny_holding (thn (hi pins s1 σ H1 _ I1 q1) fun iv s2 zz0 => ?_))
  obtain ⟨y, H2, I2, r2, q2⟩ := zz0
  refine wpAny_bind (wpAny_standAt (wpAny_bind (wpAny_holding (thn (hs pins s2 σ H2 x y v ov iv u _ I2 r1 r2 r q2) fun _ s3 zz0 => ?_))))
  obtain ⟨H3, I3, q3⟩ := zz0
  exact wpAny_release ⟨σ, H3, I3, q3⟩
noncomputable def tAsg (te : TE) (g : TG) : TS := fun D σ H => te σ H fun x H1 => g x σ H1 D.nx
theorem ps_asg {tg e : Expr} {te : TE} {g : TG} (he : PE X e te) (hg : PG X tg g) (hs : swapsWithSole [tg] e pos.line X.env = pure false := by rfl) (hw : swappedStores [tg] e X.env = pure none := by rfl)
    (h1 : (assignEach [tg] X.env).map (·.2) = [assign tg X.env] := by rfl) : PS X (.Assign [tg] e pos) (tAsg te g) := by
  intro pins s σ H D I h
  refine wpAny_Assign_stores (thn (he pins s σ H _ I h) fun v s1 zz0 => ?_) hs hw
  obtain ⟨x, H1, I1, r1, q1⟩ := zz0
  rw [h1]
  exact thn (hg pins s1 σ H1 x v _ I1 r1 q1) fun _ s2 q => q
theorem ps_set {i : Nat} {x : Str} {e : Expr} {te : TE} {pos' : Pos} (hN : X.N.Nodup) (hi : X.N[i]? = some x) (hx : Loc X.env.scope x) (he : PE X e te) (hs : swapsWith e (some (.Name x pos')) pos.line X.env = pure false := by rfl) (hf : X.fn x = true ∨ X.env.scope.names.lookup x = some .local := by first | exact .inl rfl | exact .inr rfl | assumption) :
    PS X (.Assign [.Name x pos'] e pos) (tAsg te (gName i)) := by
  intro pins s σ H D I h
  refine wpAny_Assign_Name (thn (he pins s σ H _ I h) fun v s1 zz0 => ?_) hs
  obtain ⟨y, H1, I1, r1, q1⟩ := zz0
  exact store_ok I1 hN hi hx r1 (fun s2 I2 => ⟨_, H1, I2, q1⟩) hf
noncomputable def tAug (i : Nat) (te : TE) (ti : TIp) : TS := fun D σ H => ∃ x, σ[i]? = some (some x) ∧ te σ H fun y H1 => ti x y H1 fun z H2 => D.nx (σ.set i (some z)) H2
theorem ps_aug {i : Nat} {x : Str} {e : Expr} {te : TE} {op : Operator} {ti : TIp} {pos' : Pos} (hN : X.N.Nodup) (hi : X.N[i]? = some x) (hx : Loc X.env.scope x) (he : PE X e te) (ho : PIp X op ti) (hf : X.fn x = true ∨ X.env.scope.names.lookup x = some .local := by first | exact .inl rfl | exact .inr rfl | assumption) :
    PS X (.AugAssign (.Name x pos') op e pos) (tAug i te ti) := by
  intro pins s σ H D I h
  obtain ⟨v, e1, h⟩ := h
  obtain ⟨m, hn, hl⟩ := I.loc
  have vis : Vis X.env.scope x := by rcases hx with k | k; exact .inl k; exact .inr (.inl k)
  obtain ⟨u, r, l⟩ := hl i x v hi e1 vis
  refine wpAny_AugAssign_Name ?_
  have go : wpAny (model X.prog X.w) X.A (eval e X.env) (fun w s₂ => wpAny (model X.prog X.w) X.A (inplaceOp op u w) (fun r s₃ => wpAny (model X.prog X.w) X.A (storeName X.env x r) (fun _ => SP X pins D .next) X.xe s₃) X.xe s₂) X.xe s := by
    refine thn (he pins s σ H _ I h) fun w s1 zz0 => ?_
    obtain ⟨y, H1, I1, r1, q1⟩ := zz0
    refine thn (ho pins s1 σ H1 v y u w _ I1 r r1 q1) fun z s2 zz0 => ?_
    obtain ⟨zv, H2, I2, r2, q2⟩ := zz0
    exact store_ok I2 hN hi hx r2 (fun s3 I3 => ⟨_, H2, I3, q2⟩) hf
  rcases l with ⟨hk, hm⟩ | ⟨hk, c, hc, hcell⟩
  · exact wpAny_loadName_local I.ok.kind hk hn hm go
  · rcases hk with hk | hk
    · exact wpAny_loadName_cell I.ok.kind hk hc hcell go
    · rcases hx with k | k
      · have : X.env.scope.names.lookup x = some .free := hk
        rw [k] at this; cases this
      · have : X.env.scope.names.lookup x = some .free := hk
        rw [k] at this; cases this
end
section
variable {X : Cx} {pos : Pos}
noncomputable def tWhile (c : TT) (tb : TS) : TS := fun D σ H => ∃ W : Nat → St → Hp → Prop, (∃ m, W m σ H) ∧ ∀ m σ H, W m σ H →
  c σ H fun b H1 => if b = true then ∃ N : St → Hp → Prop, (∀ σ' H', N σ' H' → ∃ m', m' < m ∧ W m' σ' H') ∧ tb { D with nx := N, ct := N, bk := D.nx } σ H1 else D.nx σ H1
theorem ps_while {c : Expr} {body : List Stmt} {tc : TT} {tb : TS} (hp : PassesOwn (model X.prog X.w) X.A X.env X.xe) (hc : PT X c tc) (hb : PSs X body tb) : PS X (.While c body [] pos) (tWhile tc tb) := by
  intro pins s σ H D I h
  obtain ⟨W, ⟨m0, w0⟩, turn⟩ := h
  refine wpAny_While (codeAny_whileLoop (fun n s' => ∃ σ' H', Inv X pins σ' H' s' ∧ W n σ' H') ?_ m0 ⟨σ, H, I, w0⟩)
  rintro n s1 ⟨σ1, H1, I1, w1⟩
  refine wpAny_passesOwn hp (thn (hc pins s1 σ1 H1 _ I1 (turn n σ1 H1 w1)) fun b s2 zz0 => ?_)
  obtain ⟨H2, I2, q2⟩ := zz0
  cases b with
  | true =>
    obtain ⟨N, hN, q2⟩ := q2
    rw [if_pos rfl]
    refine wpAny_passesOwn hp (thn (hb pins s2 σ1 H2 _ I2 q2) fun f s3 q3 => ?_)
    cases f with
    | next =>
      obtain ⟨σ3, H3, I3, n3⟩ := q3
      obtain ⟨m', hm, w3⟩ := hN σ3 H3 n3
      exact ⟨m', hm, σ3, H3, I3, w3⟩
    | cont =>
      obtain ⟨σ3, H3, I3, n3⟩ := q3
      obtain ⟨m', hm, w3⟩ := hN σ3 H3 n3
      exact ⟨m', hm, σ3, H3, I3, w3⟩
    | brk => exact q3
    | ret v => exact q3
  | false =>
    rw [if_neg Bool.false_ne_true]
    exact wpAny_execs_nil ⟨σ1, H2, I2, q2⟩
end
structure It where
  go : Nat → Hp → Prop
  yld : Nat → Hp → V → Hp → Prop
  stop : Nat → Hp → Prop
noncomputable def FpOk (X : Cx) (pins : List (Addr × Obj)) (H : Hp) (b : Addr) : Prop :=
  H b = none ∧ b ≠ X.env.locals ∧ b ∉ X.fs ∧ (b ∈ X.ex ∨ X.s₀.heap.objs.size ≤ b) ∧ (∀ x c, X.env.cells.lookup x = some c → c ≠ b) ∧ ∀ p ∈ X.pn ++ pins, p.1 ≠ b
theorem Inv.fpOk {X : Cx} {pins : List (Addr × Obj)} {σ : St} {H H' : Hp} {s : Shared} {b : Addr} (I : Inv X pins σ H s) (hb : s.heap.objs.size ≤ b) (hn : H' b = none) : FpOk X pins H' b := by
  refine ⟨hn, Nat.ne_of_gt (Nat.lt_of_lt_of_le I.lt hb), I.nofs hb, .inr (Nat.le_trans I.sz hb), fun x c e z => ?_, fun p hp z => ?_⟩
  · obtain ⟨v, q⟩ := I.cell x c e
    exact absurd (Nat.lt_of_lt_of_le q.lt (by rw [z]; exact hb)) (Nat.lt_irrefl _)
  · exact absurd (Nat.lt_of_lt_of_le (Heap.lt_size (I.pin p hp).1) (by rw [z]; exact hb)) (Nat.lt_irrefl _)
structure Turn (P : Program) (w : World) (K : PySem.W.Frag) (tg : Expr) (J : It) (fp : List Addr) (it : Addr) (tn : Nat → Heap → Prop) : Prop where
  mem : it ∈ fp
  obj : ∀ i h, tn i h → ∀ b ∈ fp, ∃ o, h.get? b = some o ∧ ∀ v, o.data ≠ .cell v
  keep : ∀ i h h', tn i h → (∀ b ∈ fp, ∀ o, h.get? b = some o → h'.get? b = some o) → tn i h'
  item : ∀ (X : Cx), X.prog = P → X.w = w → X.K = K → X.calm = true → ∀ (i : Nat) (pins : List (Addr × Obj)) (s : Shared) (σ : St) (H : Hp) (E : Value → Shared → Prop), Inv X pins σ H s → (∀ b ∈ fp, FpOk X pins H b) → tn i s.heap → J.go i H →
    wpAny (model P w) X.A (pyNext (.ref it)) (fun r s1 => ∃ u, r = some u ∧
      wpAny (model P w) X.A (letOwnedTupleGo tg (.ref it) u) (fun _ s2 => ∃ x H', Inv X pins σ H' s2 ∧ RelV x u ∧ J.yld i H x H' ∧ tn (i + 1) s2.heap ∧ ∀ b ∈ fp, H' b = none) E s1) E s
  done : ∀ (X : Cx), X.prog = P → X.w = w → X.K = K → X.calm = true → ∀ (i : Nat) (pins : List (Addr × Obj)) (s : Shared) (σ : St) (H : Hp) (E : Value → Shared → Prop), Inv X pins σ H s → (∀ b ∈ fp, FpOk X pins H b) → tn i s.heap → J.stop i H →
    wpAny (model P w) X.A (pyNext (.ref it)) (fun r s1 => r = none ∧ Inv X pins σ H s1) E s
  self : ∀ (A : Around) (i : Nat) (s : Shared) (Q : Value → Shared → Prop) (E : Value → Shared → Prop), tn i s.heap → Q (.ref it) s → wpAny (model P w) A (pyIter (.ref it)) Q E s
noncomputable abbrev TI := St → Hp → (It → Hp → Prop) → Prop
noncomputable def PIE (X : Cx) (pins : List (Addr × Obj)) (σ : St) (tg : Expr) (R : It → Hp → Prop) (itv : Value) (s2 : Shared) : Prop :=
  ∃ (it : Addr) (fp : List Addr) (tn : Nat → Heap → Prop) (J : It) (H' : Hp), itv = .ref it ∧ Inv X pins σ H' s2 ∧ Turn X.prog X.w X.K tg J fp it tn ∧ tn 0 s2.heap ∧ (∀ b ∈ fp, FpOk X pins H' b) ∧ R J H'
noncomputable def PI (X : Cx) (tg iter : Expr) (wi : TI) : Prop :=
  ∀ (pins : List (Addr × Obj)) (s : Shared) (σ : St) (H : Hp) (R : It → Hp → Prop), Inv X pins σ H s → wi σ H R →
    wpAny (model X.prog X.w) X.A (eval iter X.env) (fun v s1 => wpAny (model X.prog X.w) X.A (pyIter v) (PIE X pins σ tg R) X.xe s1) X.xe s
theorem go_of {M : Model} {A : Around} {E : Value → Shared → Prop} {s : Shared} {tg : Expr} {it : Addr} {u : Value} {o : Obj} {n : String} {vs : Array Value} {Q : Unit → Shared → Prop} (ho : s.heap.get? it = some o) (hc : o.cls = .type n) (hd : o.data = .fields vs)
    (hn : ["enumerate", "zip", "dict_itemiterator", "dict_reverseitemiterator", "odict_iterator", "itertools.zip_longest", "itertools.pairwise"].contains n = false) (hQ : Q () s) : wpAny M A (letOwnedTupleGo tg (.ref it) u) Q E s := by
  unfold letOwnedTupleGo
  cases tg <;> first
    | exact wpAny_pure hQ
    | (cases u <;> first
        | exact wpAny_pure hQ
        | (refine wpAny_bind (wpAny_load ho ?_)
           rw [hc, hd]
           show wpAny M A (if (["enumerate", "zip", "dict_itemiterator", "dict_reverseitemiterator", "odict_iterator", "itertools.zip_longest", "itertools.pairwise"].contains n && vs[0]? == some (rawInt _)) = true then _ else _) Q E s
           rw [if_neg (by intro h; rw [hn, Bool.false_and] at h; cases h)]
           exact wpAny_pure hQ))
noncomputable def Itl (K : PySem.W.Frag) (a : Addr) : It :=
  ⟨fun i H => ∃ xs x, SqL K H a xs ∧ xs[i]? = some x, fun i H x H' => H' = H ∧ ∀ xs, SqL K H a xs → xs[i]? = some x, fun i H => ∃ xs, SqL K H a xs ∧ xs.length ≤ i⟩
noncomputable def Itt (K : PySem.W.Frag) (a : Addr) : It :=
  ⟨fun i H => ∃ xs x, SqT K H a xs ∧ xs[i]? = some x, fun i H x H' => H' = H ∧ ∀ xs, SqT K H a xs → xs[i]? = some x, fun i H => ∃ xs, SqT K H a xs ∧ xs.length ≤ i⟩
noncomputable def Itr (lo : Int) (n : Nat) : It := ⟨fun i _ => i < n, fun i H x H' => H' = H ∧ x = .int (lo + i), fun i _ => n ≤ i⟩
theorem turn_list {P : Program} {w : World} {K : PySem.W.Frag} {tg : Expr} (a it : Addr) : Turn P w K tg (Itl K a) [it] it (fun i h => h.IsListIter it a i) where
  mem := by simp
  obj := fun i h st b hb => by
    have e : b = it := by simpa using hb
    subst e
    obtain ⟨o, e, c, d⟩ := st
    exact ⟨o, e, fun v z => by rw [d] at z; cases z⟩
  keep := fun i h h' st k => st.at fun o e => k it (by simp) o e
  item := by
    intro X hP hw hK hc i pins s σ H E I hf st hg
    subst hP hw hK
    obtain ⟨xs, x, hq, hx⟩ := hg
    obtain ⟨its, rv, p, hz⟩ := I.list hq
    obtain ⟨u, hu, ru⟩ := rv.get hx
    obtain ⟨f0, f1, f2, f3, f4, f5⟩ := hf it (by simp)
    refine wpAny_pyNext_list_item st p.isList (x := u) (by simpa using hu) fun h' st' sb => ?_
    have I1 : Inv X pins σ H { s with heap := h' } := I.turned (t' := s.toks) (fun b o hb e => (sb.2 b hb).trans e) f0 f1 f3 f4 f5
    obtain ⟨o, e, c, d⟩ := id st'
    exact ⟨u, rfl, go_of (s := { s with heap := h' }) e c d (by decide) ⟨x, H, I1, ru, ⟨rfl, fun ys hy => by rw [I.list_inj hy hq]; exact hx⟩, st', fun b hb => (hf b hb).1⟩⟩
  done := by
    intro X hP hw hK hc i pins s σ H E I hf st hg
    subst hP hw hK
    obtain ⟨xs, hq, hx⟩ := hg
    obtain ⟨its, rv, p, hz⟩ := I.list hq
    obtain ⟨f0, f1, f2, f3, f4, f5⟩ := hf it (by simp)
    have hl := rv.length
    exact wpAny_pyNext_list_end (I.ok.hd hc) st p.isList (by simp; (first | lia | omega)) fun h' eb => ⟨rfl, I.turned (t' := s.toks) (fun b o hb e => eb b o hb e) f0 f1 f3 f4 f5⟩
  self := fun _ _ _ _ _ st h => wpAny_pyIter_listiter st h
theorem turn_tuple {P : Program} {w : World} {K : PySem.W.Frag} {tg : Expr} (a it : Addr) : Turn P w K tg (Itt K a) [it] it (fun i h => h.IsTupleIter it a i) where
  mem := by simp
  obj := fun i h st b hb => by
    have e : b = it := by simpa using hb
    subst e
    obtain ⟨o, e, c, d⟩ := st
    exact ⟨o, e, fun v z => by rw [d] at z; cases z⟩
  keep := fun i h h' st k => st.at fun o e => k it (by simp) o e
  item := by
    intro X hP hw hK hc i pins s σ H E I hf st hg
    subst hP hw hK
    obtain ⟨xs, x, hq, hx⟩ := hg
    obtain ⟨its, rv, p, hz⟩ := I.tuple hq
    obtain ⟨u, hu, ru⟩ := rv.get hx
    obtain ⟨f0, f1, f2, f3, f4, f5⟩ := hf it (by simp)
    refine wpAny_pyNext_tuple_item st (show s.heap.IsTuple a its.toArray from p) (x := u) (by simpa using hu) fun h' st' sb => ?_
    have I1 : Inv X pins σ H { s with heap := h' } := I.turned (t' := s.toks) (fun b o hb e => (sb.2 b hb).trans e) f0 f1 f3 f4 f5
    obtain ⟨o, e, c, d⟩ := id st'
    exact ⟨u, rfl, go_of (s := { s with heap := h' }) e c d (by decide) ⟨x, H, I1, ru, ⟨rfl, fun ys hy => by rw [I.tuple_inj hy hq]; exact hx⟩, st', fun b hb => (hf b hb).1⟩⟩
  done := by
    intro X hP hw hK hc i pins s σ H E I hf st hg
    subst hP hw hK
    obtain ⟨xs, hq, hx⟩ := hg
    obtain ⟨its, rv, p, hz⟩ := I.tuple hq
    obtain ⟨f0, f1, f2, f3, f4, f5⟩ := hf it (by simp)
    have hl := rv.length
    exact wpAny_pyNext_tuple_end (I.ok.hd hc) st (show s.heap.IsTuple a its.toArray from p) (by simp; (first | lia | omega)) fun h' eb => ⟨rfl, I.turned (t' := s.toks) (fun b o hb e => eb b o hb e) f0 f1 f3 f4 f5⟩
  self := fun _ _ _ _ _ st h => wpAny_pyIter_tupleiter st h
theorem turn_range {P : Program} {w : World} {K : PySem.W.Frag} {tg : Expr} (it : Addr) (lo : Int) (n : Nat) : Turn P w K tg (Itr lo n) [it] it (fun i h => IsRangeIter h it (lo + (i : Nat) * 1) ((n : Int) - (i : Nat)) 1) where
  mem := by simp
  obj := fun i h st b hb => by
    have e : b = it := by simpa using hb
    subst e
    exact ⟨_, st, fun v z => by
      have z' : Data.fields _ = Data.cell v := z
      cases z'⟩
  keep := fun i h h' st k => k it (by simp) _ st
  item := by
    intro X hP hw hK hc i pins s σ H E I hf st hg
    subst hP hw hK
    obtain ⟨f0, f1, f2, f3, f4, f5⟩ := hf it (by simp)
    have W := Walks.range (prog := X.prog) (w := X.w) (I.ok.hd hc) it lo 1 n
    refine W.item i s _ _ hg st fun v h' tk hv st' kk => ?_
    obtain ⟨t, rfl⟩ := hv
    have I1 : Inv X pins σ H { s with heap := h', toks := tk } := I.turned (fun b o hb e => kk b o (by simpa using hb) e) f0 f1 f3 f4 f5
    refine ⟨_, rfl, go_of (s := { s with heap := h', toks := tk }) (n := "range_iterator") st' rfl rfl (by decide) ⟨.int (lo + i), H, I1, ⟨t, ?_⟩, ⟨rfl, rfl⟩, st', fun b hb => (hf b hb).1⟩⟩
    rw [Int.mul_one]
  done := by
    intro X hP hw hK hc i pins s σ H E I hf st hg
    subst hP hw hK
    obtain ⟨f0, f1, f2, f3, f4, f5⟩ := hf it (by simp)
    exact wpAny_pyNext_range_end (I.ok.hd hc) st (by have : n ≤ i := hg; (first | lia | omega)) fun h' eb => ⟨rfl, I.turned (t' := s.toks) (fun b o hb e => eb b o hb e) f0 f1 f3 f4 f5⟩
  self := fun _ _ _ _ _ st h => wpAny_pyIter_rangeiter st h
end L2
namespace L2
open PySem PySem.Spec PyProof.Rows
section
variable {X : Cx} {tg : Expr}
theorem range_it {pins : List (Addr × Obj)} {σ : St} {H : Hp} {s : Shared} {R : It → Hp → Prop} {E : Value → Shared → Prop} {lo hi : Int} {t u v : Tok} {tk : Nat} (I : Inv X pins σ H s) (h1 : -(2 ^ 62) ≤ lo) (h2 : lo < 2 ^ 62) (h3 : -(2 ^ 62) ≤ hi) (h4 : hi < 2 ^ 62)
    (q : R (Itr lo (hi - lo).toNat) H) : wpAny (model X.prog X.w) X.A (pyIter (.ref s.heap.objs.size)) (PIE X pins σ tg R) E { s with heap := s.heap.push { cls := .type "range", data := .fields #[.int lo t, .int hi u, .int 1 v] }, toks := tk } := by
  refine wpAny_pyIter_range (IsRange.new ..) (small_one h1 h2 h3 h4) ?_
  have I1 : Inv X pins σ H { s with heap := s.heap.push { cls := .type "range", data := .fields #[.int lo t, .int hi u, .int 1 v] }, toks := tk } := I.kept fun b o e => Heap.get?_push_of_some _ e
  refine ⟨(s.heap.push { cls := .type "range", data := .fields #[.int lo t, .int hi u, .int 1 v] }).objs.size, [(s.heap.push { cls := .type "range", data := .fields #[.int lo t, .int hi u, .int 1 v] }).objs.size], _, _, H, rfl,
    I1.kept (t' := tk) fun b o e => Heap.get?_push_of_some _ e, turn_range _ lo (hi - lo).toNat, ?_, fun b hb => ?_, q⟩
  · have e1 : lo + ((0 : Nat) : Int) * 1 = lo := by simp
    have e2 : (((hi - lo).toNat : Nat) : Int) - ((0 : Nat) : Int) = Builtin.Range.rangeSize lo hi 1 := by rw [rangeSize_one]; split <;> (first | lia | omega)
    show IsRangeIter _ _ (lo + ((0 : Nat) : Int) * 1) ((((hi - lo).toNat : Nat) : Int) - ((0 : Nat) : Int)) 1
    rw [e1, e2]
    exact Heap.get?_push_size _ rfl
  · have e : b = (s.heap.push { cls := .type "range", data := .fields #[.int lo t, .int hi u, .int 1 v] }).objs.size := by simpa using hb
    subst e
    exact I1.fpOk (Nat.le_refl _) (I1.hok.fresh (Nat.le_refl _))
noncomputable def iRng1 (ta : TA) : TI := fun σ H R => ta σ H fun vs H1 => ∃ j : Int, vs = [.int j] ∧ -(2 ^ 62) ≤ j ∧ j < 2 ^ 62 ∧ R (Itr 0 j.toNat) H1
theorem pi_range1 {a : Expr} {ta : TA} {p pos : Pos} (hg : Gl X "range") (hm : X.mg "range" = none) (ha : PA X [a] ta) (hs : starEach [a] X.env = [(false, eval a X.env)] := by rfl) : PI X tg (.Call (.Name "range" p) [a] [] pos) (iRng1 ta) := by
  intro pins s σ H R I h
  refine Call_ (ld_blt I hg hm boot_range (PyProof.Rows.callWith_type1 (thn (ha pos pins s σ H _ I h) fun us s1 zz0 => ?_) hs rfl))
  obtain ⟨vs, H1, I1, r1, q1⟩ := zz0
  obtain ⟨j, e, q1, q2, q⟩ := q1
  subst e
  cases r1 with
  | cons r rr =>
    cases rr
    obtain ⟨t, rfl⟩ := r
    exact call_range_1 (range_it I1 (by (first | lia | omega)) (by (first | lia | omega)) q1 q2 (by simpa using q))
noncomputable def tFor (wi : TI) (g : TG) (tb : TS) : TS := fun D σ H => wi σ H fun J H1 => ∃ W : Nat → Nat → St → Hp → Prop, (∃ m, W 0 m σ H1) ∧ ∀ i m σ H, W i m σ H →
  (J.stop i H ∧ D.nx σ H) ∨ (J.go i H ∧ ∃ N : St → Hp → Prop, (∀ σ' H', N σ' H' → ∃ m', m' < m ∧ W (i + 1) m' σ' H') ∧ ∀ x H', J.yld i H x H' → g x σ H' fun σ2 H2 => tb { D with nx := N, ct := N, bk := D.nx } σ2 H2)
noncomputable def pinsAt (fp : List Addr) (h : Heap) : List (Addr × Obj) := fp.filterMap fun b => (h.get? b).map fun o => (b, o)
theorem mem_pinsAt {fp : List Addr} {h : Heap} {b : Addr} {o : Obj} (hb : b ∈ fp) (e : h.get? b = some o) : (b, o) ∈ pinsAt fp h := List.mem_filterMap.mpr ⟨b, hb, by rw [e]; rfl⟩
theorem of_pinsAt {fp : List Addr} {h : Heap} {p : Addr × Obj} (hp : p ∈ pinsAt fp h) : p.1 ∈ fp ∧ h.get? p.1 = some p.2 := by
  obtain ⟨b, hb, e⟩ := List.mem_filterMap.mp hp
  cases q : h.get? b with
  | none => rw [q] at e; cases e
  | some o =>
    rw [q] at e
    have e' : (b, o) = p := Option.some.inj e
    subst e'
    exact ⟨hb, q⟩
theorem Inv.pinned {pins : List (Addr × Obj)} {σ : St} {H : Hp} {s : Shared} {fp : List Addr} (I : Inv X pins σ H s) (hf : ∀ b ∈ fp, FpOk X pins H b) (ho : ∀ b ∈ fp, ∃ o, s.heap.get? b = some o ∧ ∀ v, o.data ≠ .cell v) : Inv X (pins ++ pinsAt fp s.heap) σ H s :=
  I.pins_of fun p hp => (List.mem_append.mp hp).elim (fun z => I.pin p (List.mem_append_right _ z)) fun z => by
    obtain ⟨hb, e⟩ := of_pinsAt z
    obtain ⟨f0, f1, f2, _⟩ := hf p.1 hb
    obtain ⟨o, e', d⟩ := ho p.1 hb
    rw [e] at e'; cases e'
    exact ⟨e, f0, f1, f2, d⟩
theorem Inv.unpinned {pins pl : List (Addr × Obj)} {σ : St} {H : Hp} {s : Shared} (I : Inv X (pins ++ pl) σ H s) : Inv X pins σ H s := I.pins_of fun p hp => I.pin p (List.mem_append_right _ (List.mem_append_left _ hp))
theorem ps_for {iter : Expr} {body : List Stmt} {wi : TI} {g : TG} {tb : TS} {pos : Pos} (hp : PassesOwn (model X.prog X.w) X.A X.env X.xe) (hc : X.calm = true) (hi : PI X tg iter wi) (hg : PG X tg g) (hb : PSs X body tb)
    (hs : ∀ x, foldedSetIterable iter X.env x = pure x := by intro _; rfl) : PS X (.For tg iter body [] pos) (tFor wi g tb) := by
  intro pins s σ H D I h
  refine wpAny_For (thn (hi pins s σ H _ I h) fun v s1 h1 => thn h1 fun itv s2 h2 => ?_) hs
  obtain ⟨it, fp, tn, J, H2, e, I2, T, st2, f2, W, ⟨m0, w0⟩, turn⟩ := h2
  subst e
  have stat : ∀ {H' : Hp}, (∀ b ∈ fp, H' b = none) → ∀ b ∈ fp, FpOk X pins H' b := fun hn b hb => ⟨hn b hb, (f2 b hb).2⟩
  refine codeAny_forLoop_any (fun n s' => ∃ i σ' H', Inv X pins σ' H' s' ∧ tn i s'.heap ∧ (∀ b ∈ fp, H' b = none) ∧ W i n σ' H') ?_ m0 ⟨0, σ, H2, I2, st2, fun b hb => (f2 b hb).1, w0⟩
  rintro n s3 ⟨i, σ3, H3, I3, st3, fr3, w3⟩
  rcases turn i n σ3 H3 w3 with ⟨stop, qn⟩ | ⟨go, N, hN, step⟩
  · refine wpAny_passesOwn hp (thn (T.done X rfl rfl rfl hc i pins s3 σ3 H3 X.xe I3 (stat fr3) st3 stop) fun r s4 zz0 => ?_)
    obtain ⟨hr, I4⟩ := zz0
    subst hr
    exact wpAny_execs_nil ⟨σ3, H3, I4, qn⟩
  · refine wpAny_passesOwn hp (thn (T.item X rfl rfl rfl hc i pins s3 σ3 H3 X.xe I3 (stat fr3) st3 go) fun r s4 zz0 => ?_)
    obtain ⟨u, hr, h4⟩ := zz0
    subst hr
    refine wpAny_passesOwn hp (thn h4 fun _ s5 zz0 => ?_)
    obtain ⟨x, H5, I5, r5, y5, st5, fr5⟩ := zz0
    have I5' := I5.pinned (stat fr5) (T.obj _ _ st5)
    refine wpAny_passesOwn hp (thn (hg _ s5 σ3 H5 x u _ I5' r5 (step x H5 y5)) fun _ s6 zz0 => ?_)
    obtain ⟨σ6, H6, I6, q6⟩ := zz0
    refine wpAny_passesOwn hp (thn (hb _ s6 σ6 H6 _ I6 q6) fun f s7 q7 => ?_)
    have again : ∀ {σ7 : St} {H7 : Hp}, Inv X (pins ++ pinsAt fp s5.heap) σ7 H7 s7 → N σ7 H7 → ∃ m, m < n ∧ ∃ i σ' H', Inv X pins σ' H' s7 ∧ tn i s7.heap ∧ (∀ b ∈ fp, H' b = none) ∧ W i m σ' H' := fun {σ7 H7} I7 n7 => by
      obtain ⟨m', hm, w7⟩ := hN σ7 H7 n7
      refine ⟨m', hm, i + 1, σ7, H7, I7.unpinned, T.keep _ _ _ st5 fun b hb o e => (I7.pin (b, o) (List.mem_append_right _ (List.mem_append_right _ (mem_pinsAt hb e)))).1, fun b hb => ?_, w7⟩
      obtain ⟨o, e, d⟩ := T.obj _ _ st5 b hb
      exact (I7.pin (b, o) (List.mem_append_right _ (List.mem_append_right _ (mem_pinsAt hb e)))).2.1
    cases f with
    | next => obtain ⟨σ7, H7, I7, n7⟩ := q7; exact again I7 n7
    | cont => obtain ⟨σ7, H7, I7, n7⟩ := q7; exact again I7 n7
    | brk => obtain ⟨σ7, H7, I7, q7⟩ := q7; exact ⟨σ7, H7, I7.unpinned, q7⟩
    | ret v => obtain ⟨x7, σ7, H7, I7, r7, q7⟩ := q7; exact ⟨x7, σ7, H7, I7.unpinned, r7, q7⟩
end
theorem for_range {lo : Int} {n : Nat} {g : TG} {tb : TS} {D : Ends} {σ : St} {H : Hp} (Pv : Nat → St → Hp → Prop) (h0 : Pv 0 σ H)
    (hs : ∀ i σ H, i < n → Pv i σ H → g (.int (lo + i)) σ H fun σ2 H2 => tb { D with nx := Pv (i + 1), ct := Pv (i + 1), bk := D.nx } σ2 H2) (hd : ∀ σ H, Pv n σ H → D.nx σ H) :
    ∃ W : Nat → Nat → St → Hp → Prop, (∃ m, W 0 m σ H) ∧ ∀ i m σ H, W i m σ H →
      ((Itr lo n).stop i H ∧ D.nx σ H) ∨ ((Itr lo n).go i H ∧ ∃ N : St → Hp → Prop, (∀ σ' H', N σ' H' → ∃ m', m' < m ∧ W (i + 1) m' σ' H') ∧ ∀ x H', (Itr lo n).yld i H x H' → g x σ H' fun σ2 H2 => tb { D with nx := N, ct := N, bk := D.nx } σ2 H2) := by
  refine ⟨fun i m σ H => m = n - i ∧ i ≤ n ∧ Pv i σ H, ⟨n, by simp, Nat.zero_le _, h0⟩, ?_⟩
  rintro i m σ H ⟨rfl, hi, p⟩
  by_cases hlt : i < n
  · refine .inr ⟨hlt, Pv (i + 1), fun σ' H' p' => ⟨n - (i + 1), by (first | lia | omega), rfl, hlt, p'⟩, fun x H' y => ?_⟩
    obtain ⟨e, y⟩ := y
    subst e y
    exact hs i σ _ hlt p
  · have e : i = n := by (first | lia | omega)
    subst e
    exact .inl ⟨Nat.le_refl _, hd σ H p⟩
end L2
namespace L2
open PySem PySem.Spec PyProof.Rows
noncomputable abbrev R2 := V → V → Hp → VK → Prop
noncomputable def OpR (X : Cx) (f : Value → Value → Sem Value) (r : R2) : Prop :=
  ∀ (pins : List (Addr × Obj)) (s : Shared) (σ : St) (H : Hp) (x y : V) (v u : Value) (Q : VK), Inv X pins σ H s → RelV x v → RelV y u → r x y H Q →
    wpAny (model X.prog X.w) X.A (f v u) (EP X pins σ Q) X.xe s
noncomputable def UnR (X : Cx) (f : Value → Sem Value) (r : V → Hp → VK → Prop) : Prop :=
  ∀ (pins : List (Addr × Obj)) (s : Shared) (σ : St) (H : Hp) (x : V) (v : Value) (Q : VK), Inv X pins σ H s → RelV x v → r x H Q →
    wpAny (model X.prog X.w) X.A (f v) (EP X pins σ Q) X.xe s
noncomputable def CallR (X : Cx) (f : Value) (r : List V → Hp → VK → Prop) : Prop :=
  ∀ (pins : List (Addr × Obj)) (s : Shared) (σ : St) (H : Hp) (xs : List V) (us : List Value) (Q : VK), Inv X pins σ H s → Vals xs us → r xs H Q →
    wpAny (model X.prog X.w) X.A (call f us) (EP X pins σ Q) X.xe s
noncomputable def TruR (X : Cx) (r : V → Hp → (Bool → Hp → Prop) → Prop) : Prop :=
  ∀ (pins : List (Addr × Obj)) (s : Shared) (σ : St) (H : Hp) (x : V) (v : Value) (Q : Bool → Hp → Prop), Inv X pins σ H s → RelV x v → r x H Q →
    wpAny (model X.prog X.w) X.A (truthy v) (TP X pins σ Q) X.xe s
noncomputable def tOp (r : R2) (ta tb : TE) : TE := fun σ H Q => ta σ H fun x H1 => tb σ H1 fun y H2 => r x y H2 Q
noncomputable def tUn (r : V → Hp → VK → Prop) (ta : TE) : TE := fun σ H Q => ta σ H fun x H1 => r x H1 Q
noncomputable def rI (C : Int → Int → Prop) (g : Int → Int → V) : R2 := fun x y H Q => ∃ i j, x = .int i ∧ y = .int j ∧ C i j ∧ Q (g i j) H
noncomputable def rI0 (g : Int → Int → V) : R2 := fun x y H Q => ∃ i j, x = .int i ∧ y = .int j ∧ Q (g i j) H
noncomputable def rU (g : Int → V) : V → Hp → VK → Prop := fun x H Q => ∃ i, x = .int i ∧ Q (g i) H
section
variable {X : Cx} {a b c : Expr} {ta tb tc : TE} {pos : Pos}
theorem binT (ha : PE X a ta) (hb : PE X b tb) {pins : List (Addr × Obj)} {s : Shared} {σ : St} {H : Hp} {R : V → V → Hp → Prop} (I : Inv X pins σ H s)
    (h : ta σ H fun x H1 => tb σ H1 fun y H2 => R x y H2) {Q : Value → Shared → Prop} {f : Value → Value → Sem Value}
    (hf : ∀ v u s2 x y H2, Inv X pins σ H2 s2 → RelV x v → RelV y u → R x y H2 → wpAny (model X.prog X.w) X.A (f v u) Q X.xe s2) :
    wpAny (model X.prog X.w) X.A (eval a X.env) (fun v s₁ => wpAny (model X.prog X.w) X.A (eval b X.env) (fun u s₂ => wpAny (model X.prog X.w) X.A (f v u) Q X.xe s₂) X.xe s₁) X.xe s := by
  refine thn (ha pins s σ H _ I h) fun v s1 zz0 => ?_
  obtain ⟨x, H1, I1, r1, q1⟩ := zz0
  refine thn (hb pins s1 σ H1 _ I1 q1) fun u s2 zz0 => ?_
  obtain ⟨y, H2, I2, r2, q2⟩ := zz0
  exact hf v u s2 x y H2 I2 r1 r2 q2
theorem pe_op {op : Operator} {r : R2} (ho : OpR X (binaryOp op) r) (ha : PE X a ta) (hb : PE X b tb) : PE X (.BinOp a op b pos) (tOp r ta tb) := by
  intro pins s σ H Q I h
  exact wpAny_BinOp (binT ha hb I h fun v u s2 x y H2 I2 rx ry q => ho pins s2 σ H2 x y v u Q I2 rx ry q)
theorem pe_un {op : UnaryOp} {r : V → Hp → VK → Prop} (ho : UnR X (unaryOp op) r) (ha : PE X a ta) : PE X (.UnaryOp op a pos) (tUn r ta) := by
  intro pins s σ H Q I h
  refine UnaryOp_ (thn (ha pins s σ H _ I h) fun v s1 zz0 => ?_)
  obtain ⟨x, H1, I1, r1, q1⟩ := zz0
  exact ho pins s1 σ H1 x v Q I1 r1 q1
theorem opI {f : Value → Value → Sem Value} {C : Int → Int → Prop} {g : Int → Int → Int}
    (rule : ∀ (i j : Int) (t u : Tok) (s : Shared) (Q : Value → Shared → Prop) (E : Value → Shared → Prop), C i j → Q (.int (g i j) s.toks) { s with toks := s.toks + 1 } → wpAny (model X.prog X.w) X.A (f (.int i t) (.int j u)) Q E s) :
    OpR X f (rI C fun i j => .int (g i j)) := by
  intro pins s σ H x y v u Q I rx ry h
  obtain ⟨i, j, rfl, rfl, hc, q⟩ := h
  obtain ⟨t, rfl⟩ := rx
  obtain ⟨t', rfl⟩ := ry
  exact rule i j t t' s _ _ hc ⟨.int (g i j), H, I.tok _, ⟨_, rfl⟩, q⟩
theorem opI0 {f : Value → Value → Sem Value} {g : Int → Int → Int}
    (rule : ∀ (i j : Int) (t u : Tok) (s : Shared) (Q : Value → Shared → Prop) (E : Value → Shared → Prop), Q (.int (g i j) s.toks) { s with toks := s.toks + 1 } → wpAny (model X.prog X.w) X.A (f (.int i t) (.int j u)) Q E s) :
    OpR X f (rI0 fun i j => .int (g i j)) := by
  intro pins s σ H x y v u Q I rx ry h
  obtain ⟨i, j, rfl, rfl, q⟩ := h
  obtain ⟨t, rfl⟩ := rx
  obtain ⟨t', rfl⟩ := ry
  exact rule i j t t' s _ _ ⟨.int (g i j), H, I.tok _, ⟨_, rfl⟩, q⟩
theorem opB0 {f : Value → Value → Sem Value} {g : Int → Int → Bool}
    (rule : ∀ (i j : Int) (t u : Tok) (s : Shared) (Q : Value → Shared → Prop) (E : Value → Shared → Prop), Q (.bool (g i j)) s → wpAny (model X.prog X.w) X.A (f (.int i t) (.int j u)) Q E s) :
    OpR X f (rI0 fun i j => .bl (g i j)) := by
  intro pins s σ H x y v u Q I rx ry h
  obtain ⟨i, j, rfl, rfl, q⟩ := h
  obtain ⟨t, rfl⟩ := rx
  obtain ⟨t', rfl⟩ := ry
  exact rule i j t t' s _ _ ⟨.bl (g i j), H, I, rfl, q⟩
noncomputable def CDiv (i j : Int) : Prop := 0 < j ∧ j < 1073741824
noncomputable def CPow (i j : Int) : Prop := 0 ≤ j ∧ j ≤ 1000000 ∧ i.natAbs < 2 ^ 64
noncomputable def CMul (i j : Int) : Prop := (-(2 ^ 64) < i ∧ i < 2 ^ 64) ∨ (-(2 ^ 64) < j ∧ j < 2 ^ 64)
theorem CMul.ok {i j : Int} (h : CMul i j) : IntMulOk i j := by
  rcases h with ⟨h1, h2⟩ | ⟨h1, h2⟩
  · exact .of_left (intBits_le_64 h1 h2)
  · exact .of_right (intBits_le_64 h1 h2)
theorem op_add : OpR X (binaryOp .Add) (rI0 fun i j => .int (i + j)) := opI0 fun _ _ _ _ _ _ _ q => add_int q
theorem op_sub : OpR X (binaryOp .Sub) (rI0 fun i j => .int (i - j)) := opI0 fun _ _ _ _ _ _ _ q => sub_int q
theorem op_mul : OpR X (binaryOp .Mult) (rI CMul fun i j => .int (i * j)) := opI fun _ _ _ _ _ _ _ hc q => mul_int q hc.ok
theorem op_fdiv : OpR X (binaryOp .FloorDiv) (rI CDiv fun i j => .int (i / j)) := opI fun i j _ _ _ _ _ hc q => by
  have h1 : (0 : Int) < j := hc.1
  have h2 : j < 1073741824 := hc.2
  exact floordiv_int (by (first | lia | omega)) (by rw [Int.fdiv_eq_ediv_of_nonneg i (by (first | lia | omega))]; exact q) (.inl (PyProof.noPylong_small (by (first | lia | omega))))
theorem op_mod : OpR X (binaryOp .Mod) (rI (fun _ j => 0 < j) fun i j => .int (i % j)) := opI fun i j _ _ _ _ _ hc q => by
  have h1 : (0 : Int) < j := hc
  exact mod_int' (by (first | lia | omega)) (by rw [Int.fmod_eq_emod_of_nonneg i (by (first | lia | omega))]; exact q)
theorem op_pow : OpR X (binaryOp .Pow) (rI CPow fun i j => .int (i ^ j.toNat)) := opI fun _ _ _ _ _ _ _ hc q => pow_int_small hc.1 hc.2.1 hc.2.2 q
theorem iop_add : OpR X (inplaceOp .Add) (rI0 fun i j => .int (i + j)) := opI0 fun _ _ _ _ _ _ _ q => iadd_int q
theorem unI {f : Value → Sem Value} {g : Int → Int}
    (rule : ∀ (i : Int) (t : Tok) (s : Shared) (Q : Value → Shared → Prop) (E : Value → Shared → Prop), Q (.int (g i) s.toks) { s with toks := s.toks + 1 } → wpAny (model X.prog X.w) X.A (f (.int i t)) Q E s) :
    UnR X f (rU fun i => .int (g i)) := by
  intro pins s σ H x v Q I rx h
  obtain ⟨i, rfl, q⟩ := h
  obtain ⟨t, rfl⟩ := rx
  exact rule i t s _ _ ⟨.int (g i), H, I.tok _, ⟨_, rfl⟩, q⟩
theorem un_neg : UnR X (unaryOp .USub) (rU fun i => .int (-i)) := unI fun _ _ _ _ _ q => neg_int q
end
noncomputable def scal : V → V → Bool
  | .non, .non => true | .non, .int _ => true | .int _, .non => true | .non, .bl _ => true | .bl _, .non => true | .non, .str _ => true | .str _, .non => true
  | .int _, .int _ => true | .bl _, .bl _ => true | .str _, .str _ => true | .byt _, .byt _ => true
  | .int _, .str _ => true | .str _, .int _ => true | .bl _, .str _ => true | .str _, .bl _ => true
  | _, _ => false
noncomputable def rEq : R2 := fun x y H Q => scal x y = true ∧ Q (.bl (decide (x = y))) H
noncomputable def rNe : R2 := fun x y H Q => scal x y = true ∧ Q (.bl (!decide (x = y))) H
theorem dec_int {i j : Int} : decide (V.int i = V.int j) = (i == j) := by
  rw [Bool.eq_iff_iff]
  simp
theorem dec_bl {i j : Bool} : decide (V.bl i = V.bl j) = (i == j) := by
  rw [Bool.eq_iff_iff]
  simp
theorem dec_str {i j : Str} : decide (V.str i = V.str j) = (i == j) := by
  rw [Bool.eq_iff_iff]
  simp
theorem dec_byt {i j : Array UInt8} : decide (V.byt i = V.byt j) = (i.toList == j.toList) := by
  rw [Bool.eq_iff_iff]
  cases i
  cases j
  simp
section
variable {X : Cx} {a b c : Expr} {ta tb tc : TE} {pos : Pos}
theorem fin_bl {pins : List (Addr × Obj)} {σ : St} {H : Hp} {s : Shared} {Q : VK} {k k' : Bool} (I : Inv X pins σ H s) (q : Q (.bl k) H) (e : k = k') : EP X pins σ Q (.bool k') s := by
  subst e
  exact ⟨.bl k, H, I, rfl, q⟩
theorem op_eq : OpR X (compareOp .Eq) rEq := by
  intro pins s σ H x y v u Q I rx ry h
  obtain ⟨hs, q⟩ := h
  cases x with
  | non =>
    cases rx
    cases y with
    | non => cases ry; exact PySem.EqNone.eq_none_none (fin_bl I q (by simp))
    | bl j => cases ry; exact PySem.EqNone.eq_none_bool (fin_bl I q (by simp))
    | int j => obtain ⟨t', rfl⟩ := ry; exact PySem.EqNone.eq_none_int (fin_bl I q (by simp))
    | str j => obtain ⟨t', rfl⟩ := ry; exact PySem.EqNone.eq_none_str (fin_bl I q (by simp))
    | _ => exact absurd (show false = true from hs) Bool.false_ne_true
  | bl i =>
    cases rx
    cases y with
    | non => cases ry; exact PySem.EqNone.eq_bool_none (fin_bl I q (by simp))
    | bl j => cases ry; exact eq_bool (fin_bl I q dec_bl)
    | str j => obtain ⟨t', rfl⟩ := ry; exact PySem.EqMixed.eq_bool_str (fin_bl I q (by simp))
    | _ => exact absurd (show false = true from hs) Bool.false_ne_true
  | int i =>
    obtain ⟨t, rfl⟩ := rx
    cases y with
    | non => cases ry; exact PySem.EqNone.eq_int_none (fin_bl I q (by simp))
    | int j => obtain ⟨t', rfl⟩ := ry; exact eq_int (fin_bl I q dec_int)
    | str j => obtain ⟨t', rfl⟩ := ry; exact PySem.EqMixed.eq_int_str (fin_bl I q (by simp))
    | _ => exact absurd (show false = true from hs) Bool.false_ne_true
  | str i =>
    obtain ⟨t, rfl⟩ := rx
    cases y with
    | non => cases ry; exact PySem.EqNone.eq_str_none (fin_bl I q (by simp))
    | bl j => cases ry; exact PySem.EqMixed.eq_str_bool (fin_bl I q (by simp))
    | int j => obtain ⟨t', rfl⟩ := ry; exact PySem.EqMixed.eq_str_int (fin_bl I q (by simp))
    | str j => obtain ⟨t', rfl⟩ := ry; exact eq_str (fin_bl I q dec_str)
    | _ => exact absurd (show false = true from hs) Bool.false_ne_true
  | byt i =>
    obtain ⟨t, rfl⟩ := rx
    cases y with
    | byt j => obtain ⟨t', rfl⟩ := ry; exact PySem.W.eq_bytes (fin_bl I q dec_byt)
    | _ => exact absurd (show false = true from hs) Bool.false_ne_true
  | _ => cases y <;> exact absurd (show false = true from hs) Bool.false_ne_true
theorem op_ne : OpR X (compareOp .NotEq) rNe := by
  intro pins s σ H x y v u Q I rx ry h
  obtain ⟨hs, q⟩ := h
  cases x with
  | non =>
    cases rx
    cases y with
    | non => cases ry; exact PySem.EqNone.ne_none_none (fin_bl I q (by simp))
    | bl j => cases ry; exact PySem.EqNone.ne_none_bool (fin_bl I q (by simp))
    | int j => obtain ⟨t', rfl⟩ := ry; exact PySem.EqNone.ne_none_int (fin_bl I q (by simp))
    | str j => obtain ⟨t', rfl⟩ := ry; exact PySem.EqNone.ne_none_str (fin_bl I q (by simp))
    | _ => exact absurd (show false = true from hs) Bool.false_ne_true
  | bl i =>
    cases rx
    cases y with
    | non => cases ry; exact PySem.EqNone.ne_bool_none (fin_bl I q (by simp))
    | bl j => cases ry; exact ne_bool (fin_bl I q (congrArg not dec_bl))
    | str j => obtain ⟨t', rfl⟩ := ry; exact PySem.EqMixed.ne_bool_str (fin_bl I q (by simp))
    | _ => exact absurd (show false = true from hs) Bool.false_ne_true
  | int i =>
    obtain ⟨t, rfl⟩ := rx
    cases y with
    | non => cases ry; exact PySem.EqNone.ne_int_none (fin_bl I q (by simp))
    | int j => obtain ⟨t', rfl⟩ := ry; exact ne_int (fin_bl I q (congrArg not dec_int))
    | str j => obtain ⟨t', rfl⟩ := ry; exact PySem.EqMixed.ne_int_str (fin_bl I q (by simp))
    | _ => exact absurd (show false = true from hs) Bool.false_ne_true
  | str i =>
    obtain ⟨t, rfl⟩ := rx
    cases y with
    | non => cases ry; exact PySem.EqNone.ne_str_none (fin_bl I q (by simp))
    | bl j => cases ry; exact PySem.EqMixed.ne_str_bool (fin_bl I q (by simp))
    | int j => obtain ⟨t', rfl⟩ := ry; exact PySem.EqMixed.ne_str_int (fin_bl I q (by simp))
    | str j => obtain ⟨t', rfl⟩ := ry; exact ne_str (fin_bl I q (congrArg not dec_str))
    | _ => exact absurd (show false = true from hs) Bool.false_ne_true
  | byt i =>
    obtain ⟨t, rfl⟩ := rx
    cases y with
    | byt j => obtain ⟨t', rfl⟩ := ry; exact PySem.W.ne_bytes (fin_bl I q (congrArg not dec_byt))
    | _ => exact absurd (show false = true from hs) Bool.false_ne_true
  | _ => cases y <;> exact absurd (show false = true from hs) Bool.false_ne_true
theorem op_lt : OpR X (compareOp .Lt) (rI0 fun i j => .bl (decide (i < j))) := opB0 fun _ _ _ _ _ _ _ q => lt_int q
theorem op_le : OpR X (compareOp .LtE) (rI0 fun i j => .bl (decide (i ≤ j))) := opB0 fun _ _ _ _ _ _ _ q => le_int q
theorem op_gt : OpR X (compareOp .Gt) (rI0 fun i j => .bl (decide (j < i))) := opB0 fun _ _ _ _ _ _ _ q => gt_int q
theorem op_ge : OpR X (compareOp .GtE) (rI0 fun i j => .bl (decide (j ≤ i))) := opB0 fun _ _ _ _ _ _ _ q => ge_int q
theorem op_in_str : OpR X (compareOp .In) (fun x y H Q => ∃ i j, x = .str i ∧ y = .str j ∧ Q (.bl (!(Builtin.Str.occurrences j i 0 j.length 1).isEmpty)) H) := by
  intro pins s σ H x y v u Q I rx ry h
  obtain ⟨i, j, rfl, rfl, q⟩ := h
  obtain ⟨t, rfl⟩ := rx
  obtain ⟨t', rfl⟩ := ry
  exact in_str (fin_bl I q rfl)
theorem op_isN : OpR X (compareOp .Is) (fun x y H Q => y = .non ∧ Q (.bl (decide (x = .non))) H) := by
  intro pins s σ H x y v u Q I rx ry h
  obtain ⟨rfl, q⟩ := h
  cases ry
  refine is_none_gen (fin_bl I q ?_)
  cases x <;> first
    | (cases rx; rfl)
    | (obtain ⟨t, rfl⟩ := rx; rfl)
theorem op_notN : OpR X (compareOp .IsNot) (fun x y H Q => y = .non ∧ Q (.bl (!decide (x = .non))) H) := by
  intro pins s σ H x y v u Q I rx ry h
  obtain ⟨rfl, q⟩ := h
  cases ry
  refine isnot_none_gen (fin_bl I q ?_)
  cases x <;> first
    | (cases rx; rfl)
    | (obtain ⟨t, rfl⟩ := rx; rfl)
theorem op_notin_str : OpR X (compareOp .NotIn) (fun x y H Q => ∃ i j, x = .str i ∧ y = .str j ∧ Q (.bl (!(!(Builtin.Str.occurrences j i 0 j.length 1).isEmpty))) H) := by
  intro pins s σ H x y v u Q I rx ry h
  obtain ⟨i, j, rfl, rfl, q⟩ := h
  obtain ⟨t, rfl⟩ := rx
  obtain ⟨t', rfl⟩ := ry
  exact notIn_str (fin_bl I q rfl)
theorem nomark (b : Expr) {op : CmpOp} (h : op ≠ .In := by decide) (h2 : op ≠ .NotIn := by decide) : behindInMarks op b = false := by
  have e1 : (op == CmpOp.In) = false := by cases op <;> first | rfl | exact absurd rfl h
  have e2 : (op == CmpOp.NotIn) = false := by cases op <;> first | rfl | exact absurd rfl h2
  cases b <;> simp [behindInMarks, e1, e2]
theorem pe_cmpR {op : CmpOp} {r : R2} (ho : OpR X (compareOp op) r) (ha : PE X a ta) (hb : PE X b tb) (hm : behindInMarks op b = false) : PE X (.Compare a [op] [b] pos) (tOp r ta tb) := by
  intro pins s σ H Q I h
  exact wpAny_Compare1 (binT ha hb I h fun v u s2 x y H2 I2 rx ry q => ho pins s2 σ H2 x y v u Q I2 rx ry q) hm
noncomputable def tTest (t : TE) : TT := fun σ H Q => t σ H fun x H' => ∃ k, x = .bl k ∧ Q k H'
theorem pt_cmpR {op : CmpOp} {r : R2} (ho : OpR X (compareOp op) r) (ha : PE X a ta) (hb : PE X b tb) (hm : behindInMarks op b = false) : PT X (.Compare a [op] [b] pos) (tTest (tOp r ta tb)) := by
  intro pins s σ H Q I h
  refine wpAny_isTrue_Compare1 (thn (ha pins s σ H _ I h) fun v s1 ⟨x, H1, I1, r1, q1⟩ => thn (hb pins s1 σ H1 _ I1 q1) fun u s2 ⟨y, H2, I2, r2, q2⟩ =>
    thn (ho pins s2 σ H2 x y v u _ I2 r1 r2 q2) fun c s3 ⟨z, H3, I3, r3, k, e, q3⟩ => ?_) hm
  subst e
  cases r3
  exact wpAny_truthy_bool ⟨H3, I3, q3⟩
noncomputable def tChain (r r' : R2) (ta tb tc : TE) : TE := fun σ H Q => ta σ H fun x H1 => tb σ H1 fun y H2 => r x y H2 fun z H3 => ∃ k, z = .bl k ∧
  (if k = true then tc σ H3 fun w' H4 => r' y w' H4 Q else Q (.bl false) H3)
theorem pe_chain {op op' : CmpOp} {r r' : R2} (ho : OpR X (compareOp op) r) (ho' : OpR X (compareOp op') r') (ha : PE X a ta) (hb : PE X b tb) (hc : PE X c tc)
    (hm : lastMarks [op, op'] [b, c] = false := by with_unfolding_all rfl) : PE X (.Compare a [op, op'] [b, c] pos) (tChain r r' ta tb tc) := by
  intro pins s σ H Q I h
  refine Compare_chain (thn (ha pins s σ H _ I h) fun v s1 ⟨x, H1, I1, r1, q1⟩ => chain_link (thn (hb pins s1 σ H1 _ I1 q1) fun u s2 ⟨y, H2, I2, r2, q2⟩ =>
    thn (ho pins s2 σ H2 x y v u _ I2 r1 r2 q2) fun d s3 ⟨z, H3, I3, r3, k, e, q3⟩ => ?_)) hm
  subst e
  cases r3
  refine wpAny_truthy_bool ?_
  cases k with
  | false => exact ite_ff ⟨.bl false, H3, I3, rfl, q3⟩
  | true => exact ite_tt (chain_last (thn (hc pins s3 σ H3 _ I3 q3) fun w' s4 ⟨z', H4, I4, r4, q4⟩ => ho' pins s4 σ H4 y z' u w' Q I4 r2 r4 q4))
theorem pt_chain {op op' : CmpOp} {r r' : R2} (ho : OpR X (compareOp op) r) (ho' : OpR X (compareOp op') r') (ha : PE X a ta) (hb : PE X b tb) (hc : PE X c tc)
    (hm : lastMarks [op, op'] [b, c] = false := by with_unfolding_all rfl) : PT X (.Compare a [op, op'] [b, c] pos) (tTest (tChain r r' ta tb tc)) := by
  intro pins s σ H Q I h
  refine isTrue_chain (thn (ha pins s σ H _ I h) fun v s1 ⟨x, H1, I1, r1, q1⟩ => test_link (thn (hb pins s1 σ H1 _ I1 q1) fun u s2 ⟨y, H2, I2, r2, q2⟩ =>
    thn (ho pins s2 σ H2 x y v u _ I2 r1 r2 q2) fun d s3 ⟨z, H3, I3, r3, k, e, q3⟩ => ?_)) hm
  subst e
  cases r3
  refine wpAny_truthy_bool ?_
  cases k with
  | false =>
    obtain ⟨k', e', q'⟩ := q3
    cases e'
    exact ite_ff ⟨H3, I3, q'⟩
  | true =>
    refine ite_tt (test_last (thn (hc pins s3 σ H3 _ I3 q3) fun w' s4 zz0 => ?_))
    obtain ⟨z', H4, I4, r4, q4⟩ := zz0
    refine thn (ho' pins s4 σ H4 y z' u w' _ I4 r2 r4 q4) fun d' s5 zz1 => ?_
    obtain ⟨z2, H5, I5, r5, k2, e2, q5⟩ := zz1
    subst e2
    cases r5
    exact wpAny_truthy_bool ⟨H5, I5, q5⟩
noncomputable def TruV (K : PySem.W.Frag) (x : V) (H : Hp) (k : Bool) : Prop :=
  match x with
  | .non => k = false
  | .bl b => k = b
  | .int i => k = (i != 0)
  | .str y => y.length ≤ sizeLine ∧ k = ((y.length : Int) != 0)
  | .byt y => y.size ≤ sizeLine ∧ k = ((y.size : Int) != 0)
  | .ref p => (∃ xs, SqL K H p xs ∧ k = !xs.isEmpty) ∨ (∃ xs, SqT K H p xs ∧ k = !xs.isEmpty) ∨ ∃ kvs, H p = some (.dK kvs) ∧ k = !kvs.isEmpty
  | _ => False
theorem isEmpty_kv {κ : Type} {kvs : List (κ × V)} {vs : List (κ × Value)} (r : KV kvs vs) : (!vs.isEmpty) = !kvs.isEmpty := by
  cases r <;> rfl
theorem isEmpty_of {xs : List V} {its : List Value} (r : Vals xs its) : (!its.toArray.isEmpty) = !xs.isEmpty := by
  cases r <;> simp
theorem line63 : (sizeLine : Nat) < 2 ^ 63 := by rw [sizeLine_eq]; decide
theorem tru_ok : TruR X (fun x H Q => ∃ k, TruV X.K x H k ∧ Q k H) := by
  intro pins s σ H x v Q I rx h
  obtain ⟨k, e, q⟩ := h
  have hl := line63
  have hs : sizeLine = 16777216 := sizeLine_eq
  cases x with
  | non =>
    cases rx
    have e' : k = false := e
    subst e'
    exact truthy_none ⟨H, I, q⟩
  | bl b =>
    cases rx
    have e' : k = b := e
    subst e'
    exact wpAny_truthy_bool ⟨H, I, q⟩
  | int i =>
    obtain ⟨t, rfl⟩ := rx
    have e' : k = (i != 0) := e
    subst e'
    exact PySem.P.truthy_int ⟨H, I, q⟩
  | str y =>
    obtain ⟨t, rfl⟩ := rx
    obtain ⟨hy, e'⟩ : y.length ≤ sizeLine ∧ k = ((y.length : Int) != 0) := e
    subst e'
    exact PySem.P.truthy_str (by (first | lia | omega)) ⟨H, I.tok _, q⟩
  | byt y =>
    obtain ⟨t, rfl⟩ := rx
    obtain ⟨hy, e'⟩ : y.size ≤ sizeLine ∧ k = ((y.size : Int) != 0) := e
    subst e'
    exact PySem.W.truthy_bytes (by (first | lia | omega)) ⟨H, I.tok _, q⟩
  | ref p =>
    cases rx
    have e' : (∃ xs, SqL X.K H p xs ∧ k = !xs.isEmpty) ∨ (∃ xs, SqT X.K H p xs ∧ k = !xs.isEmpty) ∨ ∃ kvs, H p = some (.dK kvs) ∧ k = !kvs.isEmpty := e
    rcases e' with ⟨xs, hx, e'⟩ | ⟨xs, hx, e'⟩ | ⟨kvs, hx, e'⟩
    · subst e'
      obtain ⟨its, r, pl, hz⟩ := I.list hx
      have hlen := r.length
      exact wpAny_truthy_list pl.isList (by simp only [List.size_toArray]; (first | lia | omega)) ⟨H, I.tok _, by rw [isEmpty_of r]; exact q⟩
    · subst e'
      obtain ⟨its, r, pl, hz⟩ := I.tuple hx
      have hlen := r.length
      exact truthy_tuple pl (by simp only [List.size_toArray]; (first | lia | omega)) ⟨H, I.tok _, by rw [isEmpty_of r]; exact q⟩
    · subst e'
      obtain ⟨hz, hS, vs, r, m⟩ : kvs.length ≤ sizeLine ∧ (p == sysModules) = false ∧ ∃ vs, KV kvs vs ∧ s.heap.DictOf (mixKind X.prog X.w) p vs := I.hok p _ hx
      have hlen : kvs.length = vs.length := Paired.length r
      exact wpAny_truthy_dict hS m (by (first | lia | omega)) ⟨H, I.tok _, by rw [isEmpty_kv r]; exact q⟩
  | _ => exact (show False from e).elim
theorem pt_truth (ha : PE X a ta) (he : ∀ whole, isTrue a X.env whole = (do let v ← whole; standAt a.pos; holding [v] (truthy v))) :
    PT X a (fun σ H Q => ta σ H fun x H' => ∃ k, TruV X.K x H' k ∧ Q k H') := by
  intro pins s σ H Q I h
  refine isTrue_plain (thn (ha pins s σ H _ I h) fun v s1 zz0 => ?_) (he _)
  obtain ⟨x, H1, I1, r1, q1⟩ := zz0
  exact tru_ok pins s1 σ H1 x v Q I1 r1 q1
theorem op_add_str : OpR X (binaryOp .Add) (fun x y H Q => ∃ i j, x = .str i ∧ y = .str j ∧ i.length + j.length ≤ sizeLine ∧ Q (.str (i ++ j)) H) := by
  intro pins s σ H x y v u Q I rx ry h
  obtain ⟨i, j, rfl, rfl, hz, q⟩ := h
  obtain ⟨t, rfl⟩ := rx
  obtain ⟨t', rfl⟩ := ry
  exact add_str (fun t' tk => ⟨.str (i ++ j), H, I.tok _, ⟨_, rfl⟩, q⟩) hz
theorem iop_add_str : OpR X (inplaceOp .Add) (fun x y H Q => ∃ i j, x = .str i ∧ y = .str j ∧ i.length + j.length ≤ sizeLine ∧ Q (.str (i ++ j)) H) := by
  intro pins s σ H x y v u Q I rx ry h
  obtain ⟨i, j, rfl, rfl, hz, q⟩ := h
  obtain ⟨t, rfl⟩ := rx
  obtain ⟨t', rfl⟩ := ry
  exact iadd_str (fun t' tk => ⟨.str (i ++ j), H, I.tok _, ⟨_, rfl⟩, q⟩) hz
theorem vals1 {x : V} {us : List Value} (r : Vals [x] us) : ∃ u, us = [u] ∧ RelV x u := by
  cases r with
  | cons r1 r2 => cases r2; exact ⟨_, rfl, r1⟩
theorem vals2 {x y : V} {us : List Value} (r : Vals [x, y] us) : ∃ u w', us = [u, w'] ∧ RelV x u ∧ RelV y w' := by
  cases r with
  | cons r1 r2 =>
    cases r2 with
    | cons r3 r4 => cases r4; exact ⟨_, _, rfl, r1, r3⟩
theorem call_max2 (hc : X.calm = true) : CallR X (.builtin "max") (fun xs H Q => ∃ i j, xs = [.int i, .int j] ∧ Q (.int (if j > i then j else i)) H) := by
  intro pins s σ H xs us Q I r h
  obtain ⟨i, j, rfl, q⟩ := h
  obtain ⟨u, w', rfl, ⟨t, rfl⟩, ⟨t', rfl⟩⟩ := vals2 r
  refine max_two_ints (I.ok.hd hc) fun h' tk k => ⟨_, H, I.kept k, ?_, q⟩
  by_cases hj : j > i
  · rw [if_pos hj, if_pos hj]; exact ⟨_, rfl⟩
  · rw [if_neg hj, if_neg hj]; exact ⟨_, rfl⟩
end
end L2
namespace L2
open PySem PySem.Spec PyProof.Rows
structure ObjM (h : Heap) (x dx C : Addr) (mA : Str → Option Value) : Prop where
  obj : h.get? x = some (PySem.W.instObj C dx)
  ns : h.Ns1 dx mA
  ne : dx ≠ x
theorem lookIn_ns {h : Heap} {dx : Addr} {mA : Str → Option Value} (n : h.Ns1 dx mA) : ∃ od, h.get? dx = some od ∧ ∀ name, PySem.W.lookIn name od = some (mA name) := by
  obtain ⟨o, es, ep, ho, hd, hk, _, hm⟩ := n
  refine ⟨o, ho, fun name => ?_⟩
  have e := hm name
  unfold nsFind findBy at e
  rw [← Array.find?_toList] at e
  unfold PySem.W.lookIn
  rw [hd]
  dsimp only
  split
  · rename_i y q
    rw [q] at e
    exact congrArg some e
  · rename_i q
    rw [q] at e
    have a : es.toList.any (·.refKey) = false := by
      rw [List.any_eq_false]
      intro y hy
      obtain ⟨z, t, hkey⟩ := hk y (Array.mem_toList_iff.mp hy)
      simp [DictEntry.refKey, hkey]
    have a' : ¬ es.toList.any (·.refKey) = true := by rw [a]; exact Bool.false_ne_true
    rw [if_neg a']
    exact congrArg some e
theorem ObjM.look {h : Heap} {x dx C : Addr} {mA : Str → Option Value} (I : ObjM h x dx C mA) : ∃ od, PySem.W.InstAt h x (PySem.W.instObj C dx) C (some od) ∧ ∀ name, PySem.W.lookIn name od = some (mA name) :=
  let ⟨od, ho, hl⟩ := lookIn_ns I.ns
  ⟨od, ⟨I.obj, rfl, rfl, ho⟩, hl⟩
section
variable {prog : Program} {w : World} {A : Around} {E : Value → Shared → Prop} {s : Shared} {K : PySem.W.Frag} {x dx C f : Addr} {mA : Str → Option Value} {name : Str} {v : Value}
theorem get_map {expr : Bool} {Q : Value → Shared → Prop} (X : K.In s.heap) (I : ObjM s.heap x dx C mA) (hg : PySem.W.plainGet K C name = true) (hh : PySem.W.hasDictIn K C = true)
    (ha : PySem.W.findIn K (.ref C) name = some none) (hv : mA name = some v) (hv' : PySem.W.handedIn v = true) (h : Q v { s with toks := s.toks + 1 }) :
    wpAny (model prog w) A (getAttr (.ref x) name expr) Q E s := by
  obtain ⟨od, J, hl⟩ := I.look
  exact PySem.W.get_value X J (PySem.W.plainGet_of hg).1 (PySem.W.findObj_own hh ha rfl (by rw [hl, hv])) hv' h
theorem get_meth {pl : Sem Bool} {Q : Value × List Value → Shared → Prop} (X : K.In s.heap) (I : ObjM s.heap x dx C mA) (hg : PySem.W.plainGet K C name = true)
    (hf : PySem.W.findIn K (.ref C) name = some (some (.ref f))) (ht : PySem.W.isFn K (.ref f) = true) (hv : mA name = none) (h : Q (.ref f, [.ref x]) s) :
    wpAny (model prog w) A (getMethod (.ref x) name pl) Q E s := by
  obtain ⟨od, J, hl⟩ := I.look
  exact PySem.W.method_fn X J (PySem.W.plainGet_of hg).1 (PySem.W.plainGet_of hg).2 hf (beq_iff_eq.mp ht) (by show (PySem.W.lookIn name od).map (·.isSome) = some false; rw [hl, hv]; rfl) h
theorem set_map {ns : List Str} {Q : Unit → Shared → Prop} (X : K.In s.heap) (I : ObjM s.heap x dx C mA)
    (hs : PySem.W.findIn K (.ref C) "__setattr__" = some (some (.builtin "object.__setattr__"))) (hp : PySem.W.plainOver K C = true) (ht : PySem.W.takerIn K C name = some none) (hh : PySem.W.hasDictIn K C = true)
    (hw : PySem.Within mA ns) (hsz : ns.length ≤ sizeLine)
    (h : ∀ h', ObjM h' x dx C (fun y => if y = name then some v else mA y) → Heap.SameBut dx s.heap h' → Q () { s with heap := h', toks := s.toks + 2 }) :
    wpAny (model prog w) A (setAttr (.ref x) name v) Q E s := by
  obtain ⟨od, J, hl⟩ := I.look
  refine PySem.W.set_plain X J hs (PySem.W.osa_open (s := { s with toks := s.toks + 1 }) (r := none) X J hp ht fun b => ?_)
  obtain ⟨cd, hc, hd'⟩ := PySem.W.any_some hh
  have hx : s.heap.get? x = some ⟨.ref C, some dx, .plain, #[]⟩ := I.obj
  refine wpAny_bind (wpAny_pure (wpAny_bind (wpAny_bind (wpAny_loadPart hx (wpAny_bind (PySem.W.Looks.here (s := { s with toks := s.toks + 1 }) (PySem.W.looks_clsIn X hc) ?_))))))
  rw [hd']
  refine wpAny_pure (a := some dx) (wpAny_bind (wpAny_pure (wpAny_bind ?_)))
  refine wpAny_nsSet1 (s := { s with toks := s.toks + 1 }) I.ns fun h' hn2 hs2 => ?_
  obtain ⟨oD, esD, epD, hoD, hdD, hcD⟩ := hn2.count (PySem.Within.cons name v hw)
  refine wpAny_bind (wpAny_lookBehind hoD (by rw [hdD]; exact pastItsLine_dict (Nat.le_trans hcD (by rw [List.length_cons]; (first | lia | omega)))) ?_)
  exact wpAny_pure (h _ ⟨(hs2.2 _ (Ne.symm I.ne)).trans I.obj, hn2, I.ne⟩ hs2)
theorem make_map {R : Result → Shared → Prop} {vs : List Value} {kw : List (Str × Value)} (X : K.In s.heap) (hm : PySem.W.makesIn K C = true)
    (hi : PySem.W.findIn K (.ref C) "__init__" = some (some (.ref f))) (hf : PySem.W.typeIn K (.ref f) = some (.type "function"))
    (h : codeAny (model prog w) (A.under (.builtin "type.__call__" ⟨.ref C :: vs, kw⟩)) (.call (.ref f) ⟨.ref (s.heap.objs.size + 1) :: vs, kw⟩) (PySem.W.InitBack (s.heap.objs.size + 1) R)
      { s with heap := (s.heap.push PySem.W.emptyDict).push (PySem.W.instObj C s.heap.objs.size) }) :
    codeAny (model prog w) A (.call (.ref C) ⟨vs, kw⟩) R s := by
  obtain ⟨hh, g, d, t, os⟩ := s
  exact PySem.W.make_core (PySem.W.makes_of X hm) (PySem.W.looks_findIn X hi) (fun self => PySem.W.bind_fn X self hf) (.inl rfl) h
end
noncomputable def putF (f : Str) (v : V) : List (Str × V) → List (Str × V)
  | [] => [(f, v)]
  | (g, x) :: r => if g = f then (g, v) :: r else (g, x) :: putF f v r
theorem lookup_putF (f g : Str) (v : V) : ∀ fs : List (Str × V), (putF f v fs).lookup g = if g = f then some v else fs.lookup g
  | [] => by
    show List.lookup g [(f, v)] = _
    by_cases h : g = f
    · have hb : (g == f) = true := beq_iff_eq.mpr h
      simp only [List.lookup, hb, if_pos h]
    · have hb : (g == f) = false := beq_eq_false_iff_ne.mpr h
      simp only [List.lookup, hb, if_neg h]
  | (k, x) :: r => by
    have ih := lookup_putF f g v r
    rw [show putF f v ((k, x) :: r) = (if k = f then (k, v) :: r else (k, x) :: putF f v r) from rfl]
    by_cases hk : k = f
    · rw [if_pos hk]
      by_cases h : g = k
      · have hb : (g == k) = true := beq_iff_eq.mpr h
        simp only [List.lookup, hb, if_pos (h.trans hk)]
      · have hb : (g == k) = false := beq_eq_false_iff_ne.mpr h
        simp only [List.lookup, hb, if_neg (fun e : g = f => h (e.trans hk.symm))]
    · rw [if_neg hk]
      by_cases h : g = k
      · have hb : (g == k) = true := beq_iff_eq.mpr h
        simp only [List.lookup, hb, if_neg (fun e : g = f => hk (h.symm.trans e))]
      · have hb : (g == k) = false := beq_eq_false_iff_ne.mpr h
        simp only [List.lookup, hb]
        exact ih
theorem keys_putF (f : Str) (v : V) : ∀ fs : List (Str × V), f ∈ (putF f v fs).map (·.1) ∧ ∀ g, g ∈ fs.map (·.1) → g ∈ (putF f v fs).map (·.1)
  | [] => ⟨by simp [putF], fun g h => by simp at h⟩
  | (k, x) :: r => by
    obtain ⟨i1, i2⟩ := keys_putF f v r
    rw [show putF f v ((k, x) :: r) = (if k = f then (k, v) :: r else (k, x) :: putF f v r) from rfl]
    by_cases hk : k = f
    · rw [if_pos hk]
      subst hk
      exact ⟨by simp, fun g h => by simpa using h⟩
    · rw [if_neg hk]
      refine ⟨?_, fun g h => ?_⟩
      · rw [List.map_cons]
        exact List.mem_cons_of_mem _ i1
      · rw [List.map_cons] at h ⊢
        rcases List.mem_cons.mp h with e | e
        · exact List.mem_cons.mpr (.inl e)
        · exact List.mem_cons_of_mem _ (i2 g e)
theorem length_putF (f : Str) (v : V) : ∀ fs : List (Str × V), (putF f v fs).length ≤ fs.length + 1
  | [] => by simp [putF]
  | (k, x) :: r => by
    have ih := length_putF f v r
    rw [show putF f v ((k, x) :: r) = (if k = f then (k, v) :: r else (k, x) :: putF f v r) from rfl]
    by_cases hk : k = f
    · rw [if_pos hk, List.length_cons, List.length_cons]; (first | lia | omega)
    · rw [if_neg hk, List.length_cons, List.length_cons]; (first | lia | omega)
theorem RelO.some_of {v : V} {o : Option Value} (r : RelO (some v) o) : ∃ u, o = some u ∧ RelV v u := by
  cases o with
  | none => exact (show False from r).elim
  | some u => exact ⟨u, rfl, r⟩
theorem RelO.none_of {o : Option Value} (r : RelO none o) : o = none := by
  cases o with
  | none => rfl
  | some u => exact (show False from r).elim
theorem handed_of {v : V} {u : Value} (r : RelV v u) : PySem.W.handedIn u = true := by
  cases v with
  | non => cases (show u = Value.none from r); rfl
  | bl b => cases (show u = Value.bool b from r); rfl
  | int i => obtain ⟨t, e⟩ := (show ∃ t, u = Value.int i t from r); cases e; rfl
  | str x => obtain ⟨t, e⟩ := (show ∃ t, u = Value.str x t from r); cases e; rfl
  | byt b => obtain ⟨t, e⟩ := (show ∃ t, u = Value.bytes b t from r); cases e; rfl
  | flt b => obtain ⟨t, e⟩ := (show ∃ t, u = Value.float b t from r); cases e; rfl
  | ref a => cases (show u = Value.ref a from r); rfl
  | ty n => cases (show u = Value.type n from r); rfl
section
variable {P : Program} {w : World} {H H' : Hp} {h h' : Heap} {a C dx : Addr} {fs fs' : List (Str × V)}
theorem ins_get (hok : HOk P w H h) (e : H a = some (.ins C dx fs)) : ∃ mA, ObjM h a dx C mA ∧ (∀ f, RelO (fs.lookup f) (mA f)) ∧ PySem.Within mA (fs.map (·.1)) ∧ fs.length ≤ 1000 ∧ H dx = some (.own a) := by
  obtain ⟨d, z, ne, ob, mA, n, r, q⟩ := (show ObjOk P w H h a (.ins C dx fs) from hok a _ e)
  exact ⟨mA, ⟨ob, n, ne⟩, r, q, z, d⟩
end
structure Cls (K : PySem.W.Frag) (C : Addr) : Prop where
  pg : PySem.W.plainGet K C Str.empty = true
  hd : PySem.W.hasDictIn K C = true
  po : PySem.W.plainOver K C = true
  sa : PySem.W.findIn K (.ref C) "__setattr__" = some (some (.builtin "object.__setattr__"))
theorem Cls.get {K : PySem.W.Frag} {C : Addr} (c : Cls K C) (f : Str) : PySem.W.plainGet K C f = true := c.pg
noncomputable def NoAttr (K : PySem.W.Frag) (C : Addr) (f : Str) : Prop := PySem.W.findIn K (.ref C) f = some none
theorem NoAttr.taker {K : PySem.W.Frag} {C : Addr} {f : Str} (n : NoAttr K C f) : PySem.W.takerIn K C f = some none := by
  unfold PySem.W.takerIn
  rw [show PySem.W.findIn K (.ref C) f = some none from n]
  rfl
structure Meth (K : PySem.W.Frag) (C : Addr) (m : Str) (f : Addr) : Prop where
  at_ : PySem.W.findIn K (.ref C) m = some (some (.ref f))
  fn : PySem.W.isFn K (.ref f) = true
  kp : PySem.W.keepIn K (.ref f) = true
section
variable {X : Cx} {pins : List (Addr × Obj)} {σ : St} {H : Hp} {s : Shared} {a C dx : Addr} {fs : List (Str × V)} {f : Str} {v : V} {A : Around} {E : Value → Shared → Prop}
theorem getattr_ok {b : Bool} {Q : Value → Shared → Prop} (I : Inv X pins σ H s) (e : H a = some (.ins C dx fs)) (c : Cls X.K C) (n : NoAttr X.K C f) (l : fs.lookup f = some v)
    (h : ∀ u s', Inv X pins σ H s' → RelV v u → Q u s') : wpAny (model X.prog X.w) A (getAttr (.ref a) f b) Q E s := by
  obtain ⟨mA, O, r, _, _, _⟩ := ins_get I.hok e
  obtain ⟨u, hu, ru⟩ := RelO.some_of (v := v) (o := mA f) (by rw [← l]; exact r f)
  exact get_map I.kIn O (c.get f) c.hd n hu (handed_of ru) (h u _ (I.tok _) ru)
theorem getmeth_ok {m : Str} {g : Addr} {pl : Sem Bool} {Q : Value × List Value → Shared → Prop} (I : Inv X pins σ H s) (e : H a = some (.ins C dx fs)) (c : Cls X.K C) (k : Meth X.K C m g) (l : fs.lookup m = none)
    (h : Q (.ref g, [.ref a]) s) : wpAny (model X.prog X.w) A (getMethod (.ref a) m pl) Q E s := by
  obtain ⟨mA, O, r, _, _, _⟩ := ins_get I.hok e
  have hn : mA m = none := RelO.none_of (by rw [← l]; exact r m)
  exact get_meth I.kIn O (c.get m) k.at_ k.fn hn h
theorem setattr_ok {y : V} {u : Value} {Q : Unit → Shared → Prop} (I : Inv X pins σ H s) (e : H a = some (.ins C dx fs)) (c : Cls X.K C) (n : NoAttr X.K C f) (hl : fs.length < 1000) (ry : RelV y u)
    (h : ∀ s', Inv X pins σ (upd H a (.ins C dx (putF f y fs))) s' → Q () s') : wpAny (model X.prog X.w) A (setAttr (.ref a) f u) Q E s := by
  obtain ⟨mA, O, r, wi, _, ho⟩ := ins_get I.hok e
  have hz : (fs.map (·.1)).length ≤ sizeLine := by rw [List.length_map, sizeLine_eq]; (first | lia | omega)
  refine set_map I.kIn O c.sa c.po n.taker c.hd wi hz fun h' O' sb => h _ ?_
  have hd : ∃ o, h'.get? dx = some o := let ⟨o, _, _, e', _⟩ := O'.ns; ⟨o, e'⟩
  refine I.write (x := a) (e := dx) (by rw [e]; exact True.intro) (.inr ho) (fun b q hb z => (sb.2 b hb).trans z) hd ?_
  refine ⟨by rw [upd_ne O.ne]; exact ho, ?_, O.ne, O'.obj, _, O'.ns, fun g => ?_, fun g hg => ?_⟩
  · have := length_putF f y fs; (first | lia | omega)
  · show RelO ((putF f y fs).lookup g) (if g = f then some u else mA g)
    rw [lookup_putF]
    by_cases q : g = f
    · rw [if_pos q, if_pos q]; exact ry
    · rw [if_neg q, if_neg q]; exact r g
  · by_cases q : g = f
    · rw [q]; exact (keys_putF f y fs).1
    · refine (keys_putF f y fs).2 g (wi g fun z => hg ?_)
      show (if g = f then some u else mA g) = none
      rw [if_neg q]; exact z
theorem Inv.made (I : Inv X pins σ H s) : Inv X pins σ (upd (upd H s.heap.objs.size (.own (s.heap.objs.size + 1))) (s.heap.objs.size + 1) (.ins C s.heap.objs.size []))
    { s with heap := (s.heap.push PySem.W.emptyDict).push (PySem.W.instObj C s.heap.objs.size) } := by
  have e1 : (s.heap.push PySem.W.emptyDict).get? s.heap.objs.size = some PySem.W.emptyDict := Heap.get?_push_size s.heap rfl
  have e2 : ((s.heap.push PySem.W.emptyDict).push (PySem.W.instObj C s.heap.objs.size)).get? (s.heap.objs.size + 1) = some (PySem.W.instObj C s.heap.objs.size) := by
    have := Heap.get?_push_size (s.heap.push PySem.W.emptyDict) (o := PySem.W.instObj C s.heap.objs.size) rfl
    rwa [Heap.size_push] at this
  have e3 : (s.heap.push PySem.W.emptyDict).Ns s.heap.objs.size (fun _ => none) := ⟨PySem.W.emptyDict, #[], _, e1, rfl, (fun e he => absurd he (by simp)), fun _ => rfl⟩
  have I1 := I.laid (a := s.heap.objs.size) (o := .own (s.heap.objs.size + 1)) (h' := s.heap.push PySem.W.emptyDict) (t' := s.toks) (fun b u q => Heap.get?_push_of_some _ q) (Nat.le_refl _) ⟨_, e1⟩
  refine I1.laid (a := s.heap.objs.size + 1) (o := .ins C s.heap.objs.size []) (t' := s.toks) (fun b u q => Heap.get?_push_of_some _ q) (Nat.le_of_eq (Heap.size_push _ _)) ?_
  have ne : s.heap.objs.size ≠ s.heap.objs.size + 1 := Nat.ne_of_lt (Nat.lt_succ_self _)
  refine ⟨by rw [upd_ne ne, upd_same], Nat.zero_le _, ne, e2, fun _ => none, (Heap.Ns1.of_empty e3).at fun o q => Heap.get?_push_of_some _ q, fun _ => True.intro, fun y hy => absurd rfl hy⟩
theorem attr_of {prog : Program} {w : World} {env : Env} {e : Expr} {f : Str} {pos : Pos} {s : Shared} {Q : Value → Shared → Prop} (hb : attributeBase e f env (eval e env) = eval e env)
    (h : wpAny (model prog w) A (eval e env) (fun o s₁ => wpAny (model prog w) A (getAttr o f true) Q E s₁) E s) : wpAny (model prog w) A (eval (.Attribute e f pos) env) Q E s :=
  Attribute_any_ h (by rw [arm_eval_Attribute, hb])
end
noncomputable def tFld (K : PySem.W.Frag) (ta : TE) (f : Str) : TE := fun σ H Q => ta σ H fun x H1 => ∃ a C dx fs v, x = .ref a ∧ H1 a = some (.ins C dx fs) ∧ Cls K C ∧ NoAttr K C f ∧ fs.lookup f = some v ∧ Q v H1
noncomputable def sFld (K : PySem.W.Frag) (ta tv : TE) (f : Str) : TS := fun D σ H => tv σ H fun y H1 => ta σ H1 fun x H2 => ∃ a C dx fs, x = .ref a ∧ H2 a = some (.ins C dx fs) ∧ Cls K C ∧ NoAttr K C f ∧ fs.length < 1000 ∧
  D.nx σ (upd H2 a (.ins C dx (putF f y fs)))
section
variable {X : Cx} {o e value : Expr} {f : Str} {pos pos' tpos : Pos} {ta tv : TE}
theorem pe_fld (he : PE X e ta) (hb : attributeBase e f X.env (eval e X.env) = eval e X.env) : PE X (.Attribute e f pos) (tFld X.K ta f) := by
  intro pins s σ H Q I h
  refine attr_of hb (thn (he pins s σ H _ I h) fun u s1 zz0 => ?_)
  obtain ⟨x, H1, I1, rx, a, C, dx, fs, v, ex, ea, c, n, l, q⟩ := zz0
  subst ex
  obtain rfl : u = Value.ref a := rx
  exact getattr_ok I1 ea c n l fun u' s2 I2 ru => ⟨v, H1, I2, ru, q⟩
theorem ps_fld (ha : PE X o ta) (hv : PE X value tv) (hs : swapsWith value (some (.Attribute o f pos')) pos.line X.env = pure false) : PS X (.Assign [.Attribute o f pos'] value pos) (sFld X.K ta tv f) := by
  intro pins s σ H D I h
  refine plainObj_wpAny_Assign_Attribute (thn (hv pins s σ H _ I h) fun u s1 zz0 => ?_) hs
  obtain ⟨y, H1, I1, ry, q⟩ := zz0
  refine thn (ha pins s1 σ H1 _ I1 q) fun ov s2 zz1 => ?_
  obtain ⟨x, H2, I2, rx, a, C, dx, fs, ex, ea, c, n, l, q2⟩ := zz1
  subst ex
  obtain rfl : ov = Value.ref a := rx
  exact setattr_ok I2 ea c n l ry fun s3 I3 => ⟨σ, _, I3, q2⟩
end
section
variable {X : Cx} {pins : List (Addr × Obj)} {σ : St} {H : Hp} {s : Shared} {A : Around} {E : Value → Shared → Prop} {Q : Value → Shared → Prop} {c : Value} {b : Bool}
end
end L2
namespace L2
open PySem PySem.Spec PyProof.Rows
structure Room (k : Nat) (A : Around) : Prop where
  hd : A.handled = none
  dp : A.depth + 3 * k + 5 < recursionLimit
  un : A.units + 16 * k + 200 < cLine
theorem Room.mono {j k : Nat} {A : Around} (r : Room k A) (h : j ≤ k) : Room j A := ⟨r.hd, by have := r.dp; (first | lia | omega), by have := r.un; (first | lia | omega)⟩
theorem Room.deeper {k : Nat} {A : Around} (r : Room (k + 1) A) (env : Env) : Room k (A.deeper env) :=
  ⟨r.hd, by have := r.dp; show A.depth + 1 + 3 * k + 5 < _; (first | lia | omega), by have := r.un; show A.units + 3 + 16 * k + 200 < _; (first | lia | omega)⟩
theorem make_depth {A : Around} {C : Addr} {us : List Value} {kw : List (Str × Value)} : (A.under (.builtin "type.__call__" ⟨.ref C :: us, kw⟩)).depth = A.depth + 1 := by
  first | rfl | simp [Around.under, Code.weight, Code.isCreation, Code.isGuard, Code.isCaller, Code.frames, Code.isFrame, guardIds]
theorem make_units {A : Around} {C : Addr} {us : List Value} {kw : List (Str × Value)} : (A.under (.builtin "type.__call__" ⟨.ref C :: us, kw⟩)).units = A.units + 1 := by
  first | rfl | simp [Around.under, Code.cUnits, Code.frames, Code.isFrame]
theorem Room.make {k : Nat} {A : Around} (r : Room (k + 1) A) (C : Addr) (us : List Value) (kw : List (Str × Value)) : Room k (A.under (.builtin "type.__call__" ⟨.ref C :: us, kw⟩)) :=
  ⟨r.hd, by have := r.dp; rw [make_depth]; (first | lia | omega), by have := r.un; rw [make_units]; (first | lia | omega)⟩
theorem Room.depth {k : Nat} {A : Around} (r : Room k A) : A.depth < recursionLimit := by have := r.dp; (first | lia | omega)
theorem Room.units {k : Nat} {A : Around} (r : Room k A) : A.units + 64 < cLine := by have := r.un; (first | lia | omega)
noncomputable def tNil : TA := fun _ H Q => Q [] H
noncomputable def tCons (ta : TE) (tr : TA) : TA := fun σ H Q => ta σ H fun x H1 => tr σ H1 fun xs H2 => Q (x :: xs) H2
section
variable {X : Cx} {e : Expr} {es : List Expr} {te : TE} {t : TA} {pos : Pos}
theorem pa_nil : PA X [] tNil := fun _ _ _ _ H Q I h => Calls.spliced_nil ⟨[], H, I, .nil, h⟩
theorem pa_cons (ha : PE X e te) (hr : PA X es t) (hs : starEach (e :: es) X.env = (false, eval e X.env) :: starEach es X.env := by rfl) : PA X (e :: es) (tCons te t) := by
  intro pos pins s σ H Q I h
  rw [hs]
  show wpAny _ _ (spliced ((false, eval e X.env) :: backTo pos (starEach es X.env))) _ _ s
  refine Calls.spliced_cons (thn (ha pins s σ H _ I h) fun u s1 zz0 => ?_)
  obtain ⟨x, H1, I1, r1, q1⟩ := zz0
  refine thn (hr pos pins s1 σ H1 _ I1 q1) fun us s2 zz0 => ?_
  obtain ⟨xs, H2, I2, r2, q2⟩ := zz0
  exact ⟨x :: xs, H2, I2, .cons r1 r2, q2⟩
noncomputable def tTup (t : TA) : TE := fun σ H Q => t σ H fun xs H1 => xs.length ≤ sizeLine ∧ ∀ p, H1 p = none → Q (.ref p) (upd H1 p (.tup xs))
noncomputable def tLst (t : TA) : TE := fun σ H Q => t σ H fun xs H1 => xs.length ≤ sizeLine ∧ ∀ p, H1 p = none → Q (.ref p) (upd H1 p (.lst xs))
theorem pe_tup {x1} (h : PA X es t) : PE X (.Tuple es x1 pos) (tTup t) := by
  intro pins s σ H Q I hq
  refine wpAny_Tuple_spliced (thn (h pos pins s σ H _ I hq) fun us s1 ⟨xs, H1, I1, r, z, q⟩ => ⟨by rw [← r.length]; exact z, ?_⟩)
  have hf : H1 s1.heap.objs.size = none := I1.hok.fresh (Nat.le_refl _)
  refine ⟨.ref s1.heap.objs.size, upd H1 s1.heap.objs.size (.tup xs), I1.laid (t' := s1.toks) (fun b u e => Heap.get?_push_of_some _ e) (Nat.le_refl _) ?_, rfl, q _ hf⟩
  exact ⟨z, us, r, ⟨_, Heap.get?_push_size _ rfl, rfl, _, rfl⟩⟩
theorem pe_lst (h : PA X es t) : PE X (.List es pos) (tLst t) := by
  intro pins s σ H Q I hq
  refine wpAny_List_spliced (thn (h pos pins s σ H _ I hq) fun us s1 ⟨xs, H1, I1, r, z, q⟩ => ⟨by rw [← r.length]; exact z, ?_⟩)
  have hf : H1 s1.heap.objs.size = none := I1.hok.fresh (Nat.le_refl _)
  refine ⟨.ref s1.heap.objs.size, upd H1 s1.heap.objs.size (.lst xs), I1.laid (t' := s1.toks) (fun b u e => Heap.get?_push_of_some _ e) (Nat.le_refl _) ?_, rfl, q _ hf⟩
  exact ⟨z, us, 0, r, Heap.get?_push_size _ rfl⟩
end
noncomputable abbrev Sp := List V → Hp → VK → XK → Prop
noncomputable abbrev CXT := List Env → Hp → Shared → XK → Value → Shared → Prop
structure Env0 (P : Program) (w : World) (K : PySem.W.Frag) (mg : Str → Option Value) (base : Heap) (A : Around) (outer : List Env) (s : Shared) (H : Hp) : Prop where
  frames : A.frames = some outer
  mod : Mod K mg base
  bs : ∀ b o, base.get? b = some o → s.heap.get? b = some o ∧ H b = none
  bsz : base.objs.size ≤ s.heap.objs.size
  funs : s.heap.FunFrames base outer
  frf : ∀ b ∈ frs outer, H b = none
  hok : HOk P w H s.heap
  bare : AllBare s.gens
noncomputable def CE (outer : List Env) (P : Program) (w : World) (H : Hp) (s : Shared) (Q : VK) (u : Value) (s' : Shared) : Prop :=
  ∃ v H', s'.os = s.os ∧ AllBare s'.gens ∧ Un (frs outer) [] H H' s.heap s'.heap ∧ HOk P w H' s'.heap ∧ RelV v u ∧ Q v H'
noncomputable def CR (CX : CXT) (outer : List Env) (P : Program) (w : World) (H : Hp) (s : Shared) (Q : VK) (E : XK) (r : Result) (s' : Shared) : Prop :=
  match r with
  | .ok (.ret u) => CE outer P w H s Q u s'
  | .ok _ => False
  | .error e => CX outer H s E e s'
structure FnOk (P : Program) (w : World) (K : PySem.W.Frag) (mg : Str → Option Value) (base : Heap) (CX : CXT) (k : Nat) (f : Addr) (fd : FuncData) (ps : List Str) (sp : Sp) : Prop where
  len : ∀ vs H Q E, sp vs H Q E → vs.length = ps.length
  run : ∀ (A : Around) (outer : List Env) (s : Shared) (H : Hp) (args : Args) (us : List Value) (vs : List V) (Q : VK) (E : XK), Room k A → Env0 P w K mg base A outer s H → BindsTo s fd args (ps.zip us) → Vals vs us → sp vs H Q E →
    codeAny (model P w) A (.call (.ref f) args) (CR CX outer P w H s Q E) s
theorem FnOk.mono {P : Program} {w : World} {K : PySem.W.Frag} {mg : Str → Option Value} {base : Heap} {CX : CXT} {j k : Nat} {f : Addr} {fd : FuncData} {ps : List Str} {sp : Sp} (F : FnOk P w K mg base CX j f fd ps sp) (h : j ≤ k) :
    FnOk P w K mg base CX k f fd ps sp := ⟨F.len, fun A outer s H args us vs Q E hr => F.run A outer s H args us vs Q E (hr.mono h)⟩
theorem FnOk.imp {P : Program} {w : World} {K : PySem.W.Frag} {mg : Str → Option Value} {base : Heap} {CX : CXT} {k : Nat} {f : Addr} {fd : FuncData} {ps : List Str} {sp sp' : Sp} (F : FnOk P w K mg base CX k f fd ps sp)
    (h : ∀ vs H Q E, sp' vs H Q E → sp vs H Q E) : FnOk P w K mg base CX k f fd ps sp' :=
  ⟨fun vs H Q E q => F.len vs H Q E (h _ _ _ _ q), fun A outer s H args us vs Q E hr he hb hv hs => F.run A outer s H args us vs Q E hr he hb hv (h _ _ _ _ hs)⟩
theorem Env0.make {P : Program} {w : World} {K : PySem.W.Frag} {mg : Str → Option Value} {base : Heap} {A : Around} {outer : List Env} {s : Shared} {H : Hp} (e : Env0 P w K mg base A outer s H) (C : Addr) (us : List Value) (kw : List (Str × Value)) :
    Env0 P w K mg base (A.under (.builtin "type.__call__" ⟨.ref C :: us, kw⟩)) outer s H := ⟨by first | exact e.frames | (simpa [Around.under, Code.envs, Code.isFrame, pushEnvs] using e.frames), e.mod, e.bs, e.bsz, e.funs, e.frf, e.hok, e.bare⟩
section
variable {X : Cx} {pins : List (Addr × Obj)} {σ : St} {H : Hp} {s s' : Shared}
theorem Inv.env0 (I : Inv X pins σ H s) : Env0 X.prog X.w X.K X.mg X.base X.A X.stack s H :=
  ⟨I.ok.frames, I.ok.mod, I.bs, Nat.le_trans I.ok.bsz I.sz, I.stack, I.stkFree, I.hok, I.bare⟩
theorem Inv.after {Q : VK} {u : Value} (I : Inv X pins σ H s) (h : CE X.stack X.prog X.w H s Q u s') : EP X pins σ Q u s' := by
  obtain ⟨v, H', os, bare, un, hok, r, q⟩ := h
  obtain ⟨hh, g, d, t, os'⟩ := s'
  obtain rfl : os' = s.os := os
  exact ⟨v, H', I.call (h' := hh) (g' := g) (d' := d) (t' := t) (ch := []) un hok bare (fun b z => absurd z (by simp)), r, q⟩
end
noncomputable def tCall (sp : Sp) (dvs : List V) (E : XK) (t : TA) : TE := fun σ H Q => t σ H fun vs H1 => sp (vs ++ dvs) H1 Q E
noncomputable def tMeth (C : Addr) (m : Str) (sp : Sp) (dvs : List V) (E : XK) (ta : TE) (t : TA) : TE := fun σ H Q => ta σ H fun x H1 => ∃ a dx fs, x = .ref a ∧ H1 a = some (.ins C dx fs) ∧ fs.lookup m = none ∧
  t σ H1 fun vs H2 => sp (x :: (vs ++ dvs)) H2 Q E
noncomputable def tMake (C : Addr) (sp : Sp) (dvs : List V) (E : XK) (t : TA) : TE := fun σ H Q => t σ H fun vs H1 => ∀ x dx, H1 x = none → H1 dx = none → dx ≠ x →
  sp (.ref x :: (vs ++ dvs)) (upd (upd H1 dx (.own x)) x (.ins C dx [])) (fun v H2 => v = .non ∧ Q (.ref x) H2) E
noncomputable def Binds (K : PySem.W.Frag) (fd : FuncData) (ps : List Str) (ds : List Value) : Prop :=
  ∀ (s : Shared) (us : List Value), K.In s.heap → (us ++ ds).length = ps.length → BindsTo s fd ⟨us, []⟩ (ps.zip (us ++ ds))
theorem Binds.all {K : PySem.W.Frag} {fd : FuncData} {ps : List Str} (h : ∀ us : List Value, us.length = ps.length → bindArgs fd ⟨us, []⟩ = pure (ps.zip us)) : Binds K fd ps [] := fun s us _ hl => by
  rw [List.append_nil] at hl ⊢
  exact .of_eq (h us hl)
noncomputable def Passes (CX : CXT) (X : Cx) (E : XK) : Prop := ∀ (pins : List (Addr × Obj)) (σ : St) (H : Hp) (s : Shared) (e : Value) (s' : Shared), Inv X pins σ H s → CX X.stack H s E e s' → X.xe e s'
section
variable {X : Cx} {CX : CXT} {k : Nat} {f C : Addr} {fd : FuncData} {ps : List Str} {sp : Sp} {dvs : List V} {ds : List Value} {E : XK} {x m : Str} {p pos apos : Pos} {e o : Expr} {es : List Expr} {ta : TE} {t : TA}
theorem run_fn {pins : List (Addr × Obj)} {σ : St} {H : Hp} {s : Shared} {Q : VK} {us : List Value} {vs : List V} (F : FnOk X.prog X.w X.K X.mg X.base CX k f fd ps sp) (hr : Room k X.A) (hb : Binds X.K fd ps ds) (hd : Vals dvs ds) (hx : Passes CX X E)
    (I : Inv X pins σ H s) (r : Vals vs us) (h : sp (vs ++ dvs) H Q E) : wpAny (model X.prog X.w) X.A (call (.ref f) us) (EP X pins σ Q) X.xe s := by
  have r2 : Vals (vs ++ dvs) (us ++ ds) := r.append hd
  have hl : (us ++ ds).length = ps.length := by rw [← r2.length]; exact F.len _ _ _ _ h
  refine wpAny_call (codeAny_mono (F.run X.A X.stack s H ⟨us, []⟩ (us ++ ds) (vs ++ dvs) Q E hr I.env0 (hb s us I.kIn hl) r2 h) fun r s' hq => ?_)
  cases r with
  | error e => exact hx pins σ H s e s' I hq
  | ok fl =>
    cases fl with
    | ret u => exact I.after hq
    | next => exact False.elim hq
    | brk => exact False.elim hq
    | cont => exact False.elim hq
theorem pe_call (F : FnOk X.prog X.w X.K X.mg X.base CX k f fd ps sp) (hr : Room k X.A) (hg : Gl X x) (hm : X.mg x = some (.ref f)) (hk : PySem.W.keepIn X.K (.ref f) = true) (hb : Binds X.K fd ps ds) (hd : Vals dvs ds) (hx : Passes CX X E)
    (ha : PA X (e :: es) t) (hdb : (x == ("__debug__" : Str)) = false := by decide) (he : starEach (e :: es) X.env = (false, eval e X.env) :: starEach es X.env := by rfl) (hpl : (backTo pos (starEach es X.env)).any (·.1) = false := by rfl) :
    PE X (.Call (.Name x p) (e :: es) [] pos) (tCall sp dvs E t) := by
  intro pins s σ H Q I h
  refine wpAny_Call_Name_kw (ld_glob I hg hm ?_ hdb)
  refine PySem.W.callWith_K (h₀ := X.base) I.ok.mod.kin hk (thn (ha pos pins s σ H _ I h) fun us s1 zz0 => ?_) he hpl
  obtain ⟨vs, H1, I1, r, q⟩ := zz0
  refine ⟨I1.kIn, ?_⟩
  exact run_fn F hr hb hd hx I1 r q
theorem pe_meth {pl : Sem Bool} (he : PE X o ta) (c : Cls X.K C) (hm : Meth X.K C m f) (F : FnOk X.prog X.w X.K X.mg X.base CX k f fd ps sp) (hr : Room k X.A) (hb : Binds X.K fd ps ds) (hd : Vals dvs ds) (hx : Passes CX X E) (ha : PA X (e :: es) t)
    (hst : starEach (e :: es) X.env = (false, eval e X.env) :: starEach es X.env := by rfl) (hpl : (backTo pos (starEach es X.env)).any (·.1) = false := by rfl)
    (ht : eval (.Call (.Attribute o m apos) (e :: es) [] pos) X.env = (do
      let ov ← eval o X.env
      standAt apos.atName
      let (f, first) ← holding [ov] (getMethod ov m pl)
      callWith pos f first (backTo pos (starEach (e :: es) X.env)) (backToKw pos (keywordEach [] X.env))) := by rfl) :
    PE X (.Call (.Attribute o m apos) (e :: es) [] pos) (tMeth C m sp dvs E ta t) := by
  intro pins s σ H Q I h
  refine PySem.W.methodCall_KW (pl := pl) (thn (he pins s σ H _ I h) fun u s1 zz0 => ?_) ht
  obtain ⟨x, H1, I1, rx, a, dx, fs, ex, ea, l, q⟩ := zz0
  subst ex
  obtain rfl : u = Value.ref a := rx
  refine getmeth_ok I1 ea c hm l ?_
  refine PySem.W.callWith_K (first := [.ref a]) (h₀ := X.base) I.ok.mod.kin hm.kp (thn (ha pos pins s1 σ H1 _ I1 q) fun us s2 zz0 => ?_) hst hpl
  obtain ⟨vs, H2, I2, r, q2⟩ := zz0
  refine ⟨I2.kIn, ?_⟩
  exact run_fn (us := .ref a :: us) (vs := .ref a :: vs) F hr hb hd hx I2 (.cons rfl r) q2
theorem pe_meth0 {pl : Sem Bool} (he : PE X o ta) (c : Cls X.K C) (hm : Meth X.K C m f) (F : FnOk X.prog X.w X.K X.mg X.base CX k f fd ps sp) (hr : Room k X.A) (hb : Binds X.K fd ps ds) (hd : Vals dvs ds) (hx : Passes CX X E)
    (ht : eval (.Call (.Attribute o m apos) [] [] pos) X.env = (do
      let ov ← eval o X.env
      standAt apos.atName
      let (f, first) ← holding [ov] (getMethod ov m pl)
      callWith pos f first (backTo pos (starEach [] X.env)) (backToKw pos (keywordEach [] X.env))) := by rfl) :
    PE X (.Call (.Attribute o m apos) [] [] pos) (tMeth C m sp dvs E ta tNil) := by
  intro pins s σ H Q I h
  refine PySem.W.methodCall_KW (pl := pl) (thn (he pins s σ H _ I h) fun u s1 zz0 => ?_) ht
  obtain ⟨x, H1, I1, rx, a, dx, fs, ex, ea, l, q⟩ := zz0
  subst ex
  obtain rfl : u = Value.ref a := rx
  refine getmeth_ok I1 ea c hm l ?_
  exact PySem.W.callWith_K0 (first := [.ref a]) I1.kIn hm.kp (run_fn (us := [.ref a]) (vs := [.ref a]) F hr hb hd hx I1 (.cons rfl .nil) q)
structure Mk (K : PySem.W.Frag) (C f : Addr) : Prop where
  makes : PySem.W.makesIn K C = true
  init : PySem.W.findIn K (.ref C) "__init__" = some (some (.ref f))
  fn : PySem.W.isFn K (.ref f) = true
  kp : PySem.W.keepIn K (.ref C) = true
theorem run_make {pins : List (Addr × Obj)} {σ : St} {H : Hp} {s : Shared} {Q : VK} {us : List Value} {vs : List V} (M : Mk X.K C f) (F : FnOk X.prog X.w X.K X.mg X.base CX k f fd ps sp) (hr : Room (k + 1) X.A) (hb : Binds X.K fd ps ds) (hd : Vals dvs ds)
    (hx : Passes CX X E) (I : Inv X pins σ H s) (r : Vals vs us)
    (h : ∀ x dx, H x = none → H dx = none → dx ≠ x → sp (.ref x :: (vs ++ dvs)) (upd (upd H dx (.own x)) x (.ins C dx [])) (fun v H2 => v = .non ∧ Q (.ref x) H2) E) :
    wpAny (model X.prog X.w) X.A (call (.ref C) us) (EP X pins σ Q) X.xe s := by
  have hq := h (s.heap.objs.size + 1) s.heap.objs.size (I.hok.fresh (Nat.le_succ _)) (I.hok.fresh (Nat.le_refl _)) (Nat.ne_of_lt (Nat.lt_succ_self _))
  have I2 := Inv.made (C := C) I
  have r2 : Vals (V.ref (s.heap.objs.size + 1) :: (vs ++ dvs)) (Value.ref (s.heap.objs.size + 1) :: (us ++ ds)) := .cons rfl (r.append hd)
  have hl : (Value.ref (s.heap.objs.size + 1) :: us ++ ds).length = ps.length := by
    have e := r2.length
    rw [F.len _ _ _ _ hq] at e
    exact e.symm
  refine wpAny_call (make_map (f := f) I.kIn M.makes M.init (beq_iff_eq.mp M.fn) (codeAny_mono (F.run _ X.stack _ _ ⟨Value.ref (s.heap.objs.size + 1) :: us, []⟩ (Value.ref (s.heap.objs.size + 1) :: (us ++ ds)) _ _ E (hr.make C us [])
    (I2.env0.make C us []) (hb _ (Value.ref (s.heap.objs.size + 1) :: us) I2.kIn hl) r2 hq) fun r s' hq' => ?_))
  cases r with
  | error e => exact hx pins σ _ _ e s' I2 hq'
  | ok fl =>
    cases fl with
    | ret u =>
      obtain ⟨v, H', I3, rv, ev, q3⟩ := I2.after hq'
      subst ev
      exact ⟨rv, ⟨V.ref (s.heap.objs.size + 1), H', I3, rfl, q3⟩⟩
    | next => exact False.elim hq'
    | brk => exact False.elim hq'
    | cont => exact False.elim hq'
theorem pe_make0 (M : Mk X.K C f) (F : FnOk X.prog X.w X.K X.mg X.base CX k f fd ps sp) (hr : Room (k + 1) X.A) (hg : Gl X x) (hm : X.mg x = some (.ref C)) (hb : Binds X.K fd ps ds) (hd : Vals dvs ds) (hx : Passes CX X E)
    (hdb : (x == ("__debug__" : Str)) = false := by decide) : PE X (.Call (.Name x p) [] [] pos) (tMake C sp dvs E tNil) := by
  intro pins s σ H Q I h
  refine wpAny_Call_Name_kw (ld_glob I hg hm ?_ hdb)
  exact PySem.W.callWith_K0 I.kIn M.kp (run_make (us := []) M F hr hb hd hx I .nil h)
end
section
variable {X : Cx} {CX : CXT} {k : Nat} {f C : Addr} {fd : FuncData} {ps ks : List Str} {sp : Sp} {E : XK} {x m : Str} {p pos apos kpos : Pos} {e o : Expr} {es : List Expr} {kws : List Keyword} {te ta : TE} {t tk : TA} {nm : Option Str}
variable {g : List Value → List Value → List Value} {gV : List V → List V → List V}
end
structure FnScope (N P : List Str) (sc : Scope) : Prop where
  kind : sc.kind = .function
  co : sc.isCoroutine = false
  gen : sc.isGenerator = false
  nd : N.Nodup
  pre : N.take P.length = P
  par : ∀ x ∈ P, sc.names.lookup x = some .local ∨ sc.names.lookup x = some .cell
  nofree : ∀ y ∈ sc.names, y.2 ≠ .free
theorem bindL_out {kindOf : Str → Option NameKind} {x : Str} : ∀ {binds : List (Str × Value)} {m : Str → Option Value}, (∀ v, (x, v) ∉ binds) → bindL kindOf binds m x = m x
  | [], _, _ => rfl
  | (n, v) :: r, m, h => by
    unfold bindL
    rw [bindL_out fun w hw => h w (List.mem_cons_of_mem _ hw)]
    split
    · have : x ≠ n := by rintro rfl; exact h v List.mem_cons_self
      simp [this]
    · rfl
theorem bindC_out {kindOf : Str → Option NameKind} {x : Str} : ∀ {binds : List (Str × Value)} {m : Str → Option Value}, (∀ v, (x, v) ∉ binds) → bindC kindOf binds m x = m x
  | [], _, _ => rfl
  | (n, v) :: r, m, h => by
    unfold bindC
    rw [bindC_out fun w hw => h w (List.mem_cons_of_mem _ hw)]
    split
    · rfl
    · have : x ≠ n := by rintro rfl; exact h v List.mem_cons_self
      simp [this]
theorem bindL_get {kindOf : Str → Option NameKind} {x : Str} {v : Value} : ∀ {P : List Str} {vs : List Value} {i : Nat} {m : Str → Option Value}, P.Nodup → P[i]? = some x → vs[i]? = some v → kindOf x = some .local →
    bindL kindOf (P.zip vs) m x = some v
  | [], _, _, _, _, h, _, _ => by simp at h
  | _ :: _, [], _, _, _, _, h, _ => by simp at h
  | p :: P, w :: vs, 0, m, nd, h1, h2, hk => by
    simp at h1 h2; subst h1; subst h2
    show bindL kindOf ((p, w) :: P.zip vs) m p = _
    unfold bindL
    rw [bindL_out fun v hv => (List.nodup_cons.mp nd).1 (List.of_mem_zip hv).1, if_pos hk]
    simp
  | p :: P, w :: vs, i + 1, m, nd, h1, h2, hk => by
    show bindL kindOf ((p, w) :: P.zip vs) m x = _
    unfold bindL
    exact bindL_get (i := i) (List.nodup_cons.mp nd).2 (by simpa using h1) (by simpa using h2) hk
theorem bindC_get {kindOf : Str → Option NameKind} {x : Str} {v : Value} : ∀ {P : List Str} {vs : List Value} {i : Nat} {m : Str → Option Value}, P.Nodup → P[i]? = some x → vs[i]? = some v → kindOf x ≠ some .local →
    bindC kindOf (P.zip vs) m x = some v
  | [], _, _, _, _, h, _, _ => by simp at h
  | _ :: _, [], _, _, _, _, h, _ => by simp at h
  | p :: P, w :: vs, 0, m, nd, h1, h2, hk => by
    simp at h1 h2; subst h1; subst h2
    show bindC kindOf ((p, w) :: P.zip vs) m p = _
    unfold bindC
    rw [bindC_out fun v hv => (List.nodup_cons.mp nd).1 (List.of_mem_zip hv).1, if_neg hk]
    simp
  | p :: P, w :: vs, i + 1, m, nd, h1, h2, hk => by
    show bindC kindOf ((p, w) :: P.zip vs) m x = _
    unfold bindC
    exact bindC_get (i := i) (List.nodup_cons.mp nd).2 (by simpa using h1) (by simpa using h2) hk
noncomputable def start (N : List Str) (vs : List V) : St := vs.map some ++ List.replicate (N.length - vs.length) none
noncomputable def cxOf (CX : CXT) (P : Program) (w : World) (K : PySem.W.Frag) (mg : Str → Option Value) (base : Heap) (N : List Str) (qual : Str) (scope : Scope) (f : Addr) (cd : Value) (A : Around) (outer : List Env) (s : Shared) (H : Hp) (E : XK) : Cx where
  prog := P
  w := w
  K := K
  mg := mg
  base := base
  A := A.deeper (envOfC qual scope s.heap.objs.size f cd)
  N := N
  s₀ := s
  H₀ := H
  env := envOfC qual scope s.heap.objs.size f cd
  outer := outer
  stack := envOfC qual scope s.heap.objs.size f cd :: outer
  ex := []
  calm := true
  fn := fun _ => true
  pn := []
  xe := fun e s' => wpAny (model P w) (A.deeper (envOfC qual scope s.heap.objs.size f cd)) (leaving (envOfC qual scope s.heap.objs.size f cd) e) (fun _ s'' => CX outer H s E e s'') (fun e' s'' => CX outer H s E e' s'') s'
theorem cell_has {sc : Scope} {n : Nat} {x : Str} (h : sc.names.lookup x = some .cell) : ∃ c, (cellsFrom n sc.names []).lookup x = some c := by
  have q := PySem.W.cellsFrom_some sc.names n [] (.inl h)
  exact Option.isSome_iff_exists.mp q
theorem inv_start {CX : CXT} {P : Program} {w : World} {K : PySem.W.Frag} {mg : Str → Option Value} {base : Heap} {N ps : List Str} {qual : Str} {scope : Scope} {f : Addr} {cd : Value} {A : Around} {outer : List Env} {s s1 : Shared} {H : Hp} {E : XK} {us : List Value} {vs : List V}
    (S : FnScope N ps scope) (hd : A.handled = none) (e0 : Env0 P w K mg base A outer s H) (hl : vs.length = ps.length) (r : Vals vs us)
    (x : InCallC s s.heap.objs.size (bindL (envOfC qual scope s.heap.objs.size f cd).kindOf (ps.zip us) fun _ => none) (cellsFrom (s.heap.objs.size + 1) scope.names []) (bindC (envOfC qual scope s.heap.objs.size f cd).kindOf (ps.zip us) fun _ => none) s1) :
    Inv (cxOf CX P w K mg base N qual scope f cd A outer s H E) [] (start N vs) H s1 := by
  have hpl : ps.length ≤ N.length := by have := congrArg List.length S.pre; rw [List.length_take] at this; (first | lia | omega)
  obtain ⟨h1, tk, rfl, hk⟩ := x.done
  have noA : ∀ b : Addr, b ∉ (cxOf CX P w K mg base N qual scope f cd A outer s H E).ex := fun b z => absurd (show b ∈ ([] : List Addr) from z) (by simp)
  refine ⟨⟨e0.mod, S.kind, rfl, rfl, Nat.le_refl _, fun y z c h1 h2 => ?_, fun y hy => ?_, fun y c _ h => ?_, fun _ => hd, Around.frames_deeper e0.frames, .inr ⟨rfl, rfl⟩, fun b z => absurd z (noA b), e0.bs, e0.bsz, fun b _ _ => noA b, fun b z => absurd z (noA b), e0.funs, e0.frf⟩,
    rfl, e0.bare, Un.kept hk, ⟨_, x.toInCall.ns, fun i y v h1 h2 h3 => ?_⟩, fun y c h => ⟨_, x.cell y c h⟩, e0.hok.fresh (Nat.le_refl _), fun y c h => ?_, fun p hp => absurd (show p ∈ ([] : List (Addr × Obj)) from hp) (by simp), e0.hok.kept hk, ?_⟩
  · exact name_of_addr x.apart (PySem.mem_of_lookup h1) (PySem.mem_of_lookup h2)
  · have hy : scope.names.lookup y = some .cell ∨ scope.names.lookup y = some .free := hy
    rcases hy with hy | hy
    · exact cell_has hy
    · exact absurd rfl (S.nofree _ (PySem.mem_of_lookup hy))
  · exact Nat.le_of_lt (x.above y c (PySem.mem_of_lookup h))
  · have hi : i < vs.length := by
      unfold start at h2
      by_cases hi : i < vs.length
      · exact hi
      · rw [List.getElem?_append_right (by simpa using hi)] at h2
        rw [List.getElem?_replicate] at h2
        split at h2 <;> cases h2
    have ha : vs[i]? = some v := by
      unfold start at h2
      rw [List.getElem?_append_left (by simpa using hi), List.getElem?_map] at h2
      cases e : vs[i]? with
      | none => rw [e] at h2; cases h2
      | some a => rw [e] at h2; cases h2; rfl
    obtain ⟨u, hu, rv⟩ := r.get ha
    have hp : ps[i]? = some y := by
      rw [← S.pre, List.getElem?_take_of_lt (by (first | lia | omega))]; exact h1
    have ndP : ps.Nodup := by rw [← S.pre]; exact S.nd.sublist (List.take_sublist _ _)
    refine ⟨u, rv, ?_⟩
    rcases S.par y (List.mem_of_getElem? hp) with k | k
    · exact .inl ⟨k, bindL_get ndP hp hu k⟩
    · obtain ⟨c, e⟩ := cell_has (n := s.heap.objs.size + 1) k
      refine .inr ⟨.inl k, c, e, ?_⟩
      have q := x.cell y c e
      rw [bindC_get ndP hp hu (by show scope.names.lookup y ≠ _; rw [k]; decide)] at q
      exact q
  · exact e0.hok.fresh (Nat.le_of_lt (x.above y c (PySem.mem_of_lookup h)))
  · unfold start
    show _ = N.length
    rw [List.length_append, List.length_map, List.length_replicate]
    (first | lia | omega)
theorem fn_of {CX : CXT} {P : Program} {w : World} {K : PySem.W.Frag} {mg : Str → Option Value} {base : Heap} {k : Nat} {f : Addr} {name qual : Str} {params : Arguments} {body : List Stmt} {scope : Scope} {dV kV doc pm cdv ct oc : Value} {an od : Option Addr}
    {osl : Array (Option Value)} {N ps : List Str} {sp : Sp} (lk : K.lookup f = some ⟨oc, od, .func (PySem.W.fnOf name qual params body scope dV kV doc pm an cdv ct), osl⟩) (hcd : PySem.W.codeIn K cdv qual = true) (S : FnScope N ps scope)
    (len : ∀ vs H Q E, sp vs H Q E → vs.length = ps.length)
    (hbody : ∀ (A : Around) (outer : List Env) (s : Shared) (H : Hp) (vs : List V) (Q : VK) (E : XK), Room k (A.deeper (envOfC qual scope s.heap.objs.size f cdv)) → sp vs H Q E →
      ∃ t, PSs (cxOf CX P w K mg base N qual scope f cdv A outer s H E) body t ∧ t { nx := fun _ H' => Q .non H', rt := Q } (start N vs) H) :
    FnOk P w K mg base CX (k + 1) f (PySem.W.fnOf name qual params body scope dV kV doc pm an cdv ct) ps sp := by
  refine ⟨len, fun A outer s H args us vs Q E hr e0 hb r hsp => ?_⟩
  have hl := len _ _ _ _ hsp
  have KX : K.In s.heap := e0.mod.kin.keeps fun b o e => (e0.bs b o e).1
  have lim : s.heap.NoLimit := e0.mod.nolimit.keeps fun b o e => (e0.bs b o e).1
  have hkind : ∀ y ∈ ps.zip us, scope.names.lookup y.1 = some .local ∨ (scope.names.lookup y.1 = some .cell ∧ ((cellsFrom (s.heap.objs.size + 1) scope.names []).lookup y.1).isSome = true) := fun ⟨n, v⟩ hy => by
    rcases S.par n (List.of_mem_zip hy).1 with q | q
    · exact .inl q
    · exact .inr ⟨q, PySem.W.cellsFrom_some _ _ _ (.inl q)⟩
  refine codeAny_call_function hr.depth (KX _ _ lk) rfl S.co S.gen rfl (PySem.W.codeRec_of KX hcd) (hb _ _ _ _ ?_)
  refine wpAny_newFunctionEnv_cells S.kind hkind fun env he s1 x => ?_
  subst he
  refine ⟨lim.keeps x.toInCall.keep, codeAny_func ?_⟩
  obtain ⟨t, ht, hq⟩ := hbody A outer s H vs Q E (hr.deeper _) hsp
  have I : Inv (cxOf CX P w K mg base N qual scope f cdv A outer s H E) [] (start N vs) H s1 := inv_start S hr.hd e0 hl r x
  refine wpAny_mono (ht [] s1 (start N vs) H _ I hq) (fun fl s' hs => ?_) fun e s' hs => hs
  have fin : ∀ {σ' : St} {H' : Hp} {v : V} {u : Value}, Inv (cxOf CX P w K mg base N qual scope f cdv A outer s H E) [] σ' H' s' → RelV v u → Q v H' → CE outer P w H s Q u s' :=
    fun {σ' H' v u} J rv q => ⟨v, H', J.os, J.bare, J.base, J.hok, rv, q⟩
  cases fl with
  | ret u =>
    obtain ⟨v, σ', H', J, rv, q⟩ := hs
    exact fin J rv q
  | next =>
    obtain ⟨σ', H', J, q⟩ := hs
    exact fin (v := V.non) (u := Value.none) J rfl q
  | brk =>
    obtain ⟨_, _, _, q⟩ := hs
    exact False.elim q
  | cont =>
    obtain ⟨_, _, _, q⟩ := hs
    exact False.elim q
end L2
namespace L2
open PySem PySem.Spec PyProof.Rows
section
variable {X : Cx} {x : Str} {p pos : Pos} {e : Expr} {es : List Expr} {t : TA} {id T : String} {r : List V → Hp → VK → Prop}
noncomputable def tCB (r : List V → Hp → VK → Prop) (t : TA) : TE := fun σ H Q => t σ H fun vs H1 => r vs H1 Q
theorem pe_callB (hc : CallR X (.builtin id) r) (hg : Gl X x) (hm : X.mg x = none) (hv : bootBuiltins x = some (.builtin id)) (ha : PA X (e :: es) t) (hn : x ≠ "__name__" := by decide) (hdb : (x == ("__debug__" : Str)) = false := by decide)
    (he : starEach (e :: es) X.env = (false, eval e X.env) :: starEach es X.env := by rfl) (hpl : (backTo pos (starEach es X.env)).any (·.1) = false := by rfl) : PE X (.Call (.Name x p) (e :: es) [] pos) (tCB r t) := by
  intro pins s σ H Q I h
  refine wpAny_Call_Name_kw (ld_blt I hg hm hv ?_ hn hdb)
  refine PyProof.Rows.callWith_builtin1 (thn (ha pos pins s σ H _ I h) fun us s1 zz0 => ?_) he hpl
  obtain ⟨vs, H1, I1, r1, q1⟩ := zz0
  exact hc pins s1 σ H1 vs us Q I1 r1 q1
theorem pe_callTy (hc : CallR X (.type T) r) (hg : Gl X x) (hm : X.mg x = none) (hv : bootBuiltins x = some (.type T)) (ha : PA X (e :: es) t) (hn : x ≠ "__name__" := by decide) (hdb : (x == ("__debug__" : Str)) = false := by decide)
    (he : starEach (e :: es) X.env = (false, eval e X.env) :: starEach es X.env := by rfl) (hpl : (backTo pos (starEach es X.env)).any (·.1) = false := by rfl) : PE X (.Call (.Name x p) (e :: es) [] pos) (tCB r t) := by
  intro pins s σ H Q I h
  refine wpAny_Call_Name_kw (ld_blt I hg hm hv ?_ hn hdb)
  refine PyProof.Rows.callWith_type1 (thn (ha pos pins s σ H _ I h) fun us s1 zz0 => ?_) he hpl
  obtain ⟨vs, H1, I1, r1, q1⟩ := zz0
  exact hc pins s1 σ H1 vs us Q I1 r1 q1
end
end L2
namespace HT
open PySem PyProof.Rows
section
open PySem.SeqAt
open PySem.AutoSeq1 (wpAny_loadPart')
open PySem.MeetsSeq PySem.MeetsSeq2 PySem.MeetsSeq3
end
section
variable {prog : Program} {w : World} {A : Around} {E : Value → Shared → Prop} {s : Shared}
theorem cat_tup {t b : Addr} {vs ws : List Value} {Q : Value → Shared → Prop} (ht : IsTup s.heap t vs.toArray) (hb : IsTup s.heap b ws.toArray) (hv : vs ≠ [])
    (h1 : ws = [] → Q (.ref t) s) (h2 : ws ≠ [] → Q (.ref s.heap.objs.size) { s with heap := s.heap.push { cls := .type "tuple", data := .seq (vs ++ ws).toArray } })
    (hsz : vs.length + ws.length ≤ sizeLine) : wpAny (model prog w) A (binaryOp .Add (.ref t) (.ref b)) Q E s := by
  obtain ⟨⟨cls, dd, data, sl⟩, ho, hc, n, hd⟩ := id ht
  obtain ⟨⟨cls2, dd2, data2, sl2⟩, ho2, hc2, n2, hd2⟩ := id hb
  simp only at hc hd hc2 hd2
  subst hc hd hc2 hd2
  have e : vs.toArray ++ ws.toArray = (vs ++ ws).toArray := by simp
  by_cases hw : ws = []
  · exact concat_meets ⟨_, ho, rfl⟩ ⟨_, ho2, rfl⟩ noFill_tuple_add seq_tuple_add PySem.F.slot_tuple_add PySem.F.entry_tuple_add (PySem.F.args_tuple_add_2 _ _)
      (tuple_addW1 t b vs.toArray ws.toArray n n2 dd dd2 sl sl2 (by simpa using hv) (by simp [hw])) ⟨ho, ho2, h1 hw⟩
  · refine concat_meets ⟨_, ho, rfl⟩ ⟨_, ho2, rfl⟩ noFill_tuple_add seq_tuple_add PySem.F.slot_tuple_add PySem.F.entry_tuple_add (PySem.F.args_tuple_add_2 _ _)
      (tuple_addW2 t b vs.toArray ws.toArray n n2 dd dd2 sl sl2 (by simpa using hv) (by simpa using hw) (by rw [List.size_toArray, List.size_toArray]; exact hsz)) ⟨ho, ho2, ?_⟩
    rw [e]
    exact h2 hw
noncomputable def sIx (n d : Nat) : Option Int → Nat
  | none => d
  | some v => if v < 0 then (v + (n : Int)).toNat else min v.toNat n
theorem sIx_none (n d : Nat) : sIx n d none = d := rfl
theorem sIx_nat (n d k : Nat) : sIx n d (some (k : Int)) = min k n := by
  show (if (k : Int) < 0 then ((k : Int) + (n : Int)).toNat else min (k : Int).toNat n) = min k n
  rw [if_neg (by (first | lia | omega)), Int.toNat_natCast]
theorem sIx_le (n d : Nat) (hd : d ≤ n) (o : Option Int) : sIx n d o ≤ n := by
  cases o with
  | none => exact hd
  | some v =>
    show (if v < 0 then (v + (n : Int)).toNat else min v.toNat n) ≤ n
    by_cases hv : v < 0
    · rw [if_pos hv]; (first | lia | omega)
    · rw [if_neg hv]; exact Nat.min_le_right _ _
theorem clip_eq (v : Int) (n d : Nat) : (if v < 0 then max (v + (n : Int)) 0 else min v (n : Int)) = ((sIx n d (some v) : Nat) : Int) := by
  show (if v < 0 then max (v + (n : Int)) 0 else min v (n : Int)) = (((if v < 0 then (v + (n : Int)).toNat else min v.toNat n) : Nat) : Int)
  by_cases hv : v < 0
  · simp only [if_pos hv]; (first | lia | omega)
  · simp only [if_neg hv]; (first | lia | omega)
theorem adjust_gen (lo hi : Option Int) (n : Nat) : Builtin.Slice.sliceAdjust lo hi 1 (n : Int) = (((sIx n 0 lo : Nat) : Int), ((sIx n n hi : Nat) : Int)) := by
  have h1 : ¬ ((1 : Int) < 0) := by (first | lia | omega)
  unfold Builtin.Slice.sliceAdjust
  simp only [h1, if_false]
  refine Prod.ext ?_ ?_
  · cases lo with
    | none => rfl
    | some v => exact clip_eq v n 0
  · cases hi with
    | none => rfl
    | some v => exact clip_eq v n n
theorem places_gen (i j : Nat) : Builtin.Slice.slicePlaces (i : Int) (j : Int) 1 = j - i := by
  unfold Builtin.Slice.slicePlaces
  have h1 : (1 : Int) > 0 := by (first | lia | omega)
  simp only [h1, if_true, Int.ediv_one]
  split <;> (first | lia | omega)
theorem slicePart_ {v : Value} {o : Option Int} {Q : Option Int → Shared → Prop} (p : IsPart v o) (h : Q o s) : wpAny (model prog w) A (Builtin.Slice.slicePartIndex v) Q E s := by
  cases p with
  | none => exact slicePart_none h
  | int i t => exact slicePart_int h
theorem sliceApplied_gen {sl : Addr} {vl vu : Value} {lo hi : Option Int} {n : Nat} {Q : Int × Int × Nat → Shared → Prop} (hs : s.heap.IsSliceOf sl vl vu .none) (pl : IsPart vl lo) (pu : IsPart vu hi)
    (h : Q (((sIx n 0 lo : Nat) : Int), 1, sIx n n hi - sIx n 0 lo) s) : wpAny (model prog w) A (Builtin.Slice.sliceApplied (.ref sl) (pure (n : Int))) Q E s := by
  obtain ⟨os, hos, hcs, hds⟩ := id hs
  unfold Builtin.Slice.sliceApplied Builtin.Slice.sliceFields
  refine wpAny_bind (wpAny_bind (wpAny_field hos hds (x := vl) rfl (wpAny_bind (wpAny_field hos hds (x := vu) rfl (wpAny_bind (wpAny_field hos hds (x := .none) rfl (wpAny_pure ?_)))))))
  refine wpAny_bind (slicePart_none ?_)
  show wpAny _ _ (if ((1 : Int) == 0) = true then _ else _) _ _ s
  rw [if_neg (by decide)]
  refine wpAny_bind (slicePart_ pl (wpAny_bind (slicePart_ pu (wpAny_bind (wpAny_pure ?_)))))
  show wpAny _ _ (match Builtin.Slice.sliceAdjust lo hi 1 (n : Int) with | (lo, hi) => pure (lo, (1 : Int), Builtin.Slice.slicePlaces lo hi 1)) _ _ s
  rw [adjust_gen lo hi n]
  show wpAny _ _ (pure (((sIx n 0 lo : Nat) : Int), (1 : Int), Builtin.Slice.slicePlaces ((sIx n 0 lo : Nat) : Int) ((sIx n n hi : Nat) : Int) 1)) _ _ s
  rw [places_gen]
  exact wpAny_pure h
theorem pick_gen (xs : Array Value) (i k : Nat) : ((List.range k).filterMap fun (m : Nat) => xs[((i : Int) + (m : Int) * 1).toNat]?).toArray = ((xs.toList.drop i).take k).toArray := by
  have e : (fun (m : Nat) => xs[((i : Int) + (m : Int) * 1).toNat]?) = fun m => xs[i + m]? := by
    funext m
    have : ((i : Int) + (m : Int) * 1).toNat = i + m := by (first | lia | omega)
    rw [this]
  rw [e]
  have := pick_run xs i k
  rw [List.filterMap_map] at this
  have e2 : ((fun x => xs[x]?) ∘ fun x => i + x) = fun m => xs[i + m]? := rfl
  rw [e2] at this
  rw [this]
theorem getItem_tuple_cut {t sl : Addr} {items : Array Value} {vl vu : Value} {lo hi : Option Int} {Q : Value → Shared → Prop} (ht : IsTup s.heap t items) (hs : s.heap.IsSliceOf sl vl vu .none) (pl : IsPart vl lo) (pu : IsPart vu hi)
    (hw : ¬ (sIx items.size 0 lo = 0 ∧ sIx items.size items.size hi = items.size))
    (h : Q (.ref s.heap.objs.size) { s with heap := s.heap.push { cls := .type "tuple", data := .seq ((items.toList.drop (sIx items.size 0 lo)).take (sIx items.size items.size hi - sIx items.size 0 lo)).toArray } })
    (hsz : items.size ≤ sizeLine) : wpAny (model prog w) A (getItem (.ref t) (.ref sl)) Q E s := by
  have htake : sizeOk (.seq ((items.toList.drop (sIx items.size 0 lo)).take (sIx items.size items.size hi - sIx items.size 0 lo)).toArray) := by
    show ((items.toList.drop (sIx items.size 0 lo)).take (sIx items.size items.size hi - sIx items.size 0 lo)).toArray.size ≤ sizeLine
    rw [List.size_toArray, List.length_take, List.length_drop, Array.length_toList]
    (first | lia | omega)
  have hj : sIx items.size items.size hi ≤ items.size := sIx_le _ _ (Nat.le_refl _) hi
  obtain ⟨os, hos, hcs, hds⟩ := id hs
  have hTs : s.TypeIs (.ref sl) "slice" := ⟨os, hos, hcs⟩
  unfold getItem
  try with_reducible refine wpAny_holding ?_
  first | refine wpAny_bind (wpAny_pure ?_) | skip
  refine wpAny_bind (wpAny_sequenceKey ht.typeIs (by decide) ?_)
  refine wpAny_bind (wpAny_callSpecial?_slot (name := Str.ofString "__getitem__") ht.typeIs PyProof.Rows.slot_tuple_getitem
    (wpAny_call_entry PyProof.Rows.slot_tuple_getitem ht.typeIs entry_tuple_getitem ?_ (args_tuple_getitem _ _)))
  show wpAny _ _ (Builtin.Tuple.tupleItemsOf (.ref t) >>= _) _ _ s
  refine wpAny_bind (tupleItemsOf_ ht ?_)
  refine wpAny_bind (wpAny_typeOf hTs ?_)
  rw [if_pos (by decide)]
  refine wpAny_bind (sliceApplied_gen hs pl pu ?_)
  have hno : ¬ ((((sIx items.size 0 lo : Nat) : Int) == 0 && (1 : Int) == 1 && (sIx items.size items.size hi - sIx items.size 0 lo) == items.size) = true) := by
    intro q
    rw [Bool.and_eq_true, Bool.and_eq_true] at q
    have q1 : ((sIx items.size 0 lo : Nat) : Int) = 0 := eq_of_beq q.1.1
    have q2 : sIx items.size items.size hi - sIx items.size 0 lo = items.size := eq_of_beq q.2
    exact hw ⟨by (first | lia | omega), by (first | lia | omega)⟩
  show wpAny _ _ (if (((sIx items.size 0 lo : Nat) : Int) == 0 && (1 : Int) == 1 && (sIx items.size items.size hi - sIx items.size 0 lo) == items.size) = true then _ else _) _ _ s
  rw [if_neg hno, pick_gen]
  first
    | exact wpAny_bind (m := Builtin.Tuple.tupleExact _) (wpAny_newObj_type (wpAny_pure ⟨_, rfl, wpAny_pure h⟩) htake)
    | exact wpAny_bind (m := Builtin.Tuple.tupleExact _) (wpAny_newObj_type (wpAny_bind (wpAny_pure (wpAny_pure ⟨_, rfl, wpAny_pure h⟩))) htake)
    | exact wpAny_bind (wpAny_bind (m := Builtin.Tuple.tupleExact _) (wpAny_newObj_type (wpAny_pure (wpAny_pure ⟨_, rfl, wpAny_pure h⟩)) htake))
    | exact wpAny_bind (wpAny_bind (m := Builtin.Tuple.tupleExact _) (wpAny_newObj_type (wpAny_pure ⟨_, rfl, wpAny_pure h⟩) htake))
end
end HT
namespace L2
open PySem PySem.Spec PyProof.Rows
noncomputable abbrev TO := St → Hp → (Option Int → Hp → Prop) → Prop
noncomputable def PO (X : Cx) (e : Option Expr) (t : TO) : Prop :=
  ∀ (pins : List (Addr × Obj)) (s : Shared) (σ : St) (H : Hp) (Q : Option Int → Hp → Prop), Inv X pins σ H s → t σ H Q →
    wpAny (model X.prog X.w) X.A (evalPart e X.env) (fun u s' => ∃ o H', Inv X pins σ H' s' ∧ IsPart u o ∧ Q o H') X.xe s
noncomputable def tNoPart : TO := fun _ H Q => Q none H
noncomputable def tPart (t : TE) : TO := fun σ H Q => t σ H fun x H1 => ∃ i, x = .int i ∧ Q (some i) H1
section
variable {X : Cx} {e : Expr} {te : TE} {lo hi : Option Expr} {tl th : TO} {pos p2 : Pos}
theorem po_none : PO X none tNoPart := by
  intro pins s σ H Q I h
  rw [evalPart_none]
  exact wpAny_pure ⟨none, H, I, .none, h⟩
theorem po_some (h : PE X e te) : PO X (some e) (tPart te) := by
  intro pins s σ H Q I hw
  rw [evalPart_some]
  refine thn (h pins s σ H _ I hw) fun u s1 zz0 => ?_
  obtain ⟨x, H1, I1, r1, q1⟩ := zz0
  obtain ⟨i, rfl, q⟩ := q1
  obtain ⟨t, rfl⟩ := r1
  exact ⟨some i, H1, I1, .int i t, q⟩
noncomputable def SlR (X : Cx) (r : V → Option Int → Option Int → Hp → VK → Prop) : Prop :=
  ∀ (pins : List (Addr × Obj)) (s : Shared) (σ : St) (H : Hp) (x : V) (v vl vu : Value) (lo hi : Option Int) (sl : Addr) (Q : VK), Inv X pins σ H s → RelV x v → s.heap.IsSliceOf sl vl vu .none → IsPart vl lo → IsPart vu hi → r x lo hi H Q →
    ∃ T id, typeLookup (.type T) "__getitem__" = pure (some (.builtin id)) ∧ s.TypeIs v T ∧ wpAny (model X.prog X.w) X.A (getItem v (.ref sl)) (EP X pins σ Q) X.xe s
noncomputable def tSl (r : V → Option Int → Option Int → Hp → VK → Prop) (te : TE) (tl th : TO) : TE := fun σ H Q => te σ H fun x H1 => tl σ H1 fun l H2 => th σ H2 fun u H3 => r x l u H3 Q
theorem pe_slice {r : V → Option Int → Option Int → Hp → VK → Prop} (hr : SlR X r) (he : PE X e te) (hl : PO X lo tl) (hu : PO X hi th) : PE X (.Subscript e (.Slice lo hi none p2) pos) (tSl r te tl th) := by
  intro pins s σ H Q I h
  refine Subscript_ (thn (he pins s σ H _ I h) fun v s1 zz0 => ?_)
  obtain ⟨x, H1, I1, r1, q1⟩ := zz0
  refine wpAny_Slice (thn (hl pins s1 σ H1 _ I1 q1) fun vl s2 zz0 => ?_)
  obtain ⟨l, H2, I2, pl, q2⟩ := zz0
  refine thn (hu pins s2 σ H2 _ I2 q2) fun vu s3 zz1 => ?_
  obtain ⟨u, H3, I3, pu, q3⟩ := zz1
  rw [evalPart_none]
  refine wpAny_pure ?_
  have I4 : Inv X pins σ H3 { s3 with heap := s3.heap.push { cls := .type "slice", data := .fields #[vl, vu, .none] } } := I3.kept (t' := s3.toks) fun b ob q => Heap.get?_push_of_some _ q
  obtain ⟨T, id, hT, ht, hg⟩ := hr pins { s3 with heap := s3.heap.push { cls := .type "slice", data := .fields #[vl, vu, .none] } } σ H3 x v vl vu l u s3.heap.objs.size Q I4 r1 (Heap.IsSliceOf.new ..) pl pu q3
  show wpAny (model X.prog X.w) X.A (subscriptTail e (.Slice lo hi none p2) v (.ref s3.heap.objs.size)) (EP X pins σ Q) X.xe { s3 with heap := s3.heap.push { cls := .type "slice", data := .fields #[vl, vu, .none] } }
  exact tail_any (ops := [.ref s3.heap.objs.size, v]) ht hT hg (by with_unfolding_all rfl)
noncomputable def cutV (xs : List V) (lo hi : Option Int) : List V := (xs.drop (HT.sIx xs.length 0 lo)).take (HT.sIx xs.length xs.length hi - HT.sIx xs.length 0 lo)
theorem cutV_length (xs : List V) (lo hi : Option Int) : (cutV xs lo hi).length ≤ xs.length := by
  unfold cutV
  rw [List.length_take, List.length_drop]
  (first | lia | omega)
noncomputable def rSlT (K : PySem.W.Frag) : V → Option Int → Option Int → Hp → VK → Prop := fun x lo hi H Q => ∃ a xs, x = .ref a ∧ SqT K H a xs ∧
  ¬ (HT.sIx xs.length 0 lo = 0 ∧ HT.sIx xs.length xs.length hi = xs.length) ∧ ∀ p, H p = none → Q (.ref p) (upd H p (.tup (cutV xs lo hi)))
theorem sl_tup : SlR X (rSlT X.K) := by
  intro pins s σ H x v vl vu lo hi sl Q I rx hs pl pu h
  obtain ⟨a, xs, rfl, hx, hw, q⟩ := h
  cases rx
  obtain ⟨its, r, ht, hz⟩ := I.tuple hx
  have hlen : its.toArray.size = xs.length := by rw [List.size_toArray]; exact r.length.symm
  refine ⟨"tuple", _, PyProof.Rows.slot_tuple_getitem.lookup, ht.typeIs, ?_⟩
  refine HT.getItem_tuple_cut ht hs pl pu (by rw [hlen]; exact hw) ?_ (by rw [hlen]; exact hz)
  rw [hlen]
  refine ⟨.ref s.heap.objs.size, _, I.laid (t' := s.toks) (o := .tup (cutV xs lo hi)) (fun b ob q => Heap.get?_push_of_some _ q) (Nat.le_refl _) ?_, rfl, q _ (I.hok.fresh (Nat.le_refl _))⟩
  exact ⟨Nat.le_trans (cutV_length xs lo hi) hz, _, (r.drop (HT.sIx xs.length 0 lo)).take (HT.sIx xs.length xs.length hi - HT.sIx xs.length 0 lo), IsTup.new _ _⟩
noncomputable def rCatT (K : PySem.W.Frag) : R2 := fun x y H Q => ∃ a b xs ys, x = .ref a ∧ y = .ref b ∧ SqT K H a xs ∧ SqT K H b ys ∧ xs ≠ [] ∧ xs.length + ys.length ≤ sizeLine ∧
  (ys = [] → Q (.ref a) H) ∧ (ys ≠ [] → ∀ p, H p = none → Q (.ref p) (upd H p (.tup (xs ++ ys))))
theorem Vals.nil_iff {xs : List V} {us : List Value} (r : Vals xs us) : us = [] ↔ xs = [] := by
  cases r with
  | nil => simp
  | cons _ _ => simp
theorem op_catT : OpR X (binaryOp .Add) (rCatT X.K) := by
  intro pins s σ H x y v u Q I rx ry h
  obtain ⟨a, b, xs, ys, rfl, rfl, ha, hb, hx, hz, q1, q2⟩ := h
  cases rx
  cases ry
  obtain ⟨its, r1, p1, _⟩ := I.tuple ha
  obtain ⟨its2, r2, p2, _⟩ := I.tuple hb
  refine HT.cat_tup p1 p2 (fun z => hx (r1.nil_iff.mp z)) (fun z => ⟨.ref a, H, I, rfl, q1 (r2.nil_iff.mp z)⟩) (fun z => ?_) (by rw [← r1.length, ← r2.length]; exact hz)
  refine ⟨.ref s.heap.objs.size, _, I.laid (t' := s.toks) (o := .tup (xs ++ ys)) (fun b ob q => Heap.get?_push_of_some _ q) (Nat.le_refl _) ?_, rfl, q2 (fun w => z (r2.nil_iff.mpr w)) _ (I.hok.fresh (Nat.le_refl _))⟩
  exact ⟨by rw [List.length_append]; exact hz, _, r1.append r2, IsTup.new _ _⟩
end
end L2
namespace L2
open PySem PySem.Spec PyProof.Rows
noncomputable def ixN (n : Nat) (i : Int) : Option Nat := if 0 ≤ i then (if i < n then some i.toNat else none) else if -(n : Int) ≤ i then some (i + n).toNat else none
noncomputable def atI {α : Type} (xs : List α) (i : Int) : Option α := (ixN xs.length i).bind fun j => xs[j]?
theorem ixN_seq {n : Nat} {i : Int} {j : Nat} (h : ixN n i = some j) : seqIndex? i n = some j ∧ j < n ∧ -(n : Int) ≤ i ∧ i < n := by
  unfold ixN at h
  by_cases h0 : 0 ≤ i
  · rw [if_pos h0] at h
    by_cases h1 : i < n
    · rw [if_pos h1] at h
      have e : i.toNat = j := Option.some.inj h
      exact ⟨by rw [seqIndex_of h0 h1, e], by (first | lia | omega), by (first | lia | omega), h1⟩
    · rw [if_neg h1] at h; cases h
  · rw [if_neg h0] at h
    by_cases h1 : -(n : Int) ≤ i
    · rw [if_pos h1] at h
      have e : (i + n).toNat = j := Option.some.inj h
      exact ⟨by rw [seqIndex_neg (by (first | lia | omega)) h1, e], by (first | lia | omega), h1, by (first | lia | omega)⟩
    · rw [if_neg h1] at h; cases h
theorem atI_get {α : Type} {xs : List α} {i : Int} {v : α} (h : atI xs i = some v) : ∃ j, seqIndex? i xs.length = some j ∧ xs[j]? = some v ∧ j < xs.length ∧ -(xs.length : Int) ≤ i ∧ i < xs.length := by
  unfold atI at h
  cases e : ixN xs.length i with
  | none => rw [e] at h; cases h
  | some j =>
    rw [e] at h
    obtain ⟨h1, h2, h3, h4⟩ := ixN_seq e
    exact ⟨j, h1, h, h2, h3, h4⟩
theorem atI_nat {α : Type} {xs : List α} {j : Nat} {v : α} (h : xs[j]? = some v) : atI xs (j : Int) = some v := by
  have hj : j < xs.length := (List.getElem?_eq_some_iff.mp h).1
  have e : ixN xs.length (j : Int) = some j := by
    unfold ixN
    rw [if_pos (by (first | lia | omega)), if_pos (by (first | lia | omega))]; simp
  unfold atI; rw [e]; exact h
noncomputable def PlainIx (b : Expr) : Prop := ∀ o i, subscripted b false o i = operate [o, i] (getItem o i)
noncomputable def IxR (X : Cx) (r : R2) : Prop :=
  ∀ (value slice : Expr) (pins : List (Addr × Obj)) (s : Shared) (σ : St) (H : Hp) (x y : V) (v u : Value) (Q : VK), Inv X pins σ H s → RelV x v → RelV y u → r x y H Q →
    subscripted slice false v u = operate [v, u] (getItem v u) → wpAny (model X.prog X.w) X.A (subscriptTail value slice v u) (EP X pins σ Q) X.xe s
noncomputable def MtR (X : Cx) (id : String) (r : V → List V → Hp → VK → Prop) : Prop :=
  ∀ (pins : List (Addr × Obj)) (s : Shared) (σ : St) (H : Hp) (x : V) (xs : List V) (v : Value) (us : List Value) (Q : VK), Inv X pins σ H s → RelV x v → Vals xs us → r x xs H Q →
    wpAny (model X.prog X.w) X.A (call (.builtin id) (v :: us)) (EP X pins σ Q) X.xe s
section
variable {X : Cx} {a b : Expr} {ta tb : TE} {pos : Pos}
theorem pe_ix {r : R2} (hr : IxR X r) (ha : PE X a ta) (hb : PE X b tb) (hs : PlainIx b) : PE X (.Subscript a b pos) (tOp r ta tb) := by
  intro pins s σ H Q I h
  exact Subscript_ (binT ha hb I h fun v u s2 x y H2 I2 rx ry q => hr a b pins s2 σ H2 x y v u Q I2 rx ry q (hs _ _))
noncomputable def rIxL (K : PySem.W.Frag) : R2 := fun x y H Q => ∃ p xs i v, x = .ref p ∧ y = .int i ∧ SqL K H p xs ∧ atI xs i = some v ∧ Q v H
noncomputable def rIxT (K : PySem.W.Frag) : R2 := fun x y H Q => ∃ p xs i v, x = .ref p ∧ y = .int i ∧ SqT K H p xs ∧ atI xs i = some v ∧ Q v H
noncomputable def rIxS : R2 := fun x y H Q => ∃ z i c, x = .str z ∧ y = .int i ∧ z.length ≤ sizeLine ∧ atI z.cps.toList i = some c ∧ Q (.str ⟨#[c]⟩) H
theorem ix_list : IxR X (rIxL X.K) := by
  intro value slice pins s σ H x y v u Q I rx ry h hs
  obtain ⟨p, xs, i, z, rfl, rfl, hq, he, q⟩ := h
  cases rx
  obtain ⟨t, rfl⟩ := ry
  obtain ⟨its, r, pl, hz⟩ := I.list hq
  obtain ⟨j, h1, h2, h3, h4, h5⟩ := atI_get he
  obtain ⟨w, ew, rw'⟩ := r.get h2
  have hl := r.length
  have hn := line63
  have fin : EP X pins σ Q w s := ⟨z, H, I, rw', q⟩
  by_cases h0 : 0 ≤ i
  · have hj : i.toNat = j := by
      rw [seqIndex_of h0 h5] at h1
      exact Option.some.inj h1
    exact item_listR pl.isList h0 (by (first | lia | omega)) (by rw [hj]; simpa using ew) fin hs
  · have hj : (i + (its.toArray.size : Int)).toNat = j := by
      rw [seqIndex_neg (by (first | lia | omega)) h4] at h1
      rw [List.size_toArray, ← hl]
      exact Option.some.inj h1
    exact subscriptTail_builtinR (x := w) pl.isList.typeIs slot_list_getitem.lookup
      (wpAny_getItem_list_neg (Q := fun r s' => r = w ∧ EP X pins σ Q r s') pl.isList (by (first | lia | omega)) (by rw [List.size_toArray] <;> (first | lia | omega)) (by (first | lia | omega)) (by rw [hj]; simpa using ew) ⟨rfl, fin⟩) hs
theorem ix_tup : IxR X (rIxT X.K) := by
  intro value slice pins s σ H x y v u Q I rx ry h hs
  obtain ⟨p, xs, i, z, rfl, rfl, hq, he, q⟩ := h
  cases rx
  obtain ⟨t, rfl⟩ := ry
  obtain ⟨its, r, pl, hz⟩ := I.tuple hq
  obtain ⟨j, h1, h2, h3, h4, h5⟩ := atI_get he
  obtain ⟨w, ew, rw'⟩ := r.get h2
  have hl := r.length
  have hn := line63
  have fin : EP X pins σ Q w s := ⟨z, H, I, rw', q⟩
  exact subscriptTail_builtinR (x := w) pl.typeIs slot_tuple_getitem.lookup
    (getItem_tuple (j := j) (Q := fun r s' => r = w ∧ EP X pins σ Q r s') pl (by (first | lia | omega)) (by (first | lia | omega)) (by rw [List.size_toArray, ← hl]; exact h1) (by simpa using ew) ⟨rfl, fin⟩) hs
theorem ix_str : IxR X rIxS := by
  intro value slice pins s σ H x y v u Q I rx ry h hs
  obtain ⟨z, i, c, rfl, rfl, hz, he, q⟩ := h
  obtain ⟨t, rfl⟩ := rx
  obtain ⟨t', rfl⟩ := ry
  obtain ⟨j, h1, h2, h3, h4, h5⟩ := atI_get he
  have hl : z.cps.toList.length = z.length := by simp [Str.length]
  rw [hl] at h1 h4 h5
  have hn := line63
  exact tail_any (typeIs_str s z t) slot_str_getitem.lookup (getItem_str (c := c) (by
    have e1 : decide (i < -(2 ^ 63 : Int)) = false := decide_eq_false (by (first | lia | omega))
    have e2 : decide (i ≥ 2 ^ 63) = false := decide_eq_false (by (first | lia | omega))
    rw [e1, e2, Bool.or_false]) (by rw [h1]; simpa using h2) ⟨.str ⟨#[c]⟩, H, I.tok _, ⟨_, rfl⟩, q⟩) hs
theorem mapSeq_set (its : List Value) (n j : Nat) (u : Value) : Obj.mapSeq (·.setIfInBounds j u) { cls := .type "list", data := .seq its.toArray n } = { cls := .type "list", data := .seq (its.set j u).toArray n } := by
  simp [Obj.mapSeq]
theorem Inv.lst {pins : List (Addr × Obj)} {σ : St} {H : Hp} {s : Shared} {p : Addr} {xs : List V} (I : Inv X pins σ H s) (h : H p = some (.lst xs)) :
    ∃ (its : List Value) (n : Nat), Vals xs its ∧ s.heap.get? p = some { cls := .type "list", data := .seq its.toArray n } ∧ xs.length ≤ sizeLine := by
  obtain ⟨z, its, n, r, e⟩ := I.hok p _ h
  exact ⟨its, n, r, e, z⟩
theorem Inv.lstUpd {pins : List (Addr × Obj)} {σ : St} {H : Hp} {s : Shared} {p : Addr} {xs ys : List V} {its its' : List Value} {n n' : Nat} {f : Obj → Obj} (I : Inv X pins σ H s) (h : H p = some (.lst xs))
    (ho : s.heap.get? p = some { cls := .type "list", data := .seq its.toArray n }) (hf : f { cls := .type "list", data := .seq its.toArray n } = { cls := .type "list", data := .seq its'.toArray n' }) (r : Vals ys its') (hz : ys.length ≤ sizeLine) (t : Nat) :
    Inv X pins σ (upd H p (.lst ys)) { s with heap := s.heap.update p f, toks := t } := by
  have e : (s.heap.update p f).get? p = some { cls := .type "list", data := .seq its'.toArray n' } := by
    rw [Heap.get?_update_self f ho (by rw [hf] <;> rfl), hf]
  refine I.write (x := p) (e := p) (by rw [h]; trivial) (.inl rfl) (fun b u hb q => (Heap.get?_update_other _ _ (Ne.symm hb)).trans q) ⟨_, e⟩ ?_
  exact ⟨hz, its', n', r, e⟩
noncomputable def rSetL : V → V → V → Hp → (Hp → Prop) → Prop := fun o i v H Q => ∃ p xs k j, o = .ref p ∧ i = .int k ∧ H p = some (.lst xs) ∧ ixN xs.length k = some j ∧ Q (upd H p (.lst (xs.set j v)))
theorem set_list : PSet X rSetL := by
  intro pins s σ H o i v ov iv u Q I ro ri rv h
  obtain ⟨p, xs, k, j, rfl, rfl, hp, hj, q⟩ := h
  cases ro
  obtain ⟨t, rfl⟩ := ri
  obtain ⟨its, n, r, ho, hz⟩ := I.lst hp
  obtain ⟨h1, h2, h3, h4⟩ := ixN_seq hj
  have hl := r.length
  have hn := line63
  have I' : Inv X pins σ (upd H p (.lst (xs.set j v))) { s with heap := s.heap.update p (Obj.mapSeq (·.setIfInBounds j u)) } :=
    I.lstUpd hp ho (mapSeq_set its n j u) (r.set rv j) (by rw [List.length_set]; exact hz) s.toks
  by_cases h0 : 0 ≤ k
  · have hk : k.toNat = j := by
      rw [seqIndex_of h0 h4] at h1
      exact Option.some.inj h1
    exact PySem.W.ki_setAt ho h0 (by (first | lia | omega)) (by rw [List.size_toArray, ← hl]; exact h4) (by rw [hk]; exact ⟨_, I', q⟩)
  · have hk : (k + (its.toArray.size : Int)).toNat = j := by
      rw [seqIndex_neg (by (first | lia | omega)) h3] at h1
      rw [List.size_toArray, ← hl]
      exact Option.some.inj h1
    exact PySem.W.ki_setBack ho (by (first | lia | omega)) (by rw [List.size_toArray, ← hl]; exact h3) (by (first | lia | omega)) (by rw [hk]; exact ⟨_, I', q⟩)
theorem slice_bounds (lo hi : Option Int) (n : Nat) : (sliceBounds lo hi none n).1 = ((HT.sIx n 0 lo : Nat) : Int) ∧ (sliceBounds lo hi none n).2.1 = ((HT.sIx n n hi : Nat) : Int) ∧ (sliceBounds lo hi none n).2.2 = 1 := by
  refine ⟨?_, ?_, rfl⟩
  · cases lo with
    | none => simp [sliceBounds, HT.sIx]
    | some i =>
      simp only [sliceBounds, HT.sIx, Option.getD_none, show (1 : Int) > 0 by decide, if_true]
      by_cases h : i < 0
      · simp only [h, if_true] <;> (first | lia | omega)
      · simp only [h, if_false] <;> (first | lia | omega)
  · cases hi with
    | none => simp [sliceBounds, HT.sIx]
    | some i =>
      simp only [sliceBounds, HT.sIx, Option.getD_none, show (1 : Int) > 0 by decide, if_true]
      by_cases h : i < 0
      · simp only [h, if_true] <;> (first | lia | omega)
      · simp only [h, if_false] <;> (first | lia | omega)
theorem slicePick_cut (its : List Value) (lo hi : Option Int) : slicePick its.toArray lo hi none = ((its.drop (HT.sIx its.length 0 lo)).take (HT.sIx its.length its.length hi - HT.sIx its.length 0 lo)).toArray := by
  obtain ⟨h1, h2, h3⟩ := slice_bounds lo hi its.toArray.size
  unfold slicePick
  rw [h1, h2, h3]
  simp only [sliceRange_one, pick_run, List.size_toArray] <;> rfl
noncomputable def rSlL (K : PySem.W.Frag) : V → Option Int → Option Int → Hp → VK → Prop := fun x lo hi H Q => ∃ a xs, x = .ref a ∧ SqL K H a xs ∧ ∀ p, H p = none → Q (.ref p) (upd H p (.lst (cutV xs lo hi)))
theorem sl_list : SlR X (rSlL X.K) := by
  intro pins s σ H x v vl vu lo hi sl Q I rx hs pl pu h
  obtain ⟨a, xs, rfl, hx, q⟩ := h
  cases rx
  obtain ⟨its, r, ht, hz⟩ := I.list hx
  have hlen := r.length
  refine ⟨"list", _, slot_list_getitem.lookup, ht.isList.typeIs, ?_⟩
  refine wpAny_getItem_list_slice ht.isList hs pl pu .none (by simp) ?_ (by rw [List.size_toArray] <;> (first | lia | omega))
  rw [slicePick_cut, ← hlen]
  refine ⟨.ref s.heap.objs.size, _, I.laid (t' := s.toks) (o := .lst (cutV xs lo hi)) (fun b ob q => Heap.get?_push_of_some _ q) (Nat.le_refl _) ?_, rfl, q _ (I.hok.fresh (Nat.le_refl _))⟩
  exact ⟨Nat.le_trans (cutV_length xs lo hi) hz, _, 0, (r.drop (HT.sIx xs.length 0 lo)).take (HT.sIx xs.length xs.length hi - HT.sIx xs.length 0 lo), Heap.get?_push_size _ rfl⟩
noncomputable def flatV : V → Bool
  | .non => true
  | .bl _ => true
  | .int _ => true
  | .str _ => true
  | _ => false
noncomputable def eqV : V → V → Bool
  | .non, .non => true
  | .bl a, .bl b => a == b
  | .bl a, .int b => (if a then 1 else 0) == b
  | .int a, .bl b => a == (if b then 1 else 0)
  | .int a, .int b => a == b
  | .str a, .str b => a == b
  | _, _ => false
theorem eqAt_V {A : Around} {s : Shared} {y x : V} {u v : Value} (ry : RelV y u) (rx : RelV x v) (fy : flatV y = true) (fx : flatV x = true) : SeqAt.EqAt A s u v (eqV y x) := by
  cases y with
  | non =>
    cases ry
    cases x with
    | non => cases rx; exact SeqAt.EqAt.same _
    | bl b => cases rx; exact SeqAt.EqAt.none_bool b
    | int b => obtain ⟨t, rfl⟩ := rx; exact SeqAt.EqAt.none_int b t
    | str b => obtain ⟨t, rfl⟩ := rx; exact SeqAt.EqAt.none_str b t
    | _ => exact absurd (show false = true from fx) Bool.false_ne_true
  | bl a =>
    cases ry
    cases x with
    | non => cases rx; exact SeqAt.EqAt.bool_none a
    | bl b => cases rx; exact SeqAt.EqAt.bool_bool a b
    | int b => obtain ⟨t, rfl⟩ := rx; exact SeqAt.EqAt.bool_int a b t
    | str b => obtain ⟨t, rfl⟩ := rx; exact SeqAt.EqAt.bool_str a b t
    | _ => exact absurd (show false = true from fx) Bool.false_ne_true
  | int a =>
    obtain ⟨t', rfl⟩ := ry
    cases x with
    | non => cases rx; exact SeqAt.EqAt.int_none a t'
    | bl b => cases rx; exact SeqAt.EqAt.int_bool a t' b
    | int b => obtain ⟨t, rfl⟩ := rx; exact SeqAt.EqAt.int_int a t' b t
    | str b => obtain ⟨t, rfl⟩ := rx; exact SeqAt.EqAt.int_str a t' b t
    | _ => exact absurd (show false = true from fx) Bool.false_ne_true
  | str a =>
    obtain ⟨t', rfl⟩ := ry
    cases x with
    | non => cases rx; exact SeqAt.EqAt.str_none a t'
    | bl b => cases rx; exact SeqAt.EqAt.str_bool a t' b
    | int b => obtain ⟨t, rfl⟩ := rx; exact SeqAt.EqAt.str_int a t' b t
    | str b => obtain ⟨t, rfl⟩ := rx; exact SeqAt.EqAt.str_str a t' b t
    | _ => exact absurd (show false = true from fx) Bool.false_ne_true
  | _ => exact absurd (show false = true from fy) Bool.false_ne_true
noncomputable def eqU (x : V) (u : Value) : Bool := match u with
  | .none => eqV .non x
  | .bool b => eqV (.bl b) x
  | .int i _ => eqV (.int i) x
  | .str z _ => eqV (.str z) x
  | _ => false
theorem eqU_of {x y : V} {u : Value} (r : RelV y u) (f : flatV y = true) : eqU x u = eqV y x := by
  cases y with
  | non => cases r; rfl
  | bl b => cases r; rfl
  | int i => obtain ⟨t, rfl⟩ := r; rfl
  | str z => obtain ⟨t, rfl⟩ := r; rfl
  | _ => exact absurd (show false = true from f) Bool.false_ne_true
theorem any_eqU {x : V} {xs : List V} {us : List Value} (h : Vals xs us) (f : xs.all flatV = true) : us.any (eqU x) = xs.any fun y => eqV y x := by
  induction h with
  | nil => rfl
  | cons r t ih =>
    rw [List.all_cons, Bool.and_eq_true] at f
    rw [List.any_cons, List.any_cons, eqU_of r f.1, ih f.2]
theorem mem_eqAt {A : Around} {s : Shared} {x : V} {v : Value} (rx : RelV x v) (fx : flatV x = true) : ∀ {xs : List V} {us : List Value}, Vals xs us → xs.all flatV = true → ∀ u ∈ us, SeqAt.EqAt A s u v (eqU x u)
  | _, _, .nil, _ => fun u hu => by cases hu
  | y :: xs, u :: us, .cons r t, f => fun u' hu => by
    rw [List.all_cons, Bool.and_eq_true] at f
    rcases List.mem_cons.mp hu with rfl | hu
    · rw [eqU_of r f.1]; exact eqAt_V r rx f.1 fx
    · exact mem_eqAt rx fx t f.2 u' hu
noncomputable def inV (x : V) (xs : List V) : Bool := xs.any fun y => eqV y x
noncomputable def rIn (K : PySem.W.Frag) (neg : Bool) : R2 := fun x y H Q => ∃ p xs, y = .ref p ∧ (SqL K H p xs ∨ SqT K H p xs) ∧ flatV x = true ∧ xs.all flatV = true ∧ Q (.bl (if neg then !inV x xs else inV x xs)) H
theorem op_in_seq : OpR X (compareOp .In) (rIn X.K false) := by
  intro pins s σ H x y v u Q I rx ry h
  obtain ⟨p, xs, rfl, hq, fx, fs, q⟩ := h
  cases ry
  rcases hq with hq | hq
  · obtain ⟨its, r, pl, hz⟩ := I.list hq
    refine SeqAt.in_listAt (eqU x) pl.isList (fun w hw => mem_eqAt rx fx r fs w (by simpa using hw)) ⟨.bl _, H, I, rfl, ?_⟩
    rw [show its.toArray.any (eqU x) = its.any (eqU x) by simp, any_eqU r fs]
    exact q
  · obtain ⟨its, r, pl, hz⟩ := I.tuple hq
    refine SeqAt.in_tupleAt (eqU x) pl (fun w hw => mem_eqAt rx fx r fs w (by simpa using hw)) ⟨.bl _, H, I, rfl, ?_⟩
    rw [show its.toArray.any (eqU x) = its.any (eqU x) by simp, any_eqU r fs]
    exact q
theorem op_notIn_seq : OpR X (compareOp .NotIn) (rIn X.K true) := by
  intro pins s σ H x y v u Q I rx ry h
  obtain ⟨p, xs, rfl, hq, fx, fs, q⟩ := h
  cases ry
  rcases hq with hq | hq
  · obtain ⟨its, r, pl, hz⟩ := I.list hq
    refine SeqAt.notIn_listAt (eqU x) pl.isList (fun w hw => mem_eqAt rx fx r fs w (by simpa using hw)) ⟨.bl _, H, I, rfl, ?_⟩
    rw [show its.toArray.any (eqU x) = its.any (eqU x) by simp, any_eqU r fs]
    exact q
  · obtain ⟨its, r, pl, hz⟩ := I.tuple hq
    refine SeqAt.notIn_tupleAt (eqU x) pl (fun w hw => mem_eqAt rx fx r fs w (by simpa using hw)) ⟨.bl _, H, I, rfl, ?_⟩
    rw [show its.toArray.any (eqU x) = its.any (eqU x) by simp, any_eqU r fs]
    exact q
theorem call_len_seq : CallR X (.builtin "len") (fun xs H Q => ∃ p ys, xs = [.ref p] ∧ (SqL X.K H p ys ∨ SqT X.K H p ys) ∧ Q (.int ys.length) H) := by
  intro pins s σ H xs us Q I r h
  obtain ⟨p, ys, rfl, hq, q⟩ := h
  obtain ⟨u, rfl, rx⟩ := vals1 r
  cases rx
  have hn := line63
  rcases hq with hq | hq
  · obtain ⟨its, r', pl, hz⟩ := I.list hq
    have hlen := r'.length
    exact Calls.call_len_list pl.isList (by simp only [List.size_toArray] <;> (first | lia | omega)) ⟨.int ys.length, H, I.tok _, ⟨s.toks + 1, by rw [List.size_toArray, hlen]⟩, q⟩
  · obtain ⟨its, r', pl, hz⟩ := I.tuple hq
    have hlen := r'.length
    exact len_tuple pl (by simp only [List.size_toArray] <;> (first | lia | omega)) ⟨.int ys.length, H, I.tok _, ⟨s.toks + 1, by rw [List.size_toArray, hlen]⟩, q⟩
theorem call_len_str : CallR X (.builtin "len") (fun xs H Q => ∃ z, xs = [.str z] ∧ z.length ≤ sizeLine ∧ Q (.int z.length) H) := by
  intro pins s σ H xs us Q I r h
  obtain ⟨z, rfl, hz, q⟩ := h
  obtain ⟨u, rfl, t, rfl⟩ := vals1 r
  have hn := line63
  exact len_str (by (first | lia | omega)) ⟨.int z.length, H, I.tok _, ⟨_, rfl⟩, q⟩
theorem call_list_of : CallR X (.type "list") (fun xs H Q => ∃ p ys, xs = [.ref p] ∧ (SqL X.K H p ys ∨ SqT X.K H p ys) ∧ ∀ l, H l = none → Q (.ref l) (upd H l (.lst ys))) := by
  intro pins s σ H xs us Q I r h
  obtain ⟨p, ys, rfl, hq, q⟩ := h
  obtain ⟨u, rfl, rx⟩ := vals1 r
  cases rx
  have fin : ∀ (its : List Value), Vals ys its → ys.length ≤ sizeLine → ∀ (h' : Heap) (c' : Nat), (∀ b o', s.heap.get? b = some o' → h'.get? b = some o') →
      h'.get? s.heap.objs.size = some { cls := .type "list", dict := none, data := .seq its.toArray c', slots := #[] } → EP X pins σ Q (.ref s.heap.objs.size) { s with heap := h' } := fun its r' hz h' c' kp e =>
    ⟨.ref s.heap.objs.size, _, I.laid (t' := s.toks) kp (Nat.le_refl _) (show ObjOk X.prog X.w _ h' _ (.lst ys) from ⟨hz, its, c', r', e⟩), rfl, q _ (I.hok.fresh (Nat.le_refl _))⟩
  rcases hq with hq | hq
  · obtain ⟨its, r', pl, hz⟩ := I.list hq
    have hlen := r'.length
    obtain ⟨o, ho, hc, n, hd⟩ := pl.isList
    exact call_list_seq p (.inl rfl) ho hc hd (fun h' c' kp e => fin its r' hz h' c' kp e) (by simp only [List.size_toArray] <;> (first | lia | omega))
  · obtain ⟨its, r', pl, hz⟩ := I.tuple hq
    have hlen := r'.length
    obtain ⟨o, ho, hc, n, hd⟩ := pl
    exact call_list_seq p (.inr rfl) ho hc hd (fun h' c' kp e => fin its r' hz h' c' kp e) (by simp only [List.size_toArray] <;> (first | lia | omega))
theorem call_tuple_of : CallR X (.type "tuple") (fun xs H Q => ∃ p ys, xs = [.ref p] ∧ ((SqL X.K H p ys ∧ ∀ l, H l = none → Q (.ref l) (upd H l (.tup ys))) ∨ (SqT X.K H p ys ∧ Q (.ref p) H))) := by
  intro pins s σ H xs us Q I r h
  obtain ⟨p, ys, rfl, h⟩ := h
  obtain ⟨u, rfl, rx⟩ := vals1 r
  cases rx
  rcases h with ⟨hq, q⟩ | ⟨hq, q⟩
  · obtain ⟨its, r', pl, hz⟩ := I.list hq
    have hlen := r'.length
    refine call_tuple_list pl.isList (fun h' kp => ?_) (by simp only [List.size_toArray] <;> (first | lia | omega))
    have I1 : Inv X pins σ H { s with heap := h' } := I.kept (t' := s.toks) kp
    have I2 : Inv X pins σ (upd H h'.objs.size (.tup ys)) { s with heap := h'.push { cls := .type "tuple", data := .seq its.toArray } } :=
      I1.laid (t' := s.toks) (fun b o e => Heap.get?_push_of_some _ e) (Nat.le_refl _) (show ObjOk X.prog X.w _ _ _ (.tup ys) from ⟨hz, its, r', IsTup.new _ _⟩)
    exact ⟨.ref h'.objs.size, _, I2, rfl, q _ (I1.hok.fresh (Nat.le_refl _))⟩
  · obtain ⟨its, r', pl, hz⟩ := I.tuple hq
    exact call_tuple_same pl ⟨.ref p, H, I, rfl, q⟩
noncomputable def tyV (K : PySem.W.Frag) (T : String) (x : V) (H : Hp) : Prop := match x with
  | .str _ => T = "str"
  | .int _ => T = "int"
  | .ref p => (T = "list" ∧ ∃ xs, SqL K H p xs) ∨ (T = "tuple" ∧ ∃ o, K.lookup p = some o ∧ o.cls = .type "tuple" ∧ o.dict = none) ∨
      (T = "dict" ∧ ((∃ kvs, H p = some (.dK kvs)) ∨ ∃ kvs, H p = some (.dT kvs))) ∨ (T = "set" ∧ ∃ S n, H p = some (.set S n))
  | _ => False
theorem tyV_is {pins : List (Addr × Obj)} {σ : St} {H : Hp} {s : Shared} {T : String} {x : V} {v : Value} (I : Inv X pins σ H s) (r : RelV x v) (ty : tyV X.K T x H) :
    s.TypeIs v T ∧ ∀ a, v = .ref a → ∃ ob, s.heap.get? a = some ob ∧ ob.dict = none := by
  cases x with
  | str z =>
    obtain ⟨t, rfl⟩ := r
    cases (show T = "str" from ty)
    exact ⟨typeIs_str s z t, fun _ e => nomatch e⟩
  | int i =>
    obtain ⟨t, rfl⟩ := r
    cases (show T = "int" from ty)
    exact ⟨typeIs_int s i t, fun _ e => nomatch e⟩
  | ref p =>
    cases r
    rcases ty with ⟨rfl, xs, hq⟩ | ⟨rfl, o, hk, hc, hd⟩ | ⟨rfl, hk⟩ | ⟨rfl, S, n, hk⟩
    · obtain ⟨its, _, pl, _⟩ := I.list hq
      refine ⟨pl.isList.typeIs, fun a e => ?_⟩
      cases e
      obtain ⟨o, n, e, c, hd, _⟩ := pl
      exact ⟨o, e, hd⟩
    · refine ⟨⟨o, I.kIn p o hk, hc⟩, fun a e => ?_⟩
      cases e
      exact ⟨o, I.kIn _ o hk, hd⟩
    · have z : ∃ o, s.heap.get? p = some o ∧ o.ExactDict := by
        rcases hk with ⟨kvs, hk⟩ | ⟨kvs, hk⟩
        · obtain ⟨_, _, _, _, o, _, _, e, ex, _⟩ := I.hok p _ hk
          exact ⟨o, e, ex⟩
        · obtain ⟨_, _, _, _, o, _, _, e, ex, _⟩ := I.hok p _ hk
          exact ⟨o, e, ex⟩
      obtain ⟨o, e, ex⟩ := z
      refine ⟨⟨o, e, ex.1⟩, fun a e2 => ?_⟩
      cases e2
      exact ⟨o, e, ex.2.1⟩
    · obtain ⟨o, _, _, _, e, ex, _⟩ := I.hok p _ hk
      refine ⟨⟨o, e, ex.1⟩, fun a e2 => ?_⟩
      cases e2
      exact ⟨o, e, ex.2.1⟩
  | _ => exact False.elim ty
noncomputable def tBM (K : PySem.W.Frag) (T : String) (r : V → List V → Hp → VK → Prop) (to : TE) (t : TA) : TE := fun σ H Q => to σ H fun x H1 => tyV K T x H1 ∧ t σ H1 fun xs H2 => r x xs H2 Q
variable {o e : Expr} {es : List Expr} {to : TE} {t : TA} {name : Str} {apos cpos : Pos} {T id : String} {r : V → List V → Hp → VK → Prop}
theorem pe_bm (pa : PlainAttrs T) (slot : Slot T name id) (hty : typeOf (.builtin id) = pure (.type "method_descriptor")) (hm : MtR X id r) (ho : PE X o to) (ha : PA X (e :: es) t)
    (hbase : attributeBase o name X.env (eval o X.env) = eval o X.env := by rfl)
    (hfew : ((backTo cpos (starEach (e :: es) X.env)).all (fun x => !x.1) && (backToKw cpos (keywordEach [] X.env)).all (fun x => x.1.isSome)
      && decide ((e :: es).length + ([] : List Keyword).length + (if ([] : List Keyword).isEmpty then 0 else 1) < 30)) = true := by rfl)
    (hline : (apos.endLine == cpos.line) = true := by rfl) (hs : starEach (e :: es) X.env = (false, eval e X.env) :: starEach es X.env := by rfl) (hplain : (backTo cpos (starEach es X.env)).any (·.1) = false := by rfl) :
    PE X (.Call (.Attribute o name apos) (e :: es) [] cpos) (tBM X.K T r to t) := by
  intro pins s σ H Q I h
  refine wpAny_Call_method_late hbase hfew hline rfl (thn (ho pins s σ H _ I h) fun v s1 zz0 => ?_)
  obtain ⟨x, H1, I1, r1, ty, q1⟩ := zz0
  obtain ⟨h1, h2⟩ := tyV_is I1 r1 ty
  refine ⟨T, id, pa, slot, hty, h1, h2, ?_⟩
  have hA := ha cpos pins s1 σ H1 _ I1 q1
  rw [hs] at hA ⊢
  refine Calls.callWith_builtin (by show (false || (backTo cpos (starEach es X.env)).any (·.1)) = false; rw [hplain] <;> rfl) (Calls.evalArgs_plain ?_)
  refine thn hA fun us s2 zz0 => ?_
  obtain ⟨vs, H2, I2, r2, q2⟩ := zz0
  exact hm pins s2 σ H2 x vs v us Q I2 r1 r2 q2
end
end L2
namespace L2
open PySem PySem.Spec PyProof.Rows
noncomputable def MtM (X : Cx) (id : String) (r : V → List V → Hp → VK → Prop) : Prop :=
  ∀ (pins : List (Addr × Obj)) (s : Shared) (σ : St) (H : Hp) (x : V) (xs : List V) (v : Value) (us : List Value) (Q : VK), Inv X pins σ H s → RelV x v → Vals xs us → r x xs H Q →
    wpAny (model X.prog X.w) X.A (call (.builtin id) (v :: us)) (EP X pins σ Q) X.xe s
theorem Vals.one {x : V} {us : List Value} (h : Vals [x] us) : ∃ u, us = [u] ∧ RelV x u := by
  cases h with
  | cons r t => cases t; exact ⟨_, rfl, r⟩
section
variable {X : Cx} {pins : List (Addr × Obj)} {σ : St} {H : Hp} {s : Shared} {l b : Addr} {xs ys zs : List V}
theorem Inv.lset {its its' : List Value} {n : Nat} {f : Array Value → Array Value} {t' : Nat} (I : Inv X pins σ H s) (hH : H l = some (.lst xs))
    (e : s.heap.get? l = some { cls := .type "list", data := .seq its.toArray n }) (hf : f its.toArray = its'.toArray) (hv : Vals ys its') (hz : ys.length ≤ sizeLine) :
    Inv X pins σ (upd H l (.lst ys)) { s with heap := s.heap.update l (Obj.mapSeq f), toks := t' } := by
  have q := PySem.IsL.update e f
  rw [hf] at q
  refine I.write (x := l) (e := l) (by rw [hH]; exact trivial) (.inl rfl) (fun b' u hb hu => (Heap.get?_update_other s.heap (Obj.mapSeq f) (Ne.symm hb)).trans hu) ⟨_, q⟩ ?_
  exact ⟨hz, its', _, hv, q⟩
theorem Inv.lnew {its : List Value} {t' : Nat} (I : Inv X pins σ H s) (hv : Vals ys its) (hz : ys.length ≤ sizeLine) :
    Inv X pins σ (upd H s.heap.objs.size (.lst ys)) { s with heap := s.heap.push { cls := .type "list", data := .seq its.toArray }, toks := t' } :=
  I.laid (fun _ _ q => Heap.get?_push_of_some _ q) (Nat.le_refl _) ⟨hz, its, 0, hv, Heap.get?_push_size _ rfl⟩
theorem Inv.fresh (I : Inv X pins σ H s) : H s.heap.objs.size = none := I.hok.fresh (Nat.le_refl _)
theorem Inv.lstM (I : Inv X pins σ H s) (hH : H l = some (.lst xs)) : xs.length ≤ sizeLine ∧ ∃ (its : List Value) (n : Nat), Vals xs its ∧ xs.length = its.length ∧ s.heap.get? l = some { cls := .type "list", data := .seq its.toArray n } := by
  obtain ⟨z, its, n, r, e⟩ := I.hok l _ hH
  exact ⟨z, its, n, r, r.length, e⟩
theorem notLongL {n : Nat} (h : n ≤ sizeLine) : Builtin.List.listTooLong n = false := by
  unfold Builtin.List.listTooLong
  exact decide_eq_false (by (first | lia | omega))
end
section
variable {X : Cx}
noncomputable def rAppend : V → List V → Hp → VK → Prop := fun x vs H Q => ∃ l xs y, x = .ref l ∧ vs = [y] ∧ H l = some (.lst xs) ∧ xs.length < sizeLine ∧ Q .non (upd H l (.lst (xs ++ [y])))
theorem mt_append : MtM X "list.append" rAppend := by
  intro pins s σ H x vs v us Q I rx rv h
  obtain ⟨l, xs, y, rfl, rfl, hH, hz, q⟩ := h
  cases rx
  obtain ⟨u, rfl, ru⟩ := rv.one
  obtain ⟨z, its, n, r, hl, e⟩ := I.lstM hH
  refine call_meets F.slot_list_append ⟨_, e, rfl⟩ F.entry_list_append (F.args_list_append_2 _ _) (PySem.list_append l its.toArray n u (by rw [List.size_toArray]; (first | lia | omega))) ⟨e, ?_⟩
  refine ⟨.non, _, I.lset (its' := its ++ [u]) hH e (by simp) (r.append (.cons ru .nil)) ?_, rfl, q⟩
  rw [List.length_append, List.length_singleton]
  (first | lia | omega)
noncomputable def rExtend : V → List V → Hp → VK → Prop := fun x vs H Q => ∃ l b xs zs, x = .ref l ∧ vs = [.ref b] ∧ H l = some (.lst xs) ∧ H b = some (.lst zs) ∧ xs.length + zs.length ≤ sizeLine ∧ Q .non (upd H l (.lst (xs ++ zs)))
theorem mt_extend : MtM X "list.extend" rExtend := by
  intro pins s σ H x vs v us Q I rx rv h
  obtain ⟨l, b, xs, zs, rfl, rfl, hH, hB, hz, q⟩ := h
  cases rx
  obtain ⟨u, rfl, ru⟩ := rv.one
  cases ru
  obtain ⟨z, its, n, r, hl, e⟩ := I.lstM hH
  obtain ⟨z2, its2, n2, r2, hl2, e2⟩ := I.lstM hB
  have hsz : its.toArray.size + its2.toArray.size ≤ sizeLine := by rw [List.size_toArray, List.size_toArray]; (first | lia | omega)
  have hlong : ¬ (!its.toArray.isEmpty && Builtin.List.listTooLong (its.toArray.size + its2.toArray.size)) = true := by
    rw [notLongL hsz, Bool.and_false]
    exact Bool.false_ne_true
  refine call_meets F.slot_list_extend ⟨_, e, rfl⟩ F.entry_list_extend (F.args_list_extend_2 _ _)
    (AutoSeq1.list_extend_list_list_0 l its.toArray n b its2.toArray n2 hlong (by rw [List.size_toArray]; (first | lia | omega)) (by (first | lia | omega))) ⟨e, e2, ?_⟩
  refine ⟨.non, _, I.lset (its' := its ++ its2) hH e (by simp) (r.append r2) ?_, rfl, q⟩
  rw [List.length_append]
  (first | lia | omega)
end
section
variable {prog : Program} {w : World} {A : Around} {E : Value → Shared → Prop} {s : Shared}
end
section
variable {X : Cx}
end
end L2
namespace Att
open PySem PySem.W PySem.Calls PyProof.Rows
theorem ints_of_wellAll {P : Params} {h : Heap} : ∀ (ns : List Int) (vs : List Value), WellAll P h vs (ns.map WData.int) → IntsAre vs ns := by
  intro ns
  induction ns with
  | nil =>
    intro vs w
    rw [List.map_nil] at w
    cases w
    exact .nil
  | cons n ns ih =>
    intro vs w
    rw [List.map_cons] at w
    cases w with
    | cons a b =>
      cases a
      exact .cons _ _ (ih _ b)
theorem script_of {l : OpenLaw} {n : Nat} (hn : l.most = some n) {P : Params} {h : Heap} {args : List WData} {vals : List Value}
    (hpre : l.row.toRowW.claim.pre args = true) (hwl : WellAll P h vals args) :
    ∃ a vs ns, vals = [Value.ref a] ∧ args = [WData.list (ns.map WData.int)] ∧ h.get? a = some { cls := .type "list", data := .seq vs.toArray } ∧ IntsAre vs ns ∧ ns.length ≤ n := by
  have hsh : WShape.hasAll [] args [.list .int] = true := (pre_splitW hpre).1
  have hc : l.pre.holds [] { args := args } = true := (pre_splitW hpre).2
  obtain ⟨d, r, rfl, h1, h2⟩ := hasAllW_cons hsh
  obtain rfl := hasAllW_nil h2
  obtain ⟨xs, rfl, h3⟩ := hasW_list h1
  obtain ⟨ns, rfl⟩ := items_int h3
  have hlen : ns.length ≤ n := by
    unfold OpenLaw.pre at hc
    have h4 : (WTm.not (.lt (.lit (.int (n : Int))) (.len (.arg 0)))).holds [] { args := [.list (ns.map .int)] } = true := by
      have h4 := (holds_andW hc).1
      rw [hn] at h4
      exact h4
    have h5 := condW_of h4 (w_not (w_lt w_lit (w_len_list (w_arg rfl))))
    rw [List.length_map] at h5
    refine Nat.le_of_not_lt fun q => ?_
    have q' : (n : Int) < ((ns.length : Nat) : Int) := by (first | lia | omega)
    first
      | (rw [decide_eq_true q'] at h5; exact absurd h5 (by decide))
      | (simp at h5; (first | lia | omega))
  cases hwl with
  | cons w1 w2 =>
    cases w2
    cases w1 with
    | list ho hall => exact ⟨_, _, ns, rfl, rfl, ho, ints_of_wellAll ns _ hall, hlen⟩
theorem post_true (l : OpenLaw) (args : List WData) : l.row.toRowW.claim.post args (.bool true) args = true :=
  postW_of (r := l.row.toRowW) (X := (true == true))
    (show WShape.has [] (.bool true) .bool = true by first | rfl | decide | simp [WShape.has, WShape.arms, WShape.armsAll])
    (show (WTm.eq .res (.lit (.bool true))).value [] { args := args, res := some (.bool true), after := args } = some (.bool (true == true)) from w_eq_bool (w_res rfl) w_lit) rfl
theorem attach_call {l : OpenLaw} {n : Nat} {q : Program} {loose : List Str} {XP : (Str → Option Value) → Heap → Prop} {YP : World → Heap → Prop} {d : DefRec}
    (hn : l.most = some n) (hdf : d.params.defaults = [])
    (call : ∀ (w : World) (s₀ s₁ : Shared) (mg mb : Str → Option Value) (fa : Addr) (o : Obj) (pm cd doc : Value) (a : Addr) (vs : List Value) (ns : List Int),
      Ground q loose [] XP w s₀ mg mb s₁.heap → YP w s₁.heap →
      s₁.heap.get? fa = some o → o.data = .func (docDef d.name d.params d.body d.scope pm cd doc) → s₁.heap.CodeRec cd d.name → mg d.name = some (.ref fa) →
      s₁.heap.get? a = some { cls := .type "list", data := .seq vs.toArray } → IntsAre vs ns → ns.length ≤ n → s₁.gens = #[] →
      codeAny (model l.prog w) callerA (.call (.ref fa) ⟨[.ref a], []⟩) (fun r s' => r = .ok (.ret (.bool true)) ∧ OldK s₁.heap s'.heap ∧ s'.os = s₁.os ∧ AllBare s'.gens) s₁) :
    WalkO q loose XP YP l.row.toRowW d [] (fun f vs => PySem.call f vs) := by
  intro w s₀ s₁ mg mb G Y fa o pm cd doc dV kV ho hd hcd hD hmg hg args vals as hpre hlay hrd hwl hlo
  obtain rfl : dV = .none := Dflts.none hD hdf
  obtain rfl : kV = .none := Dflts.noKw hD
  obtain ⟨a, vs, ns, rfl, rfl, hobj, hints, hlen⟩ := script_of hn hpre hwl
  refine enter_call (codeAny_mono (call w s₀ s₁ mg mb fa o pm cd doc a vs ns G Y ho (fd_plain hd) hcd hmg hobj hints hlen hg) fun r s' hq => ?_)
  obtain ⟨rfl, h2, h3, h4⟩ := hq
  exact ⟨.inl ⟨.bool true, .bool true, [], rfl, fun _ => rfl, .bool true, post_true l _, fun _ => ⟨List.Pairwise.nil, fun _ hm => (nomatch hm)⟩⟩, h2, h3, h4⟩
section
variable {prog : Program} {w : World} {A : Around} {E : Value → Shared → Prop} {s : Shared} {K : Frag}
noncomputable def ledger (h : Heap) (L d : Addr) : List (Addr × Obj) := (List.range h.objs.size).filterMap fun a => if a = L ∨ a = d then none else (h.get? a).map fun o => (a, o)
end
end Att
namespace L2
open PySem PySem.Spec PyProof.Rows
theorem vals_ints {vs : List Value} {ns : List Int} (h : IntsAre vs ns) : Vals (ns.map V.int) vs := by
  induction h with
  | nil => exact .nil
  | cons n t h ih => exact .cons ⟨t, rfl⟩ ih
noncomputable def Only (H : Hp) : Prop := ∀ b, H b = none ∨ ∃ o xs, H b = some (.frz o (.lst xs))
theorem law_call {P : Program} {w : World} {K : PySem.W.Frag} {mg mb : Str → Option Value} {CX : CXT} {k : Nat} {fa a : Addr} {fd : FuncData} {x : Str} {sp : Sp} {s₁ : Shared} {vs : List Value} {ns : List Int}
    (KX : K.In s₁.heap) (hns : s₁.heap.Ns mainGlobals mg) (hb : s₁.heap.Ns builtinsNs mb) (hbb : ∀ x : Str, x ≠ "__name__" → mb x = bootBuiltins x) (hlim : s₁.heap.NoLimit) (hg : s₁.gens = #[])
    (ha : s₁.heap.get? a = some { cls := .type "list", data := .seq vs.toArray }) (hi : IntsAre vs ns) (hl : ns.length ≤ sizeLine) (hr : Room k callerA)
    (F : ∀ base : Heap, K.In base → base.Ns mainGlobals mg → FnOk P w K mg base CX k fa fd [x] sp) (hbind : ∀ (s : Shared) (u : Value), BindsTo s fd ⟨[u], []⟩ [(x, u)])
    (hsp : ∀ H : Hp, Only H → SqL K H a (ns.map V.int) → sp [.ref a] H (fun v _ => v = .bl true) fun _ _ _ => False)
    (hCX : ∀ H e s', CX [] H s₁ (fun _ _ _ => False) e s' → False) :
    codeAny (model P w) callerA (.call (.ref fa) ⟨[.ref a], []⟩) (fun r s' => r = .ok (.ret (.bool true)) ∧ OldK s₁.heap s'.heap ∧ s'.os = s₁.os ∧ AllBare s'.gens) s₁ := by
  have rv := vals_ints hi
  have lenV := hi.length
  have core : ∀ H : Hp, Only H → SqL K H a (ns.map V.int) → HOk P w H s₁.heap → (∀ b, H b ≠ none → b = a) → (H a ≠ none → K.lookup a = none) →
      codeAny (model P w) callerA (.call (.ref fa) ⟨[.ref a], []⟩) (fun r s' => r = .ok (.ret (.bool true)) ∧ OldK s₁.heap s'.heap ∧ s'.os = s₁.os ∧ AllBare s'.gens) s₁ := by
    intro H hO hS hok hA hK
    have base_of : ∀ {b : Addr} {o : Obj}, s₁.heap.get? b = some o → H b = none → (hidT s₁.heap H).get? b = some o := fun e n => hidT_get e n
    have noA : ∀ {b : Addr} {o : Obj} {es : Array DictEntry} {ep : Nat}, s₁.heap.get? b = some o → o.data = .dict es ep → H b = none := fun {b o es ep} e d => by
      cases q : H b with
      | none => rfl
      | some u =>
        have e' : b = a := hA b (by rw [q]; simp)
        subst e'
        rw [ha] at e; cases e
        have d' : Data.seq vs.toArray _ = Data.dict es ep := d
        cases d'
    have nsK : ∀ {b : Addr} {m : Str → Option Value}, s₁.heap.Ns b m → (hidT s₁.heap H).Ns b m := fun {b m} ⟨o, es, ep, e, d, r⟩ => ⟨o, es, ep, base_of e (noA e d), d, r⟩
    have hKb : K.In (hidT s₁.heap H) := fun b o e => base_of (KX b o e) (by
      cases q : H b with
      | none => rfl
      | some u =>
        have e' : b = a := hA b (by rw [q]; simp)
        subst e'
        rw [hK (by rw [q]; simp)] at e; cases e)
    have hM : Mod K mg (hidT s₁.heap H) := ⟨hKb, nsK hns, ⟨mb, nsK hb, hbb⟩, let ⟨mc, h1, h2⟩ := hlim; ⟨mc, nsK h1, h2⟩⟩
    have e0 : Env0 P w K mg (hidT s₁.heap H) callerA [] s₁ H := ⟨rfl, hM, fun b o e => of_hidT e, Nat.le_of_eq (hidT_size _ _), trivial, fun b hb => absurd (show b ∈ ([] : List Addr) from hb) (by simp), hok, .of_eq hg⟩
    refine codeAny_mono ((F _ hKb (nsK hns)).run callerA [] s₁ H ⟨[.ref a], []⟩ [.ref a] [.ref a] _ _ hr e0 (hbind s₁ (.ref a)) (.cons rfl .nil) (hsp H hO hS)) fun r s' h => ?_
    cases r with
    | error e => exact (hCX H e s' h).elim
    | ok fl =>
      cases fl with
      | next => exact False.elim h
      | brk => exact False.elim h
      | cont => exact False.elim h
      | ret u =>
        obtain ⟨v, H', os, bare, un, hok', r', q⟩ := h
        have q' : v = .bl true := q
        subst q'
        obtain rfl : u = Value.bool true := r'
        refine ⟨rfl, OldK.of_keep fun b o e => ?_, os, bare⟩
        cases q : H b with
        | none => exact un.keep b o e q (by intro z; exact absurd (show b ∈ ([] : List Addr) from z) (by simp)) (by simp)
        | some u =>
          rcases hO b with z | ⟨ob, xs, z⟩
          · rw [q] at z; cases z
          · have z2 := un.frzs b ob _ z
            obtain ⟨e1, _⟩ := hok b _ z
            obtain ⟨e2, _⟩ := hok' b _ z2
            rw [e] at e1; cases e1
            exact e2
  cases hk : K.lookup a with
  | some o =>
    have e := KX a o hk
    rw [ha] at e
    cases e
    refine core (fun _ => none) (fun _ => .inl rfl) (.inr ⟨_, vs.toArray, _, hk, rfl, rfl, rfl, by rw [List.size_toArray, lenV]; exact hl, by simpa using rv⟩) (fun b u z => by have z' : (none : Option HO) = some u := z; cases z') (fun b z => absurd rfl z) fun z => absurd rfl z
  | none =>
    refine core (fun b => if b = a then some (.frz { cls := .type "list", data := .seq vs.toArray } (.lst (ns.map V.int))) else none) (fun b => ?_) (.inl (.inr ⟨{ cls := .type "list", data := .seq vs.toArray }, if_pos rfl⟩)) (fun b u z => ?_) (fun b z => ?_) fun _ => hk
    · by_cases hb : b = a
      · exact .inr ⟨_, _, if_pos hb⟩
      · exact .inl (if_neg hb)
    · by_cases hb : b = a
      · have z' := (if_pos hb).symm.trans z
        cases z'
        subst hb
        exact ⟨ha, by rw [List.length_map]; exact hl, vs, _, rv, ha⟩
      · have z' := (if_neg hb).symm.trans z
        cases z'
    · by_cases hb : b = a
      · exact hb
      · exact absurd (if_neg hb) z
end L2
namespace L2
open PySem PySem.Spec PyProof.Rows
noncomputable abbrev KOf {K : PySem.W.Frag} {h : Heap} (_ : K.In h) : PySem.W.Frag := K
theorem walk_of {l : PySem.W.OpenLaw} {n k : Nat} {q : Program} {loose : List Str} {XP : (Str → Option Value) → Heap → Prop} {YP : World → Heap → Prop} {d : DefRec} {K : Params → PySem.W.Frag} {CX : World → CXT} {sp : World → Sp} {x : Str}
    (hn : l.most = some n) (hn2 : n ≤ sizeLine) (hdf : d.params.defaults = []) (hr : Room k callerA)
    (hY : ∀ (w : World) (h : Heap), YP w h → (K w.params).In h)
    (F : ∀ (w : World) (mg : Str → Option Value) (fa : Addr) (h : Heap), (K w.params).In h → h.Ns mainGlobals mg → mg d.name = some (.ref fa) →
      ∃ fd : FuncData, (∀ (s : Shared) (u : Value), BindsTo s fd ⟨[u], []⟩ [(x, u)]) ∧
        ∀ base : Heap, (K w.params).In base → base.Ns mainGlobals mg → FnOk l.prog w (K w.params) mg base (CX w) k fa fd [x] (sp w))
    (hsp : ∀ (w : World) (H : Hp) (a : Addr) (ns : List Int), ns.length ≤ n → Only H → SqL (K w.params) H a (ns.map V.int) → sp w [.ref a] H (fun v _ => v = .bl true) fun _ _ _ => False)
    (hCX : ∀ (w : World) (H : Hp) (s : Shared) (e : Value) (s' : Shared), CX w [] H s (fun _ _ _ => False) e s' → False) :
    PySem.W.WalkO q loose XP YP l.row.toRowW d [] (fun f vs => PySem.call f vs) := by
  refine Att.attach_call hn hdf fun w s₀ s₁ mg mb fa o pm cd doc a vs ns G Y ho hd hcd hmg hobj hints hlen hg => ?_
  have KX := hY w _ Y
  obtain ⟨fd, hb, hF⟩ := F w mg fa _ KX G.T.g hmg
  exact law_call KX G.T.g G.T.b G.T.builtins G.T.nolimit hg hobj hints (Nat.le_trans hlen hn2) hr hF hb (fun H hO hS => hsp w H a ns hlen hO hS) fun H e s' => hCX w H s₁ e s'
end L2
namespace L2
open PySem PySem.Spec PyProof.Rows
noncomputable def inClass (s : Stmt) (j : Nat) : Stmt := match s with
  | .ClassDef _ _ _ body _ _ _ _ _ _ _ => body.getD j (.Pass ⟨0, 0, 0, 0⟩)
  | _ => .Pass ⟨0, 0, 0, 0⟩
noncomputable def defArgs (s : Stmt) : Arguments := match s with
  | .FunctionDef _ a _ _ _ _ _ _ _ _ => a
  | _ => { posonlyargs := [], args := [], vararg := none, kwonlyargs := [], kw_defaults := [], kwarg := none, defaults := [] }
noncomputable def defBody (s : Stmt) : List Stmt := match s with
  | .FunctionDef _ _ b _ _ _ _ _ _ _ => b
  | _ => []
noncomputable def defScope (s : Stmt) : Scope := match s with
  | .FunctionDef _ _ _ _ _ _ sc _ _ _ => sc
  | _ => { kind := .function, names := [], isGenerator := false, isCoroutine := false }
noncomputable abbrev CX0 : CXT := fun _ _ _ _ _ _ => False
noncomputable abbrev E0 : XK := fun _ _ _ => False
theorem pass0 {X : Cx} : Passes CX0 X E0 := fun _ _ _ _ _ _ _ h => h.elim
structure Fun (K : PySem.W.Frag) (x qual : Str) (st : Stmt) (f : Addr) (fd : FuncData) : Prop where
  ex : ∃ (oc : Value) (od : Option Addr) (kV doc pm : Value) (an : Option Addr) (cdv ct : Value) (osl : Array (Option Value)),
    fd = PySem.W.fnOf x qual (defArgs st) (defBody st) (defScope st) .none kV doc pm an cdv ct ∧ K.lookup f = some ⟨oc, od, .func fd, osl⟩ ∧ PySem.W.codeIn K cdv qual = true
  kp : PySem.W.keepIn K (.ref f) = true
section
variable {P : Program} {w : World} {K : PySem.W.Frag} {mg : Str → Option Value} {base : Heap}
theorem Fun.ok {x qual : Str} {st : Stmt} {f : Addr} {fd : FuncData} {N ps : List Str} {k : Nat} {sp : Sp} (F : Fun K x qual st f fd) (S : FnScope N ps (defScope st)) (len : ∀ vs H Q E, sp vs H Q E → vs.length = ps.length)
    (hbody : ∀ (cdv : Value) (A : Around) (outer : List Env) (s : Shared) (H : Hp) (vs : List V) (Q : VK) (E : XK), Room k (A.deeper (envOfC qual (defScope st) s.heap.objs.size f cdv)) → sp vs H Q E →
      ∃ t, PSs (cxOf CX0 P w K mg base N qual (defScope st) f cdv A outer s H E).nox (defBody st) t ∧ t { nx := fun _ H' => Q .non H', rt := Q } (start N vs) H) : FnOk P w K mg base CX0 (k + 1) f fd ps sp := by
  obtain ⟨oc, od, kV, doc, pm, an, cdv, ct, osl, rfl, lk, hcd⟩ := F.ex
  refine fn_of lk hcd S len fun A outer s H vs Q E hr hsp => ?_
  obtain ⟨t, h, q⟩ := hbody cdv A outer s H vs Q E hr hsp
  exact ⟨t, h.nox, q⟩
theorem Fun.binds {x qual : Str} {st : Stmt} {f : Addr} {fd : FuncData} {ps : List Str} (F : Fun K x qual st f fd)
    (h : ∀ (kV doc pm : Value) (an : Option Addr) (cdv ct : Value) (us : List Value), us.length = ps.length → bindArgs (PySem.W.fnOf x qual (defArgs st) (defBody st) (defScope st) .none kV doc pm an cdv ct) ⟨us, []⟩ = pure (ps.zip us)) : Binds K fd ps [] := by
  obtain ⟨oc, od, kV, doc, pm, an, cdv, ct, osl, rfl, lk, hcd⟩ := F.ex
  exact .all (h kV doc pm an cdv ct)
theorem fun_mk {x qual : Str} {st : Stmt} {f : Addr} {oc : Value} {od an : Option Addr} {osl : Array (Option Value)} {kV doc pm cdv ct : Value} (l : K.lookup f = some ⟨oc, od, .func (PySem.W.fnOf x qual (defArgs st) (defBody st) (defScope st) .none kV doc pm an cdv ct), osl⟩)
    (c : PySem.W.codeIn K cdv qual = true) (k : PySem.W.keepIn K (.ref f) = true) : Fun K x qual st f (PySem.W.fnOf x qual (defArgs st) (defBody st) (defScope st) .none kV doc pm an cdv ct) := ⟨⟨oc, od, kV, doc, pm, an, cdv, ct, osl, rfl, l, c⟩, k⟩
end
theorem hu_of {A : Around} {k : Nat} (hr : Room k A) : A.units + 1 < cLine := Nat.lt_of_le_of_lt (Nat.add_le_add_left (by decide : 1 ≤ 64) _) hr.units
theorem small1000 {n : Nat} (h : n ≤ 1000) : n < sizeLine := Nat.lt_of_le_of_lt h (by decide)
section
variable {X : Cx}
end
end L2
namespace L2
open PySem PySem.Spec PyProof.Rows
section
variable {κ : Type} [DecidableEq κ]
noncomputable def valV (kvs : List (κ × V)) (k : κ) : Option V := (kvs.find? fun kv => decide (kv.1 = k)).map (·.2)
noncomputable def putK (kvs : List (κ × V)) (k : κ) (v : V) : List (κ × V) :=
  if (kvs.any fun kv => decide (kv.1 = k)) = true then kvs.map (fun kv => if kv.1 = k then (kv.1, v) else kv) else kvs ++ [(k, v)]
noncomputable def dropK (kvs : List (κ × V)) (k : κ) : List (κ × V) := kvs.filter fun kv => decide (kv.1 ≠ k)
theorem valV_pos {p : κ × V} {r : List (κ × V)} {k : κ} (e : p.1 = k) : valV (p :: r) k = some p.2 := by simp [valV, List.find?_cons, e]
theorem valV_neg {p : κ × V} {r : List (κ × V)} {k : κ} (e : ¬ p.1 = k) : valV (p :: r) k = valV r k := by simp [valV, List.find?_cons, e]
theorem valV_any (k : κ) : ∀ kvs : List (κ × V), (kvs.any fun kv => decide (kv.1 = k)) = (valV kvs k).isSome
  | [] => rfl
  | p :: r => by
    rw [List.any_cons]
    by_cases e : p.1 = k
    · simp only [valV_pos e, decide_eq_true e, Bool.true_or, Option.isSome_some]
    · rw [valV_neg e, decide_eq_false e, Bool.false_or]; exact valV_any k r
theorem length_putK (kvs : List (κ × V)) (k : κ) (v : V) : (putK kvs k v).length ≤ kvs.length + 1 := by
  unfold putK
  split
  · rw [List.length_map]; (first | lia | omega)
  · rw [List.length_append, List.length_cons, List.length_nil]; (first | lia | omega)
theorem RelO.isSome_eq {o : Option V} {u : Option Value} (r : RelO o u) : o.isSome = u.isSome := by
  cases o with
  | none => cases u with
    | none => rfl
    | some _ => exact (show False from r).elim
  | some _ => cases u with
    | none => exact (show False from r).elim
    | some _ => rfl
theorem KV.val {kvs : List (κ × V)} {vs : List (κ × Value)} (r : KV kvs vs) (k : κ) : RelO (valV kvs k) (valueAt vs k) := by
  unfold KV at r
  induction r with
  | nil => exact True.intro
  | @cons p q ps qs h t ih =>
    obtain ⟨h1, h2⟩ := h
    by_cases e : p.1 = k
    · have e' : q.1 = k := h1.symm.trans e
      have b : valueAt (q :: qs) k = some q.2 := by simp [valueAt, List.find?_cons, e']
      rw [valV_pos e, b]; exact h2
    · have e' : ¬ q.1 = k := fun z => e (h1.trans z)
      have b : valueAt (q :: qs) k = valueAt qs k := by simp [valueAt, List.find?_cons, e']
      rw [valV_neg e, b]; exact ih
theorem KV.any {kvs : List (κ × V)} {vs : List (κ × Value)} (r : KV kvs vs) (k : κ) : (kvs.any fun kv => decide (kv.1 = k)) = vs.any fun kv => decide (kv.1 = k) := by
  unfold KV at r
  induction r with
  | nil => rfl
  | cons h t ih => rw [List.any_cons, List.any_cons, ih, h.1]
theorem KV.repl {kvs : List (κ × V)} {vs : List (κ × Value)} (r : KV kvs vs) (k : κ) {y : V} {u : Value} (ry : RelV y u) :
    KV (kvs.map fun kv => if kv.1 = k then (kv.1, y) else kv) (vs.map fun kv => if kv.1 = k then (kv.1, u) else kv) := by
  unfold KV at r ⊢
  induction r with
  | nil => exact .nil
  | @cons p q ps qs h t ih =>
    rw [List.map_cons, List.map_cons]
    refine .cons ?_ ih
    obtain ⟨h1, h2⟩ := h
    by_cases e : p.1 = k
    · rw [if_pos e, if_pos (h1.symm.trans e)]; exact ⟨h1, ry⟩
    · rw [if_neg e, if_neg (fun z => e (h1.trans z))]; exact ⟨h1, h2⟩
theorem KV.put {kvs : List (κ × V)} {vs : List (κ × Value)} (r : KV kvs vs) (k : κ) {y : V} {u : Value} (ry : RelV y u) : KV (putK kvs k y) (stored vs k u) := by
  unfold putK stored
  rw [r.any k]
  by_cases e : (vs.any fun kv => decide (kv.1 = k)) = true
  · rw [if_pos e, if_pos e]; exact r.repl k ry
  · rw [if_neg e, if_neg e]; exact Paired.snoc r ⟨rfl, ry⟩
theorem KV.drop {kvs : List (κ × V)} {vs : List (κ × Value)} (r : KV kvs vs) (k : κ) : KV (dropK kvs k) (without vs k) := by
  unfold KV at r ⊢
  unfold dropK without
  induction r with
  | nil => exact .nil
  | @cons p q ps qs h t ih =>
    obtain ⟨h1, h2⟩ := h
    rw [List.filter_cons, List.filter_cons]
    by_cases e : p.1 = k
    · have a : ¬ decide (p.1 ≠ k) = true := by simp [e]
      have b : ¬ decide (q.1 ≠ k) = true := by simp [h1.symm.trans e]
      rw [if_neg a, if_neg b]; exact ih
    · have e' : ¬ q.1 = k := fun z => e (h1.trans z)
      have a : decide (p.1 ≠ k) = true := by simp [e]
      have b : decide (q.1 ≠ k) = true := by simp [e']
      rw [if_pos a, if_pos b]; exact .cons ⟨h1, h2⟩ ih
theorem KV.keys {kvs : List (κ × V)} {vs : List (κ × Value)} (r : KV kvs vs) : kvs.map (·.1) = vs.map (·.1) := by
  unfold KV at r
  induction r with
  | nil => rfl
  | cons h t ih => rw [List.map_cons, List.map_cons, ih, h.1]
theorem KV.length {kvs : List (κ × V)} {vs : List (κ × Value)} (r : KV kvs vs) : kvs.length = vs.length := Paired.length r
theorem dropK_le (kvs : List (κ × V)) (k : κ) : (dropK kvs k).length ≤ kvs.length := List.length_filter_le _ _
end
theorem kV_is {P : Program} {w : World} {k : Key} {u : Value} (r : RelV (kV k) u) : (mixKind P w).is k u = true := by
  cases k with
  | inl i => obtain ⟨t, e⟩ := (show ∃ t, u = Value.int i t from r); subst e; exact mixKind_int P w i t
  | inr x => obtain ⟨t, e⟩ := (show ∃ t, u = Value.str x t from r); subst e; exact mixKind_str P w x t
theorem items_are {P : Program} {w : World} : ∀ {ks : List Key} {us : List Value}, Vals (ks.map kV) us → ItemsAre (mixKind P w) ks us
  | [], _, r => by rw [List.map_nil] at r; cases r; exact .nil
  | k :: ks, _, r => by
    rw [List.map_cons] at r
    cases r with
    | cons h t => exact .cons (kV_is h) (items_are t)
noncomputable abbrev KT (H : Hp) : List (List Key × V) → List (List Key × Addr × Value) → Prop := Paired fun p q => p.1 = q.1 ∧ H q.2.1 = some (.tup (p.1.map kV)) ∧ RelV p.2 q.2.2
theorem KT.val {H : Hp} {kvs : List (List Key × V)} {xs : List (List Key × Addr × Value)} (r : KT H kvs xs) (k : List Key) : RelO (valV kvs k) ((atKey xs k).map (·.2)) := by
  induction r with
  | nil => exact True.intro
  | @cons p q ps qs h t ih =>
    obtain ⟨h1, _, h2⟩ := h
    by_cases e : p.1 = k
    · have e' : q.1 = k := h1.symm.trans e
      have b : atKey (q :: qs) k = some q.2 := by simp [atKey, List.find?_cons, e']
      rw [valV_pos e, b]; exact h2
    · have e' : ¬ q.1 = k := fun z => e (h1.trans z)
      have b : atKey (q :: qs) k = atKey qs k := by simp [atKey, List.find?_cons, e']
      rw [valV_neg e, b]; exact ih
theorem KT.repl {H : Hp} {kvs : List (List Key × V)} {xs : List (List Key × Addr × Value)} (r : KT H kvs xs) (k : List Key) {y : V} {u : Value} (ry : RelV y u) :
    KT H (kvs.map fun kv => if kv.1 = k then (kv.1, y) else kv) (xs.map (putAt k u)) := by
  induction r with
  | nil => exact .nil
  | @cons p q ps qs h t ih =>
    rw [List.map_cons, List.map_cons]
    refine .cons ?_ ih
    obtain ⟨h1, h2, h3⟩ := h
    unfold putAt
    by_cases e : p.1 = k
    · rw [if_pos e, if_pos (h1.symm.trans e)]; exact ⟨h1, h2, ry⟩
    · rw [if_neg e, if_neg (fun z => e (h1.trans z))]; exact ⟨h1, h2, h3⟩
theorem KT.put {H : Hp} {kvs : List (List Key × V)} {xs : List (List Key × Addr × Value)} (r : KT H kvs xs) (k : List Key) {b : Addr} {y : V} {u : Value} (hb : H b = some (.tup (k.map kV))) (ry : RelV y u) :
    KT H (putK kvs k y) (storedH xs k b u) := by
  have e : (kvs.any fun kv => decide (kv.1 = k)) = (atKey xs k).isSome := by
    rw [valV_any, (r.val k).isSome_eq, Option.isSome_map]
  unfold putK storedH
  rw [e]
  by_cases q : (atKey xs k).isSome = true
  · rw [if_pos q, if_pos q]; exact r.repl k ry
  · rw [if_neg q, if_neg q]; exact Paired.snoc r ⟨rfl, hb, ry⟩
theorem KT.keeps {H H' : Hp} {kvs : List (List Key × V)} {xs : List (List Key × Addr × Value)} (r : KT H kvs xs) (ht : ∀ b ys, H b = some (.tup ys) → H' b = some (.tup ys)) : KT H' kvs xs :=
  Paired.mapP r fun _ _ z => ⟨z.1, ht _ _ z.2.1, z.2.2⟩
section
variable {P : Program} {w : World} {H : Hp} {h : Heap} {a : Addr}
theorem rd_of {u : HO} (ok : HOk P w H h) (e : Rd H a u) : ObjOk P w H h a u := e.ok ok
theorem dk_rd {kvs : List (Key × V)} (ok : HOk P w H h) (e : Rd H a (.dK kvs)) : kvs.length ≤ sizeLine ∧ (a == sysModules) = false ∧ ∃ vs, KV kvs vs ∧ h.DictOf (mixKind P w) a vs :=
  show ObjOk P w H h a (.dK kvs) from rd_of ok e
theorem dk_of {kvs : List (Key × V)} (ok : HOk P w H h) (e : H a = some (.dK kvs)) : kvs.length ≤ sizeLine ∧ (a == sysModules) = false ∧ ∃ vs, KV kvs vs ∧ h.DictOf (mixKind P w) a vs := dk_rd ok (.inl e)
theorem key_of {ks : List Key} (ok : HOk P w H h) (e : H a = some (.tup (ks.map kV))) : (tupleKind (mixKind P w)).is h ks a := by
  obtain ⟨_, its, r, o, h1, h2, n, h3⟩ := (show ObjOk P w H h a (.tup (ks.map kV)) from ok a _ e)
  exact ⟨o, its.toArray, n, h1, h2, h3, by simpa using items_are r⟩
theorem dt_rd {kvs : List (List Key × V)} (ok : HOk P w H h) (e : Rd H a (.dT kvs)) : kvs.length ≤ sizeLine ∧ (a == sysModules) = false ∧
    ∃ xs, KT H kvs xs ∧ h.DictOfH (tupleKind (mixKind P w)) a xs := by
  obtain ⟨z, y, xs, r, o, es, ep, h1, h2, h3, h4, h5⟩ := (show ObjOk P w H h a (.dT kvs) from rd_of ok e)
  refine ⟨z, y, xs, r, o, es, ep, h1, h2, h3, h4, fun x hx => ?_, h5⟩
  have all : ∀ {l : List (List Key × V)} {m : List (List Key × Addr × Value)}, KT H l m → ∀ x ∈ m, (tupleKind (mixKind P w)).is h x.1 x.2.1 := by
    intro l m q
    induction q with
    | nil => intro x hx; exact nomatch hx
    | @cons p q ps qs hq t ih =>
      intro x hx
      rcases List.mem_cons.mp hx with e | hx
      · subst e
        exact key_of ok (by rw [← hq.1]; exact hq.2.1)
      · exact ih x hx
  exact all r x hx
theorem dt_of {kvs : List (List Key × V)} (ok : HOk P w H h) (e : H a = some (.dT kvs)) : kvs.length ≤ sizeLine ∧ (a == sysModules) = false ∧
    ∃ xs, KT H kvs xs ∧ h.DictOfH (tupleKind (mixKind P w)) a xs := dt_rd ok (.inl e)
end
noncomputable def DGet (H : Hp) (a : Addr) (y : V) (r : Option V) : Prop :=
  (∃ kvs k, Rd H a (.dK kvs) ∧ y = kV k ∧ r = valV kvs k) ∨ ∃ kvs k b, Rd H a (.dT kvs) ∧ y = .ref b ∧ H b = some (.tup (k.map kV)) ∧ r = valV kvs k
noncomputable def DPut (H : Hp) (a : Addr) (y v : V) (H' : Hp) : Prop :=
  (∃ kvs k, H a = some (.dK kvs) ∧ y = kV k ∧ kvs.length < sizeLine ∧ H' = upd H a (.dK (putK kvs k v))) ∨
  ∃ kvs k b, H a = some (.dT kvs) ∧ y = .ref b ∧ H b = some (.tup (k.map kV)) ∧ kvs.length < sizeLine ∧ H' = upd H a (.dT (putK kvs k v))
theorem DPut.k {H : Hp} {a : Addr} {kvs : List (Key × V)} {k : Key} {v : V} (e : H a = some (.dK kvs)) (hl : kvs.length < sizeLine) : DPut H a (kV k) v (upd H a (.dK (putK kvs k v))) := .inl ⟨kvs, k, e, rfl, hl, rfl⟩
section
variable {X : Cx} {pins : List (Addr × Obj)} {σ : St} {H : Hp} {s : Shared} {a : Addr} {y v : V} {u r : Value} {o : Option V} {A : Around} {E : Value → Shared → Prop}
theorem Inv.big (I : Inv X pins σ H s) : sysModules < s.heap.objs.size := by
  have h : mainGlobals < s.heap.objs.size := (I.mod.glob.keeps I.bk).lt
  exact Nat.lt_trans (by decide) h
theorem d_getItem {Q : Value → Shared → Prop} (hu : A.units + 1 < cLine) (I : Inv X pins σ H s) (g : DGet H a y (some v)) (ry : RelV y u) (h : ∀ w' s', Inv X pins σ H s' → RelV v w' → Q w' s') :
    wpAny (model X.prog X.w) A (getItem (.ref a) u) Q E s := by
  rcases g with ⟨kvs, k, e, ey, l⟩ | ⟨kvs, k, b, e, ey, eb, l⟩
  · subst ey
    obtain ⟨z, hd, vs, rel, dd⟩ := dk_rd I.hok e
    obtain ⟨w', hw, rw'⟩ := RelO.some_of (v := v) (o := valueAt vs k) (by rw [l]; exact rel.val k)
    exact wpAny_getItem_of (kV_is ry) dd.mapOf hw (h w' _ (I.tok _) rw')
  · subst ey
    cases (show u = Value.ref b from ry)
    obtain ⟨z, hd, xs, rel, dd⟩ := dt_rd I.hok e
    obtain ⟨w', hw, rw'⟩ := RelO.some_of (v := v) (o := (atKey xs k).map (·.2)) (by rw [l]; exact rel.val k)
    obtain ⟨p, hp, hp2⟩ := Option.map_eq_some_iff.mp hw
    refine wpAny_getItem_heap (tupleKind_room_in1 hu) (key_of I.hok eb) dd hp ?_
    rw [hp2]
    exact h w' _ (I.tok _) rw'
theorem d_in {Q : Value → Shared → Prop} (hu : A.units + 1 < cLine) (I : Inv X pins σ H s) (g : DGet H a y o) (ry : RelV y u) (h : ∀ s', Inv X pins σ H s' → Q (.bool o.isSome) s') :
    wpAny (model X.prog X.w) A (compareOp .In u (.ref a)) Q E s := by
  rcases g with ⟨kvs, k, e, ey, l⟩ | ⟨kvs, k, b, e, ey, eb, l⟩
  · subst ey
    obtain ⟨z, hd, vs, rel, dd⟩ := dk_rd I.hok e
    refine wpAny_in_of (kV_is ry) hd dd.mapOf ?_
    rw [← (rel.val k).isSome_eq, ← l]
    exact h _ (I.tok _)
  · subst ey
    cases (show u = Value.ref b from ry)
    obtain ⟨z, hd, xs, rel, dd⟩ := dt_rd I.hok e
    refine wpAny_in_heap (tupleKind_room_in1 hu) (key_of I.hok eb) hd dd ?_
    have q := (rel.val k).isSome_eq
    rw [Option.isSome_map] at q
    rw [← q, ← l]
    exact h _ (I.tok _)
theorem d_notIn {Q : Value → Shared → Prop} (hu : A.units + 1 < cLine) (I : Inv X pins σ H s) (g : DGet H a y o) (ry : RelV y u) (h : ∀ s', Inv X pins σ H s' → Q (.bool (!o.isSome)) s') :
    wpAny (model X.prog X.w) A (compareOp .NotIn u (.ref a)) Q E s := by
  rcases g with ⟨kvs, k, e, ey, l⟩ | ⟨kvs, k, b, e, ey, eb, l⟩
  · subst ey
    obtain ⟨z, hd, vs, rel, dd⟩ := dk_rd I.hok e
    refine wpAny_notIn_of (kV_is ry) hd dd.mapOf ?_
    rw [← (rel.val k).isSome_eq, ← l]
    exact h _ (I.tok _)
  · subst ey
    cases (show u = Value.ref b from ry)
    obtain ⟨z, hd, xs, rel, dd⟩ := dt_rd I.hok e
    refine wpAny_notIn_heap (tupleKind_room_in1 hu) (key_of I.hok eb) hd dd ?_
    have q := (rel.val k).isSome_eq
    rw [Option.isSome_map] at q
    rw [← q, ← l]
    exact h _ (I.tok _)
theorem d_write {h' : Heap} {t' : Nat} {ob : HO} (I : Inv X pins σ H s) (mu : Mut (H a)) (hs : Heap.SameBut a s.heap h') (he : ∃ q, h'.get? a = some q) (new : ObjOk X.prog X.w (upd H a ob) h' a ob) :
    Inv X pins σ (upd H a ob) { s with heap := h', toks := t' } :=
  I.write (x := a) (e := a) mu (.inl rfl) (fun b q hb z => (hs.2 b hb).trans z) he new
theorem dk_new {P : Program} {w : World} {H' : Hp} {h' : Heap} {kvs : List (Key × V)} {vs : List (Key × Value)} (z : kvs.length ≤ sizeLine) (hd : (a == sysModules) = false) (rel : KV kvs vs) (dd : h'.DictOf (mixKind P w) a vs) :
    ObjOk P w H' h' a (.dK kvs) := ⟨z, hd, vs, rel, dd⟩
theorem d_setItem {H' : Hp} {Q : Unit → Shared → Prop} (hu : A.units + 1 < cLine) (I : Inv X pins σ H s) (g : DPut H a y v H') (ry : RelV y u) (rv : RelV v r) (h : ∀ s', Inv X pins σ H' s' → Q () s') :
    wpAny (model X.prog X.w) A (setItem (.ref a) u r) Q E s := by
  rcases g with ⟨kvs, k, e, ey, l, eH⟩ | ⟨kvs, k, b, e, ey, eb, l, eH⟩
  · subst ey eH
    obtain ⟨z, hd, vs, rel, dd⟩ := dk_of I.hok e
    have hz : vs.length ≤ sizeLine := by rw [← rel.length]; exact z
    have hl : (putK kvs k v).length ≤ sizeLine := by have := length_putK kvs k v; (first | lia | omega)
    refine wpAny_setItem_pairs (hsz := hz) (kV_is ry) dd fun h' dd' hs => h _ ?_
    have he : ∃ q, h'.get? a = some q := let ⟨q, _, _, hq, _⟩ := dd'; ⟨q, hq⟩
    exact d_write I (by rw [e]; exact True.intro) hs he (dk_new hl hd (rel.put k rv) dd')
  · subst ey eH
    cases (show u = Value.ref b from ry)
    obtain ⟨z, hd, xs, rel, dd⟩ := dt_of I.hok e
    have hz : xs.length ≤ sizeLine := by rw [← Paired.length rel]; exact z
    have hl : (putK kvs k v).length ≤ sizeLine := by have := length_putK kvs k v; (first | lia | omega)
    refine wpAny_setItem_heap (hsz := hz) (tupleKind_room_in1 hu) (key_of I.hok eb) dd fun h' dd' hs => h _ ?_
    obtain ⟨q, es, ep, hq, h2, h3, h4, _, h5⟩ := dd'
    refine d_write I (by rw [e]; exact True.intro) hs ⟨q, hq⟩ ⟨hl, hd, _, (rel.put k eb rv).keeps fun c ys ec => ?_, q, es, ep, hq, h2, h3, h4, h5⟩
    rw [upd_ne (ne_of ec e (fun z => nomatch z))]
    exact ec
end
section
variable {X : Cx} {pins : List (Addr × Obj)} {σ : St} {H : Hp} {s : Shared} {a : Addr} {kvs : List (Key × V)} {k : Key} {u : Value} {A : Around} {E : Value → Shared → Prop}
theorem d_pop {v : V} {more : List Value} {Q : Value → Shared → Prop} (I : Inv X pins σ H s) (e : H a = some (.dK kvs)) (ry : RelV (kV k) u) (l : valV kvs k = some v) (hm : more = [] ∨ ∃ x, more = [x])
    (h : ∀ w' s', Inv X pins σ (upd H a (.dK (dropK kvs k))) s' → RelV v w' → Q w' s') : wpAny (model X.prog X.w) A (call (.builtin "dict.pop") (.ref a :: u :: more)) Q E s := by
  obtain ⟨z, hd, vs, rel, dd⟩ := dk_of I.hok e
  obtain ⟨w', hw, rw'⟩ := RelO.some_of (v := v) (o := valueAt vs k) (by rw [← l]; exact rel.val k)
  have hp : (keyPart u).isSome = true := by
    cases k with
    | inl i => obtain ⟨t, q⟩ := (show ∃ t, u = Value.int i t from ry); subst q; rfl
    | inr x => obtain ⟨t, q⟩ := (show ∃ t, u = Value.str x t from ry); subst q; rfl
  have ha : argsOk "dict.pop" ⟨.ref a :: u :: more, []⟩ := by
    rcases hm with q | ⟨x, q⟩
    · subst q; exact PySem.F.args_dict_pop_2 _ _
    · subst q; exact PySem.F.args_dict_pop_3 _ _ _
  refine call_meetsIn PySem.F.slot_dict_pop dd.typeIs PySem.F.entry_dict_pop ha (meets_dict_pop_there (mixKind X.prog X.w) a (kV_is ry) more hm hp)
    ⟨vs, w', dd, by rw [← rel.length]; exact z, hw, fun h' dd' hs => h w' _ ?_ rw'⟩
  have he : ∃ q, h'.get? a = some q := let ⟨q, _, _, hq, _⟩ := dd'; ⟨q, hq⟩
  exact d_write I (by rw [e]; exact True.intro) hs he (dk_new (Nat.le_trans (dropK_le kvs k) z) hd (rel.drop k) dd')
theorem d_len {Q : Value → Shared → Prop} (I : Inv X pins σ H s) (e : Rd H a (.dK kvs)) (h : ∀ t s', Inv X pins σ H s' → Q (.int kvs.length t) s') : wpAny (model X.prog X.w) A (call (.builtin "len") [.ref a]) Q E s := by
  obtain ⟨z, hd, vs, rel, dd⟩ := dk_rd I.hok e
  refine call_len_dict hd dd (by rw [← rel.length]; rw [sizeLine_eq] at z; (first | lia | omega)) ?_
  rw [← rel.length]
  exact h _ _ (I.tok _)
end
noncomputable def NoSl (i : Expr) : Prop := ∀ ov iv, subscripted i false ov iv = operate [ov, iv] (getItem ov iv)
theorem subD_of {prog : Program} {w : World} {A : Around} {E : Value → Shared → Prop} {s : Shared} {env : Env} {value slice : Expr} {pos : Pos} {T id : String} {Q : Value → Shared → Prop}
    (hl : typeLookup (.type T) "__getitem__" = pure (some (.builtin id))) (hs : NoSl slice)
    (h : wpAny (model prog w) A (eval value env) (fun o s₁ => wpAny (model prog w) A (eval slice env) (fun i s₂ => s₂.TypeIs o T ∧ wpAny (model prog w) A (getItem o i) Q E s₂) E s₁) E s) :
    wpAny (model prog w) A (eval (.Subscript value slice pos) env) Q E s := by
  refine Subscript_ (wpAny_mono h (fun o s₁ h₁ => wpAny_mono h₁ (fun i s₂ h₂ => ?_) fun _ _ x => x) fun _ _ x => x)
  obtain ⟨hT, h₂⟩ := h₂
  unfold subscriptTail
  refine wpAny_bind ?_
  rw [getitemInPython_of_ne hT.not_modules]
  refine wpAny_bind (wpAny_specialOf hT hl ?_)
  have fin : wpAny (model prog w) A (subscripted slice false o i) (fun r s₃ => wpAny (model prog w) A (letTemporaryGo value o r >>= fun _ => pure r) Q E s₃) E s₂ := by
    rw [hs o i]
    exact wpAny_operating (wpAny_mono h₂ (fun r s₃ h₃ => wpAny_bind (wpAny_letTemporaryGo (wpAny_pure h₃))) fun _ _ x => x)
  first
    | exact wpAny_pure (wpAny_bind fin)
    | exact wpAny_bind (wpAny_pure (wpAny_bind fin))
    | exact wpAny_bind fin
theorem dict_typeIs {X : Cx} {pins : List (Addr × Obj)} {σ : St} {H : Hp} {s : Shared} {a : Addr} {y : V} {o : Option V} (I : Inv X pins σ H s) (g : DGet H a y o) : s.TypeIs (.ref a) "dict" := by
  rcases g with ⟨kvs, k, e, _, _⟩ | ⟨kvs, k, b, e, _, _, _⟩
  · obtain ⟨_, _, vs, _, dd⟩ := dk_rd I.hok e
    exact dd.typeIs
  · obtain ⟨_, _, xs, _, dd⟩ := dt_rd I.hok e
    exact dd.typeIs
noncomputable def tDGet (td ty : TE) : TE := fun σ H Q => td σ H fun x H1 => ty σ H1 fun y H2 => ∃ a v, x = .ref a ∧ DGet H2 a y (some v) ∧ Q v H2
section
variable {X : Cx} {o i e value : Expr} {pos pos' tpos : Pos} {td ty tv : TE}
theorem pe_dget (hu : X.A.units + 1 < cLine) (ho : PE X o td) (hi : PE X i ty) (hs : NoSl i) : PE X (.Subscript o i pos) (tDGet td ty) := by
  intro pins s σ H Q I h
  refine subD_of PySem.F.slot_dict_getitem.lookup hs (thn (ho pins s σ H _ I h) fun u s1 zz0 => ?_)
  obtain ⟨x, H1, I1, rx, q1⟩ := zz0
  refine thn (hi pins s1 σ H1 _ I1 q1) fun iv s2 zz1 => ?_
  obtain ⟨y, H2, I2, ry, a, v, ex, g, q2⟩ := zz1
  subst ex
  obtain rfl : u = Value.ref a := rx
  exact ⟨dict_typeIs I2 g, d_getItem hu I2 g ry fun w' s3 I3 rw' => ⟨v, H2, I3, rw', q2⟩⟩
end
theorem dk_empty {P : Program} {w : World} {H : Hp} (h : Heap) (hb : sysModules < h.objs.size) : ObjOk P w H (h.push { cls := .type "dict", data := .dict #[] }) h.objs.size (.dK []) :=
  ⟨Nat.zero_le _, beq_eq_false_iff_ne.mpr (Ne.symm (Nat.ne_of_lt hb)), [], .nil, Heap.DictOf.new h⟩
noncomputable def tDNewK : TE := fun _ H Q => ∀ p, H p = none → Q (.ref p) (upd H p (.dK []))
section
variable {X : Cx} {pos : Pos}
theorem pe_dnewK : PE X (.Dict [] [] pos) tDNewK := fun pins s σ H Q I h =>
  wpAny_Dict_empty ⟨.ref s.heap.objs.size, _, I.laid (a := s.heap.objs.size) (o := .dK []) (t' := s.toks) (fun _ _ q => Heap.get?_push_of_some _ q) (Nat.le_refl _) (dk_empty s.heap I.big), rfl, h _ (I.hok.fresh (Nat.le_refl _))⟩
end
structure M1 (X : Cx) (o : Expr) (m : Str) (apos : Pos) (e : Expr) (cpos : Pos) : Prop where
  base : attributeBase o m X.env (eval o X.env) = eval o X.env
  few : ((backTo cpos (starEach [e] X.env)).all (fun x => !x.1) && (backToKw cpos (keywordEach [] X.env)).all (fun x => x.1.isSome)
    && decide (([e] : List Expr).length + ([] : List Keyword).length + (if ([] : List Keyword).isEmpty then 0 else 1) < 30)) = true
  line : (apos.endLine == cpos.line) = true
  trees : backTo cpos (starEach [e] X.env) = [(false, eval e X.env)]
structure M2 (X : Cx) (o : Expr) (m : Str) (apos : Pos) (e f : Expr) (cpos : Pos) : Prop where
  base : attributeBase o m X.env (eval o X.env) = eval o X.env
  few : ((backTo cpos (starEach [e, f] X.env)).all (fun x => !x.1) && (backToKw cpos (keywordEach [] X.env)).all (fun x => x.1.isSome)
    && decide (([e, f] : List Expr).length + ([] : List Keyword).length + (if ([] : List Keyword).isEmpty then 0 else 1) < 30)) = true
  line : (apos.endLine == cpos.line) = true
  trees : backTo cpos (starEach [e, f] X.env) = [(false, eval e X.env), (false, eval f X.env)]
noncomputable def IsD (H : Hp) (a : Addr) : Prop := (∃ kvs, Rd H a (.dK kvs)) ∨ ∃ kvs, Rd H a (.dT kvs)
theorem isD_at {X : Cx} {pins : List (Addr × Obj)} {σ : St} {H : Hp} {s : Shared} {a : Addr} (I : Inv X pins σ H s) (d : IsD H a) :
    s.TypeIs (.ref a) "dict" ∧ (∀ b, Value.ref a = .ref b → ∃ ob, s.heap.get? b = some ob ∧ ob.dict = none) ∧ (a == sysModules) = false := by
  rcases d with ⟨kvs, e⟩ | ⟨kvs, e⟩
  · obtain ⟨_, hd, vs, _, dd⟩ := dk_rd I.hok e
    refine ⟨dd.typeIs, fun b q => ?_, hd⟩
    cases q
    obtain ⟨ob, _, _, h1, h2, _⟩ := dd
    exact ⟨ob, h1, h2.2.1⟩
  · obtain ⟨_, hd, xs, _, dd⟩ := dt_rd I.hok e
    refine ⟨dd.typeIs, fun b q => ?_, hd⟩
    cases q
    obtain ⟨ob, _, _, h1, h2, _⟩ := dd
    exact ⟨ob, h1, h2.2.1⟩
section
variable {X : Cx} {pins : List (Addr × Obj)} {σ : St} {H : Hp} {s : Shared} {a : Addr} {y d : V} {u r : Value} {o : Option V} {A : Around} {E : Value → Shared → Prop}
end
section
variable {X : Cx} {o e f : Expr} {apos cpos : Pos} {td ty tx : TE}
end
section
variable {X : Cx} {pins : List (Addr × Obj)} {σ : St} {H : Hp} {s : Shared} {a : Addr} {kvs : List (Key × V)} {A : Around} {E : Value → Shared → Prop}
end
section
variable {X : Cx} {pins : List (Addr × Obj)} {σ : St} {H : Hp} {s : Shared} {a : Addr} {y : V} {u : Value} {A : Around} {E : Value → Shared → Prop}
end
end L2
namespace L2
open PySem PySem.Spec PyProof.Rows
section
variable {X : Cx}
end
section
variable {κ : Type} [DecidableEq κ]
end
end L2
set_option maxHeartbeats 4000000
namespace DL
open PySem PySem.Spec PyProof.Rows L2
noncomputable abbrev St := L2.St
inductive D where
  | non | bl (b : Bool) | int (i : Int) | str (x : Str) | ref (a : Addr) | ty (n : String) | tup (ds : List D) | rol (ds : List D)
noncomputable def SqF (K : PySem.W.Frag) (H : Hp) (a : Addr) (xs : List V) : Prop :=
  (∃ o, H a = some (.frz o (.lst xs))) ∨
    ∃ (o : Obj) (its : Array Value) (n : Nat), K.lookup a = some o ∧ o.cls = .type "list" ∧ o.dict = none ∧ o.data = .seq its n ∧ its.size ≤ sizeLine ∧ Vals xs its.toList
theorem SqF.sq {K : PySem.W.Frag} {H : Hp} {a : Addr} {xs : List V} (h : SqF K H a xs) : SqL K H a xs := by
  rcases h with ⟨o, h⟩ | h
  · exact .inl (.inr ⟨o, h⟩)
  · exact .inr h
mutual
inductive Is (K : PySem.W.Frag) (H : Hp) : V → D → Prop where
  | non : Is K H .non .non
  | bl (b : Bool) : Is K H (.bl b) (.bl b)
  | int (i : Int) : Is K H (.int i) (.int i)
  | str (x : Str) : Is K H (.str x) (.str x)
  | ref (a : Addr) : Is K H (.ref a) (.ref a)
  | ty (n : String) : Is K H (.ty n) (.ty n)
  | tup {a : Addr} {xs : List V} {ds : List D} : SqT K H a xs → Iss K H xs ds → Is K H (.ref a) (.tup ds)
  | rol {a : Addr} {xs : List V} {ds : List D} : SqF K H a xs → Iss K H xs ds → Is K H (.ref a) (.rol ds)
inductive Iss (K : PySem.W.Frag) (H : Hp) : List V → List D → Prop where
  | nil : Iss K H [] []
  | cons {x : V} {d : D} {xs : List V} {ds : List D} : Is K H x d → Iss K H xs ds → Iss K H (x :: xs) (d :: ds)
end
noncomputable def IsV (K : PySem.W.Frag) (H : Hp) (v : V) : D → Prop
  | .non => v = .non
  | .bl b => v = .bl b
  | .int i => v = .int i
  | .str x => v = .str x
  | .ref a => v = .ref a
  | .ty n => v = .ty n
  | d => Is K H v d
theorem Is.inv {K : PySem.W.Frag} {H : Hp} {v : V} {d : D} (h : Is K H v d) : IsV K H v d := by
  cases h <;> first | rfl | (exact .tup ‹_› ‹_›) | (exact .rol ‹_› ‹_›)
structure Ext0 (K : PySem.W.Frag) (H H' : Hp) : Prop where
  t : ∀ a xs, SqT K H a xs → SqT K H' a xs
  f : ∀ a xs, SqF K H a xs → SqF K H' a xs
structure Ext (K : PySem.W.Frag) (H H' : Hp) : Prop where
  t : ∀ a xs, SqT K H a xs → SqT K H' a xs
  z : ∀ a o u, H a = some (.frz o u) → H' a = some (.frz o u)
theorem Ext.f {K : PySem.W.Frag} {H H' : Hp} (e : Ext K H H') : ∀ a xs, SqF K H a xs → SqF K H' a xs := fun a xs h => by
  rcases h with ⟨o, h⟩ | h
  · exact .inl ⟨o, e.z _ _ _ h⟩
  · exact .inr h
theorem Ext.e0 {K : PySem.W.Frag} {H H' : Hp} (e : Ext K H H') : Ext0 K H H' := ⟨e.t, e.f⟩
theorem Ext.refl {K : PySem.W.Frag} (H : Hp) : Ext K H H := ⟨fun _ _ h => h, fun _ _ _ h => h⟩
theorem Ext.trans {K : PySem.W.Frag} {H H1 H2 : Hp} (a : Ext K H H1) (b : Ext K H1 H2) : Ext K H H2 := ⟨fun c o h => b.t c o (a.t c o h), fun c o u h => b.z c o u (a.z c o u h)⟩
section
variable {K : PySem.W.Frag} {H H' : Hp}
mutual
theorem Is.mono0 (e : Ext0 K H H') : ∀ {v : V} {d : D}, Is K H v d → Is K H' v d
  | _, _, .non => .non
  | _, _, .bl b => .bl b
  | _, _, .int i => .int i
  | _, _, .str x => .str x
  | _, _, .ref a => .ref a
  | _, _, .ty n => .ty n
  | _, _, .tup h hs => .tup (e.t _ _ h) (Iss.mono0 e hs)
  | _, _, .rol h hs => .rol (e.f _ _ h) (Iss.mono0 e hs)
theorem Iss.mono0 (e : Ext0 K H H') : ∀ {vs : List V} {ds : List D}, Iss K H vs ds → Iss K H' vs ds
  | _, _, .nil => .nil
  | _, _, .cons h t => .cons (Is.mono0 e h) (Iss.mono0 e t)
end
theorem Is.mono (e : Ext K H H') {v : V} {d : D} (h : Is K H v d) : Is K H' v d := h.mono0 e.e0
theorem Iss.mono (e : Ext K H H') {vs : List V} {ds : List D} (h : Iss K H vs ds) : Iss K H' vs ds := h.mono0 e.e0
theorem Iss.length : ∀ {ds : List D} {vs : List V}, Iss K H vs ds → vs.length = ds.length
  | [], _, h => by cases h; rfl
  | _ :: _, _, h => by
    cases h with
    | cons _ t => exact congrArg (· + 1) (Iss.length t)
theorem Iss.get : ∀ {vs : List V} {ds : List D} {i : Nat} {d : D}, Iss K H vs ds → ds[i]? = some d → ∃ v, vs[i]? = some v ∧ Is K H v d
  | _, _, _, _, .nil, e => by simp at e
  | _, _, 0, _, .cons h _, e => by simp at e; subst e; exact ⟨_, rfl, h⟩
  | _, _, i + 1, d, .cons _ t, e => by
    obtain ⟨u, h1, h2⟩ := Iss.get (i := i) (d := d) t (by simpa using e)
    exact ⟨u, by simpa using h1, h2⟩
theorem Iss.getV : ∀ {vs : List V} {ds : List D} {i : Nat} {v : V}, Iss K H vs ds → vs[i]? = some v → ∃ d, ds[i]? = some d ∧ Is K H v d
  | _, _, _, _, .nil, e => by simp at e
  | _, _, 0, _, .cons h _, e => by simp at e; subst e; exact ⟨_, rfl, h⟩
  | _, _, i + 1, v, .cons _ t, e => by
    obtain ⟨u, h1, h2⟩ := Iss.getV (i := i) (v := v) t (by simpa using e)
    exact ⟨u, by simpa using h1, h2⟩
theorem Iss.append {ws : List V} {es : List D} : ∀ {ds : List D} {vs : List V}, Iss K H vs ds → Iss K H ws es → Iss K H (vs ++ ws) (ds ++ es)
  | [], _, h, s => by cases h; exact s
  | _ :: _, _, h, s => by
    cases h with
    | cons r t => exact .cons r (Iss.append t s)
theorem Iss.take : ∀ {vs : List V} {ds : List D} (n : Nat), Iss K H vs ds → Iss K H (vs.take n) (ds.take n)
  | _, _, 0, _ => .nil
  | _, _, _ + 1, .nil => .nil
  | _, _, n + 1, .cons r t => .cons r (Iss.take n t)
theorem Iss.drop : ∀ {vs : List V} {ds : List D} (n : Nat), Iss K H vs ds → Iss K H (vs.drop n) (ds.drop n)
  | _, _, 0, r => r
  | _, _, _ + 1, .nil => .nil
  | _, _, n + 1, .cons _ t => Iss.drop n t
theorem Iss.set {x : V} {d : D} (r : Is K H x d) : ∀ {vs : List V} {ds : List D} (i : Nat), Iss K H vs ds → Iss K H (vs.set i x) (ds.set i d)
  | _, _, _, .nil => .nil
  | _, _, 0, .cons _ t => .cons r t
  | _, _, i + 1, .cons q t => .cons q (Iss.set r i t)
end
inductive MO where
  | lst (ds : List D) | dic (kvs : List (Key × D)) | fdc (kvs : List (Key × D)) | ins (C dx : Addr) (fs : List (Str × D)) | exc (cls : Value) | tdc (hf : List Key → Int) (kvs : List (List Key × D))
noncomputable def TDic (a : Addr) (hf : List Key → Int) (xs : List (List Key × Addr × Value)) : Heap → Prop := fun h => ∃ o es ep, h.get? a = some o ∧ o.ExactDict ∧ o.data = .dict es ep ∧ es.toList = xs.map (fun x => (⟨hf x.1, .ref x.2.1, x.2.2⟩ : DictEntry))
noncomputable abbrev TDRel (K : PySem.W.Frag) (H : Hp) : List (List Key × D) → List (List Key × Addr × Value) → Prop := Paired fun (q : List Key × D) (x : List Key × Addr × Value) => q.1 = x.1 ∧ SqT K H x.2.1 (q.1.map kV) ∧ ∃ v, RelV v x.2.2 ∧ Is K H v q.2
noncomputable abbrev DH := Addr → Option MO
noncomputable def updM (M : DH) (a : Addr) (o : MO) : DH := fun b => if b = a then some o else M b
theorem updM_same {M : DH} {a : Addr} {o : MO} : updM M a o a = some o := by unfold updM; rw [if_pos rfl]
theorem updM_ne {M : DH} {a b : Addr} {o : MO} (h : b ≠ a) : updM M a o b = M b := by unfold updM; rw [if_neg h]
theorem updM_upd {M : DH} {a : Addr} {o u : MO} : updM (updM M a o) a u = updM M a u := by
  funext b; unfold updM; split <;> rfl
noncomputable def MOk (K : PySem.W.Frag) (H : Hp) (a : Addr) : MO → Prop
  | .lst ds => ∃ xs, H a = some (.lst xs) ∧ Iss K H xs ds
  | .dic kvs => ∃ kx, H a = some (.dK kx) ∧ Paired (fun (p : Key × V) (q : Key × D) => p.1 = q.1 ∧ Is K H p.2 q.2) kx kvs
  | .fdc kvs => ∃ o kx, H a = some (.frz o (.dK kx)) ∧ Paired (fun (p : Key × V) (q : Key × D) => p.1 = q.1 ∧ Is K H p.2 q.2) kx kvs
  | .ins C dx fs => ∃ fx, H a = some (.ins C dx fx) ∧ H dx = some (.own a) ∧ Paired (fun (p : Str × V) (q : Str × D) => p.1 = q.1 ∧ Is K H p.2 q.2) fx fs
  | .exc cls => ∃ φ, H a = some (.ext φ) ∧ ∀ h, φ h → ∃ ob, h.get? a = some ob ∧ ob.cls = cls
  | .tdc hf kvs => ∃ xs, H a = some (.ext (TDic a hf xs)) ∧ TDRel K H kvs xs ∧ (a == sysModules) = false ∧ kvs.length ≤ sizeLine ∧ (kvs.map (·.1)).Nodup
noncomputable def HAbs (K : PySem.W.Frag) (M : DH) (H : Hp) : Prop := ∀ a o, M a = some o → MOk K H a o
noncomputable def Sub (M M' : DH) : Prop := ∀ a o, M a = some o → M' a = some o
theorem Sub.refl (M : DH) : Sub M M := fun _ _ h => h
theorem Sub.trans {M M1 M2 : DH} (a : Sub M M1) (b : Sub M1 M2) : Sub M M2 := fun c o h => b c o (a c o h)
theorem Sub.new {M : DH} {p : Addr} {o : MO} (h : M p = none) : Sub M (updM M p o) := fun a u e => by
  rw [updM_ne (by intro z; subst z; rw [h] at e; cases e)]; exact e
section
variable {K : PySem.W.Frag} {M M' : DH} {H H' : Hp} {a p : Addr}
theorem HAbs.sub (h : HAbs K M H) (s : Sub M' M) : HAbs K M' H := fun a o e => h a o (s a o e)
theorem HAbs.free (h : HAbs K M H) (e : H p = none) : M p = none := by
  cases q : M p with
  | none => rfl
  | some o =>
    have z := h p o q
    cases o with
    | lst ds => obtain ⟨xs, z, _⟩ := z; rw [e] at z; cases z
    | dic kvs => obtain ⟨xs, z, _⟩ := z; rw [e] at z; cases z
    | fdc kvs => obtain ⟨o, xs, z, _⟩ := z; rw [e] at z; cases z
    | ins C dx fs => obtain ⟨xs, z, _⟩ := z; rw [e] at z; cases z
    | exc cls => obtain ⟨φ, z, _⟩ := z; rw [e] at z; cases z
    | tdc hf kvs => obtain ⟨xs, z, _⟩ := z; rw [e] at z; cases z
theorem ext_upd {o : HO} (h : ∀ xs, ¬ Rd H p (.tup xs)) (h' : ∀ o u, H p ≠ some (.frz o u)) : Ext K H (upd H p o) := ⟨fun a xs s => by
  rcases s with s | s
  · refine .inl ?_
    have hne : a ≠ p := by intro z; subst z; exact h xs s
    rcases s with s | ⟨u, s⟩
    · exact .inl (by rw [upd_ne hne]; exact s)
    · exact .inr ⟨u, by rw [upd_ne hne]; exact s⟩
  · exact .inr s, fun a u x s => by rw [upd_ne (by intro z; subst z; exact h' u x s)]; exact s⟩
theorem ext_new {o : HO} (h : H p = none) : Ext K H (upd H p o) := ext_upd (fun xs s => by
  rcases s with s | ⟨u, s⟩ <;> rw [h] at s <;> cases s) (fun u xs s => by rw [h] at s; cases s)
noncomputable abbrev LstAt (M : DH) (a : Addr) (ds : List D) : Prop := M a = some (.lst ds)
theorem HAbs.lst {ds : List D} (h : HAbs K M H) (e : LstAt M a ds) : ∃ xs, SqL K H a xs ∧ Iss K H xs ds := by
  obtain ⟨xs, h1, h2⟩ := h a _ e; exact ⟨xs, .inl (.inl h1), h2⟩
theorem _root_.PySem.Paired.impP {α β : Type} {F G : α → β → Prop} (f : ∀ a b, F a b → G a b) {l₁ : List α} {l₂ : List β} (h : Paired F l₁ l₂) : Paired G l₁ l₂ := by
  induction h with
  | nil => exact .nil
  | cons r t ih => exact .cons (f _ _ r) ih
theorem MOk.mono {o : MO} (e : Ext0 K H H') (hk : ∀ u, H a = some u → H' a = some u) (ho : ∀ dx, H dx = some (.own a) → H' dx = some (.own a)) (h : MOk K H a o) : MOk K H' a o := by
  cases o with
  | lst ds => obtain ⟨xs, h1, h2⟩ := h; exact ⟨xs, hk _ h1, h2.mono0 e⟩
  | dic kvs => obtain ⟨xs, h1, h2⟩ := h; exact ⟨xs, hk _ h1, h2.impP fun p q ⟨r1, r2⟩ => ⟨r1, r2.mono0 e⟩⟩
  | fdc kvs => obtain ⟨o, xs, h1, h2⟩ := h; exact ⟨o, xs, hk _ h1, h2.impP fun p q ⟨r1, r2⟩ => ⟨r1, r2.mono0 e⟩⟩
  | ins C dx fs => obtain ⟨xs, h1, h3, h2⟩ := h; exact ⟨xs, hk _ h1, ho _ h3, h2.impP fun p q ⟨r1, r2⟩ => ⟨r1, r2.mono0 e⟩⟩
  | exc cls => obtain ⟨φ, h1, h2⟩ := h; exact ⟨φ, hk _ h1, h2⟩
  | tdc hf kvs => obtain ⟨xs, h1, h2, h3⟩ := h; exact ⟨xs, hk _ h1, h2.impP fun p q ⟨r1, r2, v, r3, r4⟩ => ⟨r1, e.t _ _ r2, v, r3, r4.mono0 e⟩, h3⟩
theorem HAbs.new {o : HO} (h : HAbs K M H) (e : H p = none) : HAbs K M (upd H p o) := fun a u q =>
  (h a u q).mono (ext_new e).e0 (fun v z => by rw [upd_ne (ne_of_none z e)]; exact z) (fun dx z => by rw [upd_ne (ne_of_none z e)]; exact z)
theorem HAbs.newM {o : HO} {m : MO} (h : HAbs K M H) (e : H p = none) (hm : MOk K (upd H p o) p m) : HAbs K (updM M p m) (upd H p o) := fun a u q => by
  by_cases z : a = p
  · subst z; rw [updM_same] at q; cases q; exact hm
  · rw [updM_ne z] at q; exact h.new e a u q
theorem HAbs.newL {es : List D} {ys : List V} (h : HAbs K M H) (e : H p = none) (i : Iss K H ys es) : HAbs K (updM M p (.lst es)) (upd H p (.lst ys)) := h.newM e (show MOk K _ p (.lst es) from ⟨ys, upd_same, i.mono (ext_new e)⟩)
theorem HAbs.setL {ds es : List D} {xs ys : List V} (h : HAbs K M H) (e : M p = some (.lst ds)) (hx : H p = some (.lst xs)) (hy : Iss K H ys es) :
    HAbs K (updM M p (.lst es)) (upd H p (.lst ys)) ∧ Ext K H (upd H p (.lst ys)) := by
  have ex : Ext K H (upd H p (.lst ys)) := ext_upd (fun zs s => by rcases s with s | ⟨u, s⟩ <;> rw [hx] at s <;> cases s) (fun u xs s => by rw [hx] at s; cases s)
  refine ⟨fun a u q => ?_, ex⟩
  by_cases z : a = p
  · subst z; rw [updM_same] at q; cases q; exact ⟨ys, upd_same, hy.mono ex⟩
  · rw [updM_ne z] at q
    exact (h a u q).mono ex.e0 (fun v w => by rw [upd_ne z]; exact w) (fun dx w => by rw [upd_ne (ne_of w hx (by intro k; cases k))]; exact w)
end
noncomputable abbrev DSt := List (Option D)
noncomputable abbrev KD := D → DH → Prop
noncomputable abbrev TEd := DSt → DH → KD → Prop
noncomputable abbrev TTd := DSt → DH → (Bool → DH → Prop) → Prop
noncomputable abbrev TAd := DSt → DH → (List D → DH → Prop) → Prop
structure EndsD where
  nx : DSt → DH → Prop
  rt : KD
  bk : DSt → DH → Prop := fun _ _ => False
  ct : DSt → DH → Prop := fun _ _ => False
noncomputable abbrev TSd := EndsD → DSt → DH → Prop
noncomputable def SAbs (K : PySem.W.Frag) (τ : DSt) (σ : St) (H : Hp) : Prop := τ.length = σ.length ∧ ∀ (i : Nat) d, τ[i]? = some (some d) → ∃ v, σ[i]? = some (some v) ∧ Is K H v d
theorem SAbs.mono0 {K : PySem.W.Frag} {τ : DSt} {σ : St} {H H' : Hp} (e : Ext0 K H H') (h : SAbs K τ σ H) : SAbs K τ σ H' :=
  ⟨h.1, fun i d q => let ⟨v, h1, h2⟩ := h.2 i d q; ⟨v, h1, h2.mono0 e⟩⟩
theorem SAbs.mono {K : PySem.W.Frag} {τ : DSt} {σ : St} {H H' : Hp} (e : Ext K H H') (h : SAbs K τ σ H) : SAbs K τ σ H' := h.mono0 e.e0
theorem SAbs.set {K : PySem.W.Frag} {τ : DSt} {σ : St} {H : Hp} {i : Nat} {v : V} {d : D} (h : SAbs K τ σ H) (r : Is K H v d) : SAbs K (τ.set i (some d)) (σ.set i (some v)) H := by
  refine ⟨by rw [List.length_set, List.length_set]; exact h.1, fun j e q => ?_⟩
  rw [List.getElem?_set] at q
  by_cases hj : i = j
  · subst hj
    rw [if_pos rfl] at q
    by_cases hl : i < τ.length
    · rw [if_pos hl] at q
      cases q
      exact ⟨v, by rw [List.getElem?_set, if_pos rfl, if_pos (by rw [← h.1]; exact hl)], r⟩
    · rw [if_neg hl] at q; cases q
  · rw [if_neg hj] at q
    obtain ⟨u, h1, h2⟩ := h.2 j e q
    exact ⟨u, by rw [List.getElem?_set, if_neg hj]; exact h1, h2⟩
noncomputable def lowQ (K : PySem.W.Frag) (H : Hp) (Q' : KD) (Q : VK) : Prop := ∀ d M1 v H1, HAbs K M1 H1 → Ext K H H1 → Is K H1 v d → Q' d M1 → Q v H1
noncomputable def low (K : PySem.W.Frag) (te : TEd) : TE := fun σ H Q => ∃ τ M Q', SAbs K τ σ H ∧ HAbs K M H ∧ te τ M Q' ∧ lowQ K H Q' Q
noncomputable def lowT (K : PySem.W.Frag) (te : TTd) : TT := fun σ H Q => ∃ τ M Q', SAbs K τ σ H ∧ HAbs K M H ∧ te τ M Q' ∧ ∀ b M1 H1, HAbs K M1 H1 → Ext K H H1 → Q' b M1 → Q b H1
noncomputable def lowA (K : PySem.W.Frag) (te : TAd) : TA := fun σ H Q => ∃ τ M Q', SAbs K τ σ H ∧ HAbs K M H ∧ te τ M Q' ∧ ∀ ds M1 vs H1, HAbs K M1 H1 → Ext K H H1 → Iss K H1 vs ds → Q' ds M1 → Q vs H1
structure LowD (K : PySem.W.Frag) (H : Hp) (D' : EndsD) (D : Ends) : Prop where
  nx : ∀ τ M σ H1, SAbs K τ σ H1 → HAbs K M H1 → Ext K H H1 → D'.nx τ M → D.nx σ H1
  rt : lowQ K H D'.rt D.rt
  bk : ∀ τ M σ H1, SAbs K τ σ H1 → HAbs K M H1 → Ext K H H1 → D'.bk τ M → D.bk σ H1
  ct : ∀ τ M σ H1, SAbs K τ σ H1 → HAbs K M H1 → Ext K H H1 → D'.ct τ M → D.ct σ H1
noncomputable def lowS (K : PySem.W.Frag) (t : TSd) : TS := fun D σ H => ∃ τ M D', SAbs K τ σ H ∧ HAbs K M H ∧ t D' τ M ∧ LowD K H D' D
theorem lowQ.ext {K : PySem.W.Frag} {H H' : Hp} {Q' : KD} {Q : VK} (h : lowQ K H Q' Q) (e : Ext K H H') : lowQ K H' Q' Q := fun d M1 v H1 a b c q => h d M1 v H1 a (e.trans b) c q
theorem LowD.ext {K : PySem.W.Frag} {H H' : Hp} {D' : EndsD} {D : Ends} (h : LowD K H D' D) (e : Ext K H H') : LowD K H' D' D :=
  ⟨fun τ M σ H1 a b c q => h.nx τ M σ H1 a b (e.trans c) q, h.rt.ext e, fun τ M σ H1 a b c q => h.bk τ M σ H1 a b (e.trans c) q, fun τ M σ H1 a b c q => h.ct τ M σ H1 a b (e.trans c) q⟩
section
variable {X : Cx} {e a b c : Expr} {es : List Expr} {pos : Pos}
theorem _root_.L2.PE.imp {t t' : TE} (h : PE X e t) (hi : ∀ σ H Q, t' σ H Q → t σ H Q) : PE X e t' := fun pins s σ H Q I q => h pins s σ H Q I (hi _ _ _ q)
theorem _root_.L2.PT.imp {t t' : TT} (h : PT X e t) (hi : ∀ σ H Q, t' σ H Q → t σ H Q) : PT X e t' := fun pins s σ H Q I q => h pins s σ H Q I (hi _ _ _ q)
theorem _root_.L2.PW.imp {t t' : TT} (h : PW X e t) (hi : ∀ σ H Q, t' σ H Q → t σ H Q) : PW X e t' := fun wh pins s σ H Q I q => h wh pins s σ H Q I (hi _ _ _ q)
theorem _root_.L2.PA.imp {t t' : TA} (h : PA X es t) (hi : ∀ σ H Q, t' σ H Q → t σ H Q) : PA X es t' := fun p pins s σ H Q I q => h p pins s σ H Q I (hi _ _ _ q)
theorem _root_.L2.PS.imp {st : Stmt} {t t' : TS} (h : PS X st t) (hi : ∀ D σ H, t' D σ H → t D σ H) : PS X st t' := fun pins s σ H D I q => h pins s σ H D I (hi _ _ _ q)
theorem _root_.L2.PSs.imp {st : List Stmt} {t t' : TS} (h : PSs X st t) (hi : ∀ D σ H, t' D σ H → t D σ H) : PSs X st t' := fun pins s σ H D I q => h pins s σ H D I (hi _ _ _ q)
noncomputable def onBl : D → (Bool → Prop) → Prop
  | .bl k, Q => Q k
  | _, _ => False
noncomputable def onInt : D → (Int → Prop) → Prop
  | .int i, Q => Q i
  | _, _ => False
noncomputable def onVal : Option (Option D) → (D → Prop) → Prop
  | some (some d), Q => Q d
  | _, _ => False
noncomputable def onSome {α : Type} : Option α → (α → Prop) → Prop
  | some a, Q => Q a
  | none, _ => False
theorem onVal_some {o : Option (Option D)} {Q : D → Prop} (h : onVal o Q) : ∃ d, o = some (some d) ∧ Q d := by
  match o, h with
  | some (some d), h => exact ⟨d, rfl, h⟩
noncomputable def eVar (i : Nat) : TEd := fun τ M Q => onVal τ[i]? fun d => Q d M
noncomputable def eC (d : D) : TEd := fun _ M Q => Q d M
theorem d_var (i : Nat) {x : Str} (hN : X.N[i]? = some x := by rfl) (hv : Vis X.env.scope x := by first | exact Or.inl rfl | exact Or.inr (Or.inl rfl) | exact Or.inr (Or.inr rfl)) (hd : (x == ("__debug__" : Str)) = false := by decide)
    (hcd : (x == ("__classdict__" : Str)) = false := by decide) : PE X (.Name x pos) (low X.K (eVar i)) :=
  (pe_var hN hv hd hcd).imp fun σ H Q ⟨τ, M, Q', hs, hm, h, hq⟩ => by
    obtain ⟨d, hd', h⟩ := onVal_some h
    obtain ⟨v, h1, h2⟩ := hs.2 i d hd'
    exact ⟨v, h1, hq d M v H hm (Ext.refl H) h2 h⟩
theorem low_const {d : D} {v : V} (hv : ∀ H, Is X.K H v d) {σ : St} {H : Hp} {Q : VK} (h : low X.K (eC d) σ H Q) : tC v σ H Q :=
  let ⟨_, M, _, _, hm, q, hq⟩ := h; hq d M v H hm (Ext.refl H) (hv H) q
theorem d_int {i j} : PE X (.Constant (.int i) j pos) (low X.K (eC (.int i))) := pe_int.imp fun _ _ _ h => low_const (fun _ => .int i) h
theorem d_bl {b j} : PE X (.Constant (.bool b) j pos) (low X.K (eC (.bl b))) := pe_bl.imp fun _ _ _ h => low_const (fun _ => .bl b) h
theorem d_non {j} : PE X (.Constant .none j pos) (low X.K (eC .non)) := pe_non.imp fun _ _ _ h => low_const (fun _ => .non) h
theorem d_str {x j} : PE X (.Constant (.str x) j pos) (low X.K (eC (.str x))) := pe_str.imp fun _ _ _ h => low_const (fun _ => .str x) h
theorem d_glob_int {x : Str} {i : Int} {u : Value} (hg : Gl X x) (hm : X.mg x = some u) (r : ∃ t, u = Value.int i t) (hd : (x == ("__debug__" : Str)) = false := by decide) : PE X (.Name x pos) (low X.K (eC (.int i))) :=
  (pe_glob (v := .int i) hg hm r hd).imp fun _ _ _ h => low_const (fun _ => .int i) h
noncomputable abbrev RD2 := D → D → DH → KD → Prop
noncomputable def lowR2 (K : PySem.W.Frag) (r : RD2) : R2 := fun vx vy H Q => ∃ x y M Q', Is K H vx x ∧ Is K H vy y ∧ HAbs K M H ∧ r x y M Q' ∧ lowQ K H Q' Q
noncomputable def OpD (X : Cx) (f : Value → Value → Sem Value) (r : RD2) : Prop := OpR X f (lowR2 X.K r)
noncomputable def eOp (r : RD2) (ta tb : TEd) : TEd := fun τ M Q => ta τ M fun x M1 => tb τ M1 fun y M2 => r x y M2 Q
theorem low_op {K : PySem.W.Frag} {r : RD2} {ta tb : TEd} {σ : St} {H : Hp} {Q : VK} (h : low K (eOp r ta tb) σ H Q) : tOp (lowR2 K r) (low K ta) (low K tb) σ H Q := by
  obtain ⟨τ, M, Q', hs, hm, h, hq⟩ := h
  refine ⟨τ, M, _, hs, hm, h, fun x M1 vx H1 m1 e1 i1 h1 => ?_⟩
  refine ⟨τ, M1, _, hs.mono e1, m1, h1, fun y M2 vy H2 m2 e2 i2 h2 => ?_⟩
  exact ⟨x, y, M2, Q', i1.mono e2, i2, m2, h2, hq.ext (e1.trans e2)⟩
variable {ta tb tc : TEd}
theorem d_op {op : Operator} {r : RD2} (ho : OpD X (binaryOp op) r) (ha : PE X a (low X.K ta)) (hb : PE X b (low X.K tb)) : PE X (.BinOp a op b pos) (low X.K (eOp r ta tb)) :=
  (pe_op ho ha hb).imp fun _ _ _ h => low_op h
theorem d_cmp {op : CmpOp} {r : RD2} (ho : OpD X (compareOp op) r) (ha : PE X a (low X.K ta)) (hb : PE X b (low X.K tb)) (hm : behindInMarks op b = false) : PE X (.Compare a [op] [b] pos) (low X.K (eOp r ta tb)) :=
  (pe_cmpR ho ha hb hm).imp fun _ _ _ h => low_op h
noncomputable def eTest (t : TEd) : TTd := fun τ M Q => t τ M fun x M' => onBl x fun k => Q k M'
theorem dt_cmp {op : CmpOp} {r : RD2} (ho : OpD X (compareOp op) r) (ha : PE X a (low X.K ta)) (hb : PE X b (low X.K tb)) (hm : behindInMarks op b = false) : PT X (.Compare a [op] [b] pos) (lowT X.K (eTest (eOp r ta tb))) := by
  refine (pt_cmpR ho ha hb hm).imp fun σ H Q h => ?_
  obtain ⟨τ, M, Q', hs, hm', h, hq⟩ := h
  refine low_op ⟨τ, M, _, hs, hm', h, fun d M1 v H1 m1 e1 i1 h1 => ?_⟩
  cases i1 with
  | bl k => exact ⟨k, rfl, hq k M1 H1 m1 e1 h1⟩
  | _ => exact h1.elim
noncomputable def eChain (r r' : RD2) (ta tb tc : TEd) : TEd := fun τ M Q => ta τ M fun x M1 => tb τ M1 fun y M2 => r x y M2 fun z M3 => onBl z fun k => if k = true then tc τ M3 fun w' M4 => r' y w' M4 Q else Q (.bl false) M3
theorem low_chain {K : PySem.W.Frag} {r r' : RD2} {ta tb tc : TEd} {σ : St} {H : Hp} {Q : VK} (h : low K (eChain r r' ta tb tc) σ H Q) : tChain (lowR2 K r) (lowR2 K r') (low K ta) (low K tb) (low K tc) σ H Q := by
  obtain ⟨τ, M, Q', hs, hm, h, hq⟩ := h
  refine ⟨τ, M, _, hs, hm, h, fun x M1 vx H1 m1 e1 i1 h1 => ?_⟩
  refine ⟨τ, M1, _, hs.mono e1, m1, h1, fun y M2 vy H2 m2 e2 i2 h2 => ?_⟩
  refine ⟨x, y, M2, _, i1.mono e2, i2, m2, h2, fun z M3 vz H3 m3 e3 i3 h3 => ?_⟩
  cases i3 with
  | bl k =>
    refine ⟨k, rfl, ?_⟩
    cases k with
    | true =>
      rw [if_pos rfl]
      have h3 : tc τ M3 fun w' M4 => r' y w' M4 Q' := h3
      refine ⟨τ, M3, _, hs.mono (e1.trans (e2.trans e3)), m3, h3, fun w M4 vw H4 m4 e4 i4 h4 => ?_⟩
      exact ⟨y, w, M4, Q', i2.mono (e3.trans e4), i4, m4, h4, hq.ext (e1.trans (e2.trans (e3.trans e4)))⟩
    | false =>
      rw [if_neg Bool.false_ne_true]
      have h3 : Q' (.bl false) M3 := h3
      exact hq _ M3 _ H3 m3 (e1.trans (e2.trans e3)) (.bl false) h3
  | _ => exact h3.elim
theorem d_chain {op op' : CmpOp} {r r' : RD2} (ho : OpD X (compareOp op) r) (ho' : OpD X (compareOp op') r') (ha : PE X a (low X.K ta)) (hb : PE X b (low X.K tb)) (hc : PE X c (low X.K tc))
    (hm : lastMarks [op, op'] [b, c] = false := by with_unfolding_all rfl) : PE X (.Compare a [op, op'] [b, c] pos) (low X.K (eChain r r' ta tb tc)) :=
  (pe_chain ho ho' ha hb hc hm).imp fun _ _ _ h => low_chain h
theorem dt_chain {op op' : CmpOp} {r r' : RD2} (ho : OpD X (compareOp op) r) (ho' : OpD X (compareOp op') r') (ha : PE X a (low X.K ta)) (hb : PE X b (low X.K tb)) (hc : PE X c (low X.K tc))
    (hm : lastMarks [op, op'] [b, c] = false := by with_unfolding_all rfl) : PT X (.Compare a [op, op'] [b, c] pos) (lowT X.K (eTest (eChain r r' ta tb tc))) := by
  refine (pt_chain ho ho' ha hb hc hm).imp fun σ H Q h => ?_
  obtain ⟨τ, M, Q', hs, hm', h, hq⟩ := h
  refine low_chain ⟨τ, M, _, hs, hm', h, fun d M1 v H1 m1 e1 i1 h1 => ?_⟩
  cases i1 with
  | bl k => exact ⟨k, rfl, hq k M1 H1 m1 e1 h1⟩
  | _ => exact h1.elim
end
end DL
namespace DL
open PySem PySem.Spec PyProof.Rows L2
section
variable {X : Cx} {e a b c : Expr} {es : List Expr} {pos : Pos} {ta tb tc : TEd}
theorem lowQ.here {K : PySem.W.Frag} {H : Hp} {Q' : KD} {Q : VK} {M : DH} {d : D} {v : V} (hq : lowQ K H Q' Q) (hm : HAbs K M H) (i : Is K H v d) (q : Q' d M) : Q v H := hq d M v H hm (Ext.refl H) i q
noncomputable def dI (g : Int → Int → D) : D → D → DH → KD → Prop
  | .int i, .int j, M, Q => Q (g i j) M
  | _, _, _, _ => False
noncomputable def dIC (C : Int → Int → Prop) (g : Int → Int → D) : D → D → DH → KD → Prop
  | .int i, .int j, M, Q => C i j ∧ Q (g i j) M
  | _, _, _, _ => False
theorem dI_inv {g : Int → Int → D} {x y : D} {M : DH} {Q : KD} (q : dI g x y M Q) : ∃ i j, x = .int i ∧ y = .int j ∧ Q (g i j) M := by
  cases x with
  | int i => cases y with
    | int j => exact ⟨i, j, rfl, rfl, q⟩
    | _ => exact q.elim
  | _ => exact q.elim
theorem dIC_inv {C : Int → Int → Prop} {g : Int → Int → D} {x y : D} {M : DH} {Q : KD} (q : dIC C g x y M Q) : ∃ i j, x = .int i ∧ y = .int j ∧ C i j ∧ Q (g i j) M := by
  cases x with
  | int i => cases y with
    | int j => exact ⟨i, j, rfl, rfl, q⟩
    | _ => exact q.elim
  | _ => exact q.elim
theorem od_I {f : Value → Value → Sem Value} {g : Int → Int → Int} (h : OpR X f (rI0 fun i j => .int (g i j))) : OpD X f (dI fun i j => .int (g i j)) := by
  rintro pins s σ H vx vy v u Q I rx ry ⟨x, y, M, Q', ix, iy, hm, q, hq⟩
  obtain ⟨i, j, rfl, rfl, q⟩ := dI_inv q
  exact h pins s σ H _ _ v u Q I rx ry ⟨_, _, ix.inv, iy.inv, hq.here hm (.int _) q⟩
theorem od_IC {f : Value → Value → Sem Value} {C : Int → Int → Prop} {g : Int → Int → Int} (h : OpR X f (rI C fun i j => .int (g i j))) : OpD X f (dIC C fun i j => .int (g i j)) := by
  rintro pins s σ H vx vy v u Q I rx ry ⟨x, y, M, Q', ix, iy, hm, q, hq⟩
  obtain ⟨i, j, rfl, rfl, q⟩ := dIC_inv q
  exact h pins s σ H _ _ v u Q I rx ry ⟨_, _, ix.inv, iy.inv, q.1, hq.here hm (.int _) q.2⟩
theorem od_B {f : Value → Value → Sem Value} {g : Int → Int → Bool} (h : OpR X f (rI0 fun i j => .bl (g i j))) : OpD X f (dI fun i j => .bl (g i j)) := by
  rintro pins s σ H vx vy v u Q I rx ry ⟨x, y, M, Q', ix, iy, hm, q, hq⟩
  obtain ⟨i, j, rfl, rfl, q⟩ := dI_inv q
  exact h pins s σ H _ _ v u Q I rx ry ⟨_, _, ix.inv, iy.inv, hq.here hm (.bl _) q⟩
theorem od_sub : OpD X (binaryOp .Sub) (dI fun i j => .int (i - j)) := od_I op_sub
theorem od_mod : OpD X (binaryOp .Mod) (dIC (fun _ j => 0 < j) fun i j => .int (i % j)) := od_IC op_mod
theorem od_fdiv : OpD X (binaryOp .FloorDiv) (dIC CDiv fun i j => .int (i / j)) := od_IC op_fdiv
theorem od_pow : OpD X (binaryOp .Pow) (dIC CPow fun i j => .int (i ^ j.toNat)) := od_IC op_pow
theorem od_lt : OpD X (compareOp .Lt) (dI fun i j => .bl (decide (i < j))) := od_B op_lt
theorem od_gt : OpD X (compareOp .Gt) (dI fun i j => .bl (decide (j < i))) := od_B op_gt
theorem od_ge : OpD X (compareOp .GtE) (dI fun i j => .bl (decide (j ≤ i))) := od_B op_ge
theorem cat_tup0 {t b : Addr} {ws : List Value} {prog : Program} {w : World} {A : Around} {E : Value → Shared → Prop} {s : Shared} {Q : Value → Shared → Prop} (ht : IsTup s.heap t #[]) (hb : IsTup s.heap b ws.toArray)
    (h : Q (.ref b) s) : wpAny (model prog w) A (binaryOp .Add (.ref t) (.ref b)) Q E s := by
  obtain ⟨⟨cls, dd, data, sl⟩, ho, hc, n, hd⟩ := id ht
  obtain ⟨⟨cls2, dd2, data2, sl2⟩, ho2, hc2, n2, hd2⟩ := id hb
  simp only at hc hd hc2 hd2
  subst hc hd hc2 hd2
  exact concat_meets ⟨_, ho, rfl⟩ ⟨_, ho2, rfl⟩ noFill_tuple_add seq_tuple_add PySem.F.slot_tuple_add PySem.F.entry_tuple_add (PySem.F.args_tuple_add_2 _ _)
      (tuple_addW0 t b #[] ws.toArray n n2 dd dd2 sl sl2 (by simp)) ⟨ho, ho2, h⟩
noncomputable def addD : D → D → DH → KD → Prop
  | .int i, .int j, M, Q => Q (.int (i + j)) M
  | .str i, .str j, M, Q => i.length + j.length ≤ sizeLine ∧ Q (.str (i ++ j)) M
  | .tup xs, .tup ys, M, Q => xs.length + ys.length ≤ sizeLine ∧ Q (.tup (xs ++ ys)) M
  | .ref l, .ref r, M, Q => ∃ xs ys, LstAt M l xs ∧ LstAt M r ys ∧ xs.length + ys.length ≤ sizeLine ∧ ∀ p, M p = none → Q (.ref p) (updM M p (.lst (xs ++ ys)))
  | .rol xs, .ref r, M, Q => ∃ ys, LstAt M r ys ∧ xs.length + ys.length ≤ sizeLine ∧ ∀ p, M p = none → Q (.ref p) (updM M p (.lst (xs ++ ys)))
  | _, _, _, _ => False
theorem add_lists {pins : List (Addr × Obj)} {σ : St} {H : Hp} {s : Shared} {M : DH} {Q' : KD} {Q : VK} {l r : Addr} {us ws : List V} {xs ys : List D} (I : Inv X pins σ H s) (hm : HAbs X.K M H) (hu : SqL X.K H l us) (i1 : Iss X.K H us xs) (hw : SqL X.K H r ws) (i2 : Iss X.K H ws ys)
    (hz : xs.length + ys.length ≤ sizeLine) (q : ∀ p, M p = none → Q' (.ref p) (updM M p (.lst (xs ++ ys)))) (hq : lowQ X.K H Q' Q) : wpAny (model X.prog X.w) X.A (binaryOp .Add (.ref l) (.ref r)) (EP X pins σ Q) X.xe s := by
  obtain ⟨its, r1, p1, _⟩ := I.list hu
  obtain ⟨its2, r2, p2, _⟩ := I.list hw
  obtain ⟨⟨cls, dd, data, sl⟩, ho, hc, n, hd⟩ := p1.isList
  obtain ⟨⟨cls2, dd2, data2, sl2⟩, ho2, hc2, n2, hd2⟩ := p2.isList
  simp only at hc hd hc2 hd2
  subst hc hd hc2 hd2
  have hz' : its.toArray.size + its2.toArray.size ≤ sizeLine := by
    rw [List.size_toArray, List.size_toArray, ← r1.length, ← r2.length, i1.length, i2.length]; exact hz
  have ea : its.toArray ++ its2.toArray = (its ++ its2).toArray := by simp
  refine concat_meets ⟨_, ho, rfl⟩ ⟨_, ho2, rfl⟩ noFill_list_add seq_list_add PySem.F.slot_list_add PySem.F.entry_list_add (PySem.F.args_list_add_2 _ _) (list_addW l r its.toArray its2.toArray n n2 dd dd2 sl sl2 hz') ⟨ho, ho2, ?_⟩
  rw [ea]
  have hf : H s.heap.objs.size = none := I.fresh
  refine ⟨.ref _, _, I.lnew (t' := s.toks) (r1.append r2) (by rw [List.length_append, i1.length, i2.length]; exact hz), rfl, ?_⟩
  exact hq _ _ _ _ (hm.newL hf (i1.append i2)) (ext_new hf) (.ref _) (q _ (hm.free hf))
theorem od_add : OpD X (binaryOp .Add) addD := by
  rintro pins s σ H vx vy v u Q I rx ry ⟨x, y, M, Q', ix, iy, hm, q, hq⟩
  cases ix with
  | int i => cases iy with
    | int j => exact op_add pins s σ H _ _ v u Q I rx ry ⟨_, _, rfl, rfl, hq.here hm (.int _) q⟩
    | _ => exact q.elim
  | str i => cases iy with
    | str j => exact op_add_str pins s σ H _ _ v u Q I rx ry ⟨_, _, rfl, rfl, q.1, hq.here hm (.str _) q.2⟩
    | _ => exact q.elim
  | @tup a xs ds hx hxs => cases iy with
    | @tup b ys es hy hys =>
      obtain ⟨hz, q⟩ := q
      have hz' : xs.length + ys.length ≤ sizeLine := by rw [hxs.length, hys.length]; exact hz
      by_cases h0 : xs = []
      · subst h0
        cases hxs
        cases rx
        cases ry
        obtain ⟨its, r1, p1, _⟩ := I.tuple hx
        obtain ⟨its2, r2, p2, _⟩ := I.tuple hy
        cases r1
        exact cat_tup0 p1 p2 ⟨.ref b, H, I, rfl, hq.here hm (.tup hy hys) q⟩
      · refine op_catT pins s σ H _ _ v u Q I rx ry ⟨a, b, xs, ys, rfl, rfl, hx, hy, h0, hz', fun z => ?_, fun z p hp => ?_⟩
        · subst z
          cases hys
          rw [List.append_nil] at q
          exact hq.here hm (.tup hx hxs) q
        · exact hq _ M _ _ (hm.new hp) (ext_new hp) (.tup (SqT.of upd_same) ((hxs.append hys).mono (ext_new hp))) q
    | _ => exact q.elim
  | ref l => cases iy with
    | ref r =>
      obtain ⟨xs, ys, hl, hr, hz, q⟩ := q
      cases rx
      cases ry
      obtain ⟨us, hu, i1⟩ := hm.lst hl
      obtain ⟨ws, hw, i2⟩ := hm.lst hr
      exact add_lists I hm hu i1 hw i2 hz q hq
    | _ => exact q.elim
  | rol h hxs => cases iy with
    | ref r =>
      obtain ⟨ys, hr, hz, q⟩ := q
      cases rx
      cases ry
      obtain ⟨ws, hw, i2⟩ := hm.lst hr
      exact add_lists I hm h.sq hxs hw i2 hz q hq
    | _ => exact q.elim
  | _ => exact q.elim
mutual
noncomputable def D.eq : D → D → Bool
  | .non, .non => true
  | .bl a, .bl b => a == b
  | .bl a, .int j => (if a then 1 else 0) == j
  | .int i, .bl b => i == (if b then 1 else 0)
  | .int i, .int j => i == j
  | .str x, .str y => x == y
  | .tup xs, .tup ys => D.eqs xs ys
  | _, _ => false
noncomputable def D.eqs : List D → List D → Bool
  | [], [] => true
  | x :: xs, y :: ys => D.eq x y && D.eqs xs ys
  | _, _ => false
end
mutual
noncomputable def D.dep : D → Nat
  | .tup ds => D.deps ds + 1
  | _ => 0
noncomputable def D.deps : List D → Nat
  | [] => 0
  | d :: ds => max (D.dep d) (D.deps ds)
end
mutual
noncomputable def D.pure : D → Bool
  | .ref _ => false
  | .tup ds => D.pures ds
  | _ => true
noncomputable def D.pures : List D → Bool
  | [] => true
  | d :: ds => D.pure d && D.pures ds
end
end
end DL
namespace DL
open PySem PySem.Spec PyProof.Rows L2
@[simp] noncomputable def D.plain : D → Bool
  | .non => true
  | .bl _ => true
  | .int _ => true
  | .str _ => true
  | _ => false
theorem nof {P : Prop} (h : false = true) : P := nomatch h
mutual
noncomputable def D.eqOk : D → D → Bool
  | .tup xs, .tup ys => D.eqOks xs ys
  | x, y => x.plain && y.plain
noncomputable def D.eqOks : List D → List D → Bool
  | x :: xs, y :: ys => D.eqOk x y && D.eqOks xs ys
  | _, _ => true
end
noncomputable def pairEq (xs ys : List D) (j : Nat) : Bool := match xs[j]?, ys[j]? with
  | some x, some y => D.eq x y
  | _, _ => true
theorem eqs_all : ∀ xs ys : List D, ((List.range (min xs.length ys.length)).all (pairEq xs ys) && xs.length == ys.length) = D.eqs xs ys
  | [], [] => rfl
  | [], y :: ys => rfl
  | x :: xs, [] => rfl
  | x :: xs, y :: ys => by
    have ih := eqs_all xs ys
    have e1 : min (x :: xs).length (y :: ys).length = min xs.length ys.length + 1 := by simp [Nat.succ_min_succ]
    rw [e1, List.range_succ_eq_map, List.all_cons, List.all_map]
    have e2 : (pairEq (x :: xs) (y :: ys)) ∘ Nat.succ = pairEq xs ys := by funext j; simp [pairEq]
    rw [e2]
    have e3 : pairEq (x :: xs) (y :: ys) 0 = D.eq x y := rfl
    have e4 : ((x :: xs).length == (y :: ys).length) = (xs.length == ys.length) := by simp
    rw [e3, e4, Bool.and_assoc, ih]
    rfl
theorem eqOks_get : ∀ {xs ys : List D} {j : Nat} {x y : D}, D.eqOks xs ys = true → xs[j]? = some x → ys[j]? = some y → D.eqOk x y = true
  | x :: xs, y :: ys, 0, _, _, h, e1, e2 => by
    simp at e1 e2; subst e1 e2
    simp only [D.eqOks, Bool.and_eq_true] at h; exact h.1
  | x :: xs, y :: ys, j + 1, _, _, h, e1, e2 => by
    simp only [D.eqOks, Bool.and_eq_true] at h
    exact eqOks_get (j := j) h.2 (by simpa using e1) (by simpa using e2)
  | [], _, _, _, _, _, e1, _ => by simp at e1
  | _ :: _, [], _, _, _, _, _, e2 => by simp at e2
theorem deps_get : ∀ {xs : List D} {j : Nat} {x : D}, xs[j]? = some x → D.dep x ≤ D.deps xs
  | x :: xs, 0, _, e => by simp at e; subst e; simp only [D.deps]; (first | lia | omega)
  | x :: xs, j + 1, _, e => by
    have := deps_get (xs := xs) (j := j) (by simpa using e)
    simp only [D.deps]; (first | lia | omega)
  | [], _, _, e => by simp at e
theorem eq_refl_aux : ∀ n : Nat, (∀ d d' : D, D.dep d ≤ n → D.eqOk d d' = true → d = d' → D.eq d d' = true) := by
  intro n
  induction n with
  | zero =>
    intro d d' h ok e
    subst e
    cases d with
    | tup ds => simp [D.dep] at h
    | ref a => exact nof ok
    | ty a => exact nof ok
    | rol a => exact nof ok
    | non => rfl
    | bl b => exact decide_eq_true rfl
    | int i => exact decide_eq_true rfl
    | str x => exact decide_eq_true rfl
  | succ n ih =>
    intro d d' h ok e
    subst e
    cases d with
    | tup ds =>
      simp only [D.dep] at h
      replace ok : D.eqOks ds ds = true := ok
      show D.eqs ds ds = true
      have : ∀ xs : List D, D.deps xs ≤ n → D.eqOks xs xs = true → D.eqs xs xs = true := by
        intro xs
        induction xs with
        | nil => intros; rfl
        | cons x xs ihx =>
          intro h1 h2
          simp only [D.deps] at h1
          simp only [D.eqOks, Bool.and_eq_true] at h2
          exact Bool.and_eq_true_iff.mpr ⟨ih x x (by (first | lia | omega)) h2.1 rfl, ihx (by (first | lia | omega)) h2.2⟩
      exact this ds (by (first | lia | omega)) ok
    | ref a => exact nof ok
    | ty a => exact nof ok
    | rol a => exact nof ok
    | non => rfl
    | bl b => exact decide_eq_true rfl
    | int i => exact decide_eq_true rfl
    | str x => exact decide_eq_true rfl
mutual
theorem Is.inj' {X : Cx} {pins : List (Addr × Obj)} {σ : St} {H : Hp} {s : Shared} (I : Inv X pins σ H s) : ∀ (d : D) {v : V} {d' : D}, Is X.K H v d → Is X.K H v d' → D.eqOk d d' = true → d = d'
  | .non, _, _, i, j, _ => by cases i; cases j; rfl
  | .bl _, _, _, i, j, _ => by cases i; cases j; rfl
  | .int _, _, _, i, j, _ => by cases i; cases j; rfl
  | .str _, _, _, i, j, _ => by cases i; cases j; rfl
  | .ref _, _, _, _, _, h => nof h
  | .ty _, _, _, _, _, h => nof h
  | .rol _, _, _, _, _, h => nof h
  | .tup ds, _, _, i, j, h => by
    cases i with
    | tup h1 i1 => cases j with
      | tup h2 i2 =>
        cases I.tuple_inj h1 h2
        exact congrArg D.tup (Iss.inj' I ds i1 i2 h)
      | ref _ => exact nof h
      | rol _ _ => exact nof h
theorem Iss.inj' {X : Cx} {pins : List (Addr × Obj)} {σ : St} {H : Hp} {s : Shared} (I : Inv X pins σ H s) : ∀ (ds : List D) {vs : List V} {es : List D}, Iss X.K H vs ds → Iss X.K H vs es → D.eqOks ds es = true → ds = es
  | [], _, _, i, j, _ => by cases i; cases j; rfl
  | d :: ds, _, _, i, j, h => by
    cases i with
    | cons i1 t1 => cases j with
      | cons i2 t2 =>
        have h := Bool.and_eq_true_iff.mp h
        rw [Is.inj' I d i1 i2 h.1, Iss.inj' I ds t1 t2 h.2]
end
theorem Is.inj {X : Cx} {pins : List (Addr × Obj)} {σ : St} {H : Hp} {s : Shared} (I : Inv X pins σ H s) {v : V} {d d' : D} (i : Is X.K H v d) (j : Is X.K H v d') (h : D.eqOk d d' = true) : d = d' := Is.inj' I d i j h
noncomputable def D.sv : D → V
  | .bl b => .bl b
  | .int i => .int i
  | .str x => .str x
  | _ => .non
theorem Is.sv {K : PySem.W.Frag} {H : Hp} {v : V} {d : D} (i : Is K H v d) (p : d.plain = true) : v = d.sv ∧ flatV d.sv = true := by
  cases i <;> first | exact ⟨rfl, rfl⟩ | exact nof p
theorem sv_eq : ∀ d d' : D, d.plain = true → d'.plain = true → eqV d.sv d'.sv = D.eq d d' := by
  intro d d' p p'
  cases d <;> first | exact nof p | (cases d' <;> first | exact nof p' | rfl)
theorem eqOk_plain {d d' : D} (ok : D.eqOk d d' = true) (nt : D.dep d = 0) : d.plain = true ∧ d'.plain = true := by
  cases d <;> first | exact Bool.and_eq_true_iff.mp ok | exact absurd nt (Nat.succ_ne_zero _)
theorem flat_eq {K : PySem.W.Frag} {H : Hp} {v v' : V} {d d' : D} (i : Is K H v d) (i' : Is K H v' d') (ok : D.eqOk d d' = true) (nt : D.dep d = 0) : flatV v = true ∧ flatV v' = true ∧ eqV v v' = D.eq d d' := by
  obtain ⟨p, p'⟩ := eqOk_plain ok nt
  obtain ⟨e, f⟩ := i.sv p
  obtain ⟨e', f'⟩ := i'.sv p'
  rw [e, e']
  exact ⟨f, f', sv_eq d d' p p'⟩
theorem in1_units (A : Around) : A.in1.units = A.units + 1 := rfl
theorem eqAt_D {X : Cx} {pins : List (Addr × Obj)} {σ : St} {H : Hp} {s : Shared} (I : Inv X pins σ H s) : ∀ (n : Nat) (d d' : D) (A : Around) (v v' : V) (u u' : Value), D.dep d ≤ n → A.units + n < cLine → D.eqOk d d' = true →
    Is X.K H v d → Is X.K H v' d' → RelV v u → RelV v' u' → SeqAt.EqAt A s u u' (D.eq d d') ∧ (D.dep d ≠ 0 → SeqAt.RcAt A s u u' (D.eq d d') ∧ SeqAt.RcNeAt A s u u' (!D.eq d d')) := by
  intro n
  induction n with
  | zero =>
    intro d d' A v v' u u' hd hu ok i i' r r'
    obtain ⟨f1, f2, f3⟩ := flat_eq i i' ok (by (first | lia | omega))
    rw [← f3]
    exact ⟨eqAt_V r r' f1 f2, fun z => absurd (by (first | lia | omega)) z⟩
  | succ n ih =>
    intro d d' A v v' u u' hd hu ok i i' r r'
    by_cases h0 : D.dep d = 0
    · obtain ⟨f1, f2, f3⟩ := flat_eq i i' ok h0
      rw [← f3]
      exact ⟨eqAt_V r r' f1 f2, fun z => absurd h0 z⟩
    · cases i with
      | @tup a xs ds hx hxs =>
        cases i' with
        | @tup b ys es hy hys =>
          cases r
          cases r'
          obtain ⟨its, r1, p1, _⟩ := I.tuple hx
          obtain ⟨its2, r2, p2, _⟩ := I.tuple hy
          have n1 : its.toArray.size = ds.length := by rw [List.size_toArray, ← r1.length, hxs.length]
          have n2 : its2.toArray.size = es.length := by rw [List.size_toArray, ← r2.length, hys.length]
          simp only [D.dep] at hd
          have he : ∀ j (h1 : j < its.toArray.size) (h2 : j < its2.toArray.size), SeqAt.EqAt A.in1 s its.toArray[j] its2.toArray[j] (pairEq ds es j) := by
            intro j h1 h2
            have q1 : ds[j]? = some ds[j] := List.getElem?_eq_getElem (by (first | lia | omega))
            have q2 : es[j]? = some es[j] := List.getElem?_eq_getElem (by (first | lia | omega))
            obtain ⟨x, ex, ix⟩ := hxs.get q1
            obtain ⟨y, ey, iy⟩ := hys.get q2
            obtain ⟨ux, eu, ru⟩ := r1.get ex
            obtain ⟨uy, ew, rw'⟩ := r2.get ey
            have g1 : its.toArray[j] = ux := by
              have : its[j]? = some its[j] := List.getElem?_eq_getElem (by simpa using h1)
              rw [this] at eu; simpa using eu
            have g2 : its2.toArray[j] = uy := by
              have : its2[j]? = some its2[j] := List.getElem?_eq_getElem (by simpa using h2)
              rw [this] at ew; simpa using ew
            rw [g1, g2]
            have pe : pairEq ds es j = D.eq ds[j] es[j] := by unfold pairEq; rw [q1, q2]
            rw [pe]
            have dg := deps_get q1
            exact (ih _ _ A.in1 x y ux uy (by (first | lia | omega)) (by rw [in1_units]; (first | lia | omega)) (eqOks_get (show D.eqOks ds es = true from ok) q1 q2) ix iy ru rw').1
          have hrc : SeqAt.RcAt A s (.ref a) (.ref b) (D.eqs ds es) := by
            rw [← eqs_all ds es, ← n1, ← n2]
            exact SeqAt.RcAt.tuples p1 p2 (by (first | lia | omega)) he
          have hne : SeqAt.RcNeAt A s (.ref a) (.ref b) (!D.eqs ds es) := by
            rw [← eqs_all ds es, ← n1, ← n2]
            exact SeqAt.RcNeAt.tuples p1 p2 (by (first | lia | omega)) he
          refine ⟨?_, fun _ => ⟨hrc, hne⟩⟩
          by_cases hab : a = b
          · subst hab
            have e := Is.inj I (.tup hx hxs) (.tup hy hys) ok
            rw [eq_refl_aux _ _ _ (Nat.le_refl _) ok e]
            exact SeqAt.EqAt.same _
          · exact SeqAt.EqAt.of_refs hab hrc
        | _ => exact nof ok
      | _ => exact absurd rfl h0
section
variable {X : Cx}
noncomputable def eqD : D → D → DH → KD → Prop
  | .ref l, .ref r, M, Q => ∃ xs ys, LstAt M l xs ∧ LstAt M r ys ∧ (xs = [] ∨ ys = []) ∧ Q (.bl (xs.isEmpty && ys.isEmpty)) M
  | .tup xs, .tup ys, M, Q => D.eqOks xs ys = true ∧ D.deps xs ≤ 150 ∧ Q (.bl (D.eqs xs ys)) M
  | .int i, .int j, M, Q => Q (.bl (decide (i = j))) M
  | .str i, .str j, M, Q => Q (.bl (decide (i = j))) M
  | .bl i, .bl j, M, Q => Q (.bl (decide (i = j))) M
  | .non, .non, M, Q => Q (.bl true) M
  | _, _, _, _ => False
noncomputable def neD : D → D → DH → KD → Prop
  | .ref l, .ref r, M, Q => ∃ xs ys, LstAt M l xs ∧ LstAt M r ys ∧ (xs = [] ∨ ys = []) ∧ Q (.bl (!(xs.isEmpty && ys.isEmpty))) M
  | .tup xs, .tup ys, M, Q => D.eqOks xs ys = true ∧ D.deps xs ≤ 150 ∧ Q (.bl (!D.eqs xs ys)) M
  | .int i, .int j, M, Q => Q (.bl (!decide (i = j))) M
  | .str i, .str j, M, Q => Q (.bl (!decide (i = j))) M
  | .bl i, .bl j, M, Q => Q (.bl (!decide (i = j))) M
  | _, _, _, _ => False
theorem dV_int {i j : Int} : decide (V.int i = V.int j) = decide (i = j) := by by_cases h : i = j <;> simp [h]
theorem dV_str {i j : Str} : decide (V.str i = V.str j) = decide (i = j) := by by_cases h : i = j <;> simp [h]
theorem dV_bl {i j : Bool} : decide (V.bl i = V.bl j) = decide (i = j) := by by_cases h : i = j <;> simp [h]
theorem list_two {xs ys : List D} (h : xs = [] ∨ ys = []) : (xs.length = ys.length ∧ xs = [] ∧ ys = []) ∨ (xs.length ≠ ys.length ∧ (xs.isEmpty && ys.isEmpty) = false) := by
  cases xs with
  | nil => cases ys with
    | nil => exact .inl ⟨rfl, rfl, rfl⟩
    | cons y ys => exact .inr ⟨by simp, rfl⟩
  | cons x xs => cases ys with
    | nil => exact .inr ⟨by simp, rfl⟩
    | cons y ys => rcases h with h | h <;> cases h
theorem od_eq {k : Nat} (hr : Room k X.A) : OpD X (compareOp .Eq) eqD := by
  rintro pins s σ H vx vy v u Q I rx ry ⟨x, y, M, Q', ix, iy, hm, q, hq⟩
  have hu : X.A.units + 200 < cLine := by have := hr.un; (first | lia | omega)
  cases ix with
  | non => cases iy with
    | non => exact op_eq pins s σ H _ _ v u Q I rx ry ⟨rfl, hq.here hm (.bl _) (by have q' : Q' (.bl true) M := q; simpa using q')⟩
    | _ => exact q.elim
  | int i => cases iy with
    | int j => exact op_eq pins s σ H _ _ v u Q I rx ry ⟨rfl, hq.here hm (.bl _) (by rw [dV_int]; exact q)⟩
    | _ => exact q.elim
  | str i => cases iy with
    | str j => exact op_eq pins s σ H _ _ v u Q I rx ry ⟨rfl, hq.here hm (.bl _) (by rw [dV_str]; exact q)⟩
    | _ => exact q.elim
  | bl i => cases iy with
    | bl j => exact op_eq pins s σ H _ _ v u Q I rx ry ⟨rfl, hq.here hm (.bl _) (by rw [dV_bl]; exact q)⟩
    | _ => exact q.elim
  | ty n => exact q.elim
  | rol h hxs => first | exact q.elim | (cases iy <;> exact q.elim)
  | @tup a xs ds hx hxs => cases iy with
    | @tup b ys es hy hys =>
      obtain ⟨ok, dp, q⟩ := q
      have z := (eqAt_D I 151 (.tup ds) (.tup es) X.A (.ref a) (.ref b) v u (Nat.succ_le_succ dp) (by (first | lia | omega)) ok (.tup hx hxs) (.tup hy hys) rx ry).2 (Nat.succ_ne_zero _)
      exact z.1 _ _ _ _ ⟨.bl _, H, I, rfl, hq.here hm (.bl _) q⟩
    | _ => exact q.elim
  | ref l => cases iy with
    | ref r =>
      obtain ⟨xs, ys, hl, hr', hz, q⟩ := q
      cases rx
      cases ry
      obtain ⟨us, hu1, i1⟩ := hm.lst hl
      obtain ⟨ws, hw, i2⟩ := hm.lst hr'
      obtain ⟨its, r1, p1, _⟩ := I.list hu1
      obtain ⟨its2, r2, p2, _⟩ := I.list hw
      have n1 : its.toArray.size = xs.length := by rw [List.size_toArray, ← r1.length, i1.length]
      have n2 : its2.toArray.size = ys.length := by rw [List.size_toArray, ← r2.length, i2.length]
      rcases list_two hz with ⟨he, h1, h2⟩ | ⟨hn, hb⟩
      · subst h1 h2
        refine SeqAt.eq_listAt (e := fun _ => true) p1.isList p2.isList (by rw [n1, n2]) (by (first | lia | omega)) (fun j h1 => absurd h1 (by rw [n1]; simp)) ⟨.bl _, H, I, rfl, hq.here hm (.bl _) ?_⟩
        rw [n1]
        simpa using q
      · rw [hb] at q
        exact SeqAt.eq_list_lengthsAt p1.isList p2.isList (by rw [n1, n2]; simpa using hn) (by (first | lia | omega)) ⟨.bl _, H, I, rfl, hq.here hm (.bl _) q⟩
    | _ => exact q.elim
theorem od_ne {k : Nat} (hr : Room k X.A) : OpD X (compareOp .NotEq) neD := by
  rintro pins s σ H vx vy v u Q I rx ry ⟨x, y, M, Q', ix, iy, hm, q, hq⟩
  have hu : X.A.units + 200 < cLine := by have := hr.un; (first | lia | omega)
  cases ix with
  | non => exact q.elim
  | int i => cases iy with
    | int j => exact op_ne pins s σ H _ _ v u Q I rx ry ⟨rfl, hq.here hm (.bl _) (by rw [dV_int]; exact q)⟩
    | _ => exact q.elim
  | str i => cases iy with
    | str j => exact op_ne pins s σ H _ _ v u Q I rx ry ⟨rfl, hq.here hm (.bl _) (by rw [dV_str]; exact q)⟩
    | _ => exact q.elim
  | bl i => cases iy with
    | bl j => exact op_ne pins s σ H _ _ v u Q I rx ry ⟨rfl, hq.here hm (.bl _) (by rw [dV_bl]; exact q)⟩
    | _ => exact q.elim
  | ty n => exact q.elim
  | rol h hxs => first | exact q.elim | (cases iy <;> exact q.elim)
  | @tup a xs ds hx hxs => cases iy with
    | @tup b ys es hy hys =>
      obtain ⟨ok, dp, q⟩ := q
      have z := (eqAt_D I 151 (.tup ds) (.tup es) X.A (.ref a) (.ref b) v u (Nat.succ_le_succ dp) (by (first | lia | omega)) ok (.tup hx hxs) (.tup hy hys) rx ry).2 (Nat.succ_ne_zero _)
      exact z.2 _ _ _ _ ⟨.bl _, H, I, rfl, hq.here hm (.bl _) q⟩
    | _ => exact q.elim
  | ref l => cases iy with
    | ref r =>
      obtain ⟨xs, ys, hl, hr', hz, q⟩ := q
      cases rx
      cases ry
      obtain ⟨us, hu1, i1⟩ := hm.lst hl
      obtain ⟨ws, hw, i2⟩ := hm.lst hr'
      obtain ⟨its, r1, p1, _⟩ := I.list hu1
      obtain ⟨its2, r2, p2, _⟩ := I.list hw
      have n1 : its.toArray.size = xs.length := by rw [List.size_toArray, ← r1.length, i1.length]
      have n2 : its2.toArray.size = ys.length := by rw [List.size_toArray, ← r2.length, i2.length]
      rcases list_two hz with ⟨he, h1, h2⟩ | ⟨hn, hb⟩
      · subst h1 h2
        refine SeqAt.RcNeAt.lists (e := fun _ => true) p1.isList p2.isList (by rw [n1, n2]) (by (first | lia | omega)) (fun j h1 => absurd h1 (by rw [n1]; simp)) _ _ _ _ ⟨.bl _, H, I, rfl, hq.here hm (.bl _) ?_⟩
        rw [n1]
        simpa using q
      · rw [hb] at q
        exact SeqAt.RcNeAt.lists_lengths p1.isList p2.isList (by rw [n1, n2]; simpa using hn) (by (first | lia | omega)) _ _ _ _ ⟨.bl _, H, I, rfl, hq.here hm (.bl _) q⟩
    | _ => exact q.elim
end
end DL
namespace DL
open PySem PySem.Spec PyProof.Rows L2
section
variable {X : Cx} {e a b c : Expr} {es : List Expr} {pos : Pos} {ta tb tc te : TEd} {t : TAd}
noncomputable def eNil : TAd := fun _ M Q => Q [] M
noncomputable def eCons (ta : TEd) (tr : TAd) : TAd := fun τ M Q => ta τ M fun x M1 => tr τ M1 fun xs M2 => Q (x :: xs) M2
theorem a_nil : PA X [] (lowA X.K eNil) := pa_nil.imp fun σ H Q ⟨τ, M, Q', hs, hm, h, hq⟩ => hq [] M [] H hm (Ext.refl H) .nil h
theorem a_cons (ha : PE X e (low X.K te)) (hr : PA X es (lowA X.K t)) (hs : starEach (e :: es) X.env = (false, eval e X.env) :: starEach es X.env := by rfl) : PA X (e :: es) (lowA X.K (eCons te t)) :=
  (pa_cons ha hr hs).imp fun σ H Q ⟨τ, M, Q', hs, hm, h, hq⟩ =>
    ⟨τ, M, _, hs, hm, h, fun x M1 vx H1 m1 e1 i1 h1 => ⟨τ, M1, _, hs.mono e1, m1, h1, fun xs M2 vs H2 m2 e2 i2 h2 => hq (x :: xs) M2 (vx :: vs) H2 m2 (e1.trans e2) (.cons (i1.mono e2) i2) h2⟩⟩
noncomputable def eTup (t : TAd) : TEd := fun τ M Q => t τ M fun xs M1 => if xs.length ≤ 1000 then Q (.tup xs) M1 else False
noncomputable def eLst (t : TAd) : TEd := fun τ M Q => t τ M fun xs M1 => if xs.length ≤ 1000 then ∀ p, M1 p = none → Q (.ref p) (updM M1 p (.lst xs)) else False
theorem line1000 {n : Nat} (h : n ≤ 1000) : n ≤ sizeLine := Nat.le_of_lt (small1000 h)
theorem d_tup {x1} (h : PA X es (lowA X.K t)) : PE X (.Tuple es x1 pos) (low X.K (eTup t)) :=
  (pe_tup h).imp fun σ H Q ⟨τ, M, Q', hs, hm, h, hq⟩ => ⟨τ, M, _, hs, hm, h, fun xs M1 vs H1 m1 e1 i1 h1 => by
    by_cases hl : xs.length ≤ 1000
    · rw [if_pos hl] at h1
      refine ⟨by rw [i1.length]; exact line1000 hl, fun p hp => ?_⟩
      exact hq _ M1 _ _ (m1.new hp) (e1.trans (ext_new hp)) (.tup (SqT.of upd_same) (i1.mono (ext_new hp))) h1
    · rw [if_neg hl] at h1; exact h1.elim⟩
theorem d_lst (h : PA X es (lowA X.K t)) : PE X (.List es pos) (low X.K (eLst t)) :=
  (pe_lst h).imp fun σ H Q ⟨τ, M, Q', hs, hm, h, hq⟩ => ⟨τ, M, _, hs, hm, h, fun xs M1 vs H1 m1 e1 i1 h1 => by
    by_cases hl : xs.length ≤ 1000
    · rw [if_pos hl] at h1
      refine ⟨by rw [i1.length]; exact line1000 hl, fun p hp => ?_⟩
      exact hq _ _ _ _ (m1.newL hp i1) (e1.trans (ext_new hp)) (.ref p) (h1 p (m1.free hp))
    · rw [if_neg hl] at h1; exact h1.elim⟩
noncomputable abbrev RC := List D → DH → KD → Prop
noncomputable def lowC (K : PySem.W.Frag) (r : RC) : List V → Hp → VK → Prop := fun vs H Q => ∃ ds M Q', Iss K H vs ds ∧ HAbs K M H ∧ r ds M Q' ∧ lowQ K H Q' Q
noncomputable def CallD (X : Cx) (f : Value) (r : RC) : Prop := CallR X f (lowC X.K r)
noncomputable def eCB (r : RC) (t : TAd) : TEd := fun τ M Q => t τ M fun ds M1 => r ds M1 Q
theorem low_cb {K : PySem.W.Frag} {r : RC} {t : TAd} {σ : St} {H : Hp} {Q : VK} (h : low K (eCB r t) σ H Q) : tCB (lowC K r) (lowA K t) σ H Q := by
  obtain ⟨τ, M, Q', hs, hm, h, hq⟩ := h
  exact ⟨τ, M, _, hs, hm, h, fun ds M1 vs H1 m1 e1 i1 h1 => ⟨ds, M1, Q', i1, m1, h1, hq.ext e1⟩⟩
variable {x : Str} {p : Pos} {id T : String} {r : RC}
theorem d_callB (hc : CallD X (.builtin id) r) (hg : Gl X x) (hm : X.mg x = none) (hv : bootBuiltins x = some (.builtin id)) (ha : PA X (e :: es) (lowA X.K t)) (hn : x ≠ "__name__" := by decide) (hdb : (x == ("__debug__" : Str)) = false := by decide)
    (he : starEach (e :: es) X.env = (false, eval e X.env) :: starEach es X.env := by rfl) (hpl : (backTo pos (starEach es X.env)).any (·.1) = false := by rfl) : PE X (.Call (.Name x p) (e :: es) [] pos) (low X.K (eCB r t)) :=
  (pe_callB hc hg hm hv ha hn hdb he hpl).imp fun _ _ _ h => low_cb h
theorem d_callTy (hc : CallD X (.type T) r) (hg : Gl X x) (hm : X.mg x = none) (hv : bootBuiltins x = some (.type T)) (ha : PA X (e :: es) (lowA X.K t)) (hn : x ≠ "__name__" := by decide) (hdb : (x == ("__debug__" : Str)) = false := by decide)
    (he : starEach (e :: es) X.env = (false, eval e X.env) :: starEach es X.env := by rfl) (hpl : (backTo pos (starEach es X.env)).any (·.1) = false := by rfl) : PE X (.Call (.Name x p) (e :: es) [] pos) (low X.K (eCB r t)) :=
  (pe_callTy hc hg hm hv ha hn hdb he hpl).imp fun _ _ _ h => low_cb h
theorem d_ty {n : String} (hg : Gl X x) (hm : X.mg x = none) (hv : bootBuiltins x = some (.type n)) (hn : x ≠ "__name__" := by decide) (hd : (x == ("__debug__" : Str)) = false := by decide) : PE X (.Name x pos) (low X.K (eC (.ty n))) :=
  (pe_bltn (v := .ty n) hg hm hv rfl hn hd).imp fun _ _ _ h => low_const (fun _ => .ty n) h
theorem iss1 {K : PySem.W.Frag} {H : Hp} {vs : List V} {d : D} (h : Iss K H vs [d]) : ∃ v, vs = [v] ∧ Is K H v d := by
  cases h with
  | cons i t => cases t; exact ⟨_, rfl, i⟩
theorem iss2 {K : PySem.W.Frag} {H : Hp} {vs : List V} {d d' : D} (h : Iss K H vs [d, d']) : ∃ v v', vs = [v, v'] ∧ Is K H v d ∧ Is K H v' d' := by
  cases h with
  | cons i t => obtain ⟨v', rfl, i'⟩ := iss1 t; exact ⟨_, _, rfl, i, i'⟩
noncomputable def lenD : List D → DH → KD → Prop
  | [.str z], M, Q => z.length ≤ sizeLine ∧ Q (.int z.length) M
  | [.tup xs], M, Q => Q (.int xs.length) M
  | [.rol xs], M, Q => Q (.int xs.length) M
  | [.ref l], M, Q => ∃ xs, LstAt M l xs ∧ Q (.int xs.length) M
  | _, _, _ => False
theorem cd_len : CallD X (.builtin "len") lenD := by
  rintro pins s σ H vs us Q I r ⟨ds, M, Q', iss, hm, q, hq⟩
  match ds, q, iss with
  | [.str z], q, iss =>
    obtain ⟨v, rfl, i⟩ := iss1 iss
    (first | cases i.inv | cases i)
    exact call_len_str pins s σ H _ us Q I r ⟨z, rfl, q.1, hq.here hm (.int _) q.2⟩
  | [.tup xs], q, iss =>
    obtain ⟨v, rfl, i⟩ := iss1 iss
    cases i with
    | tup h hs => exact call_len_seq pins s σ H _ us Q I r ⟨_, _, rfl, .inr h, hq.here hm (.int _) (by rw [hs.length]; exact q)⟩
  | [.rol xs], q, iss =>
    obtain ⟨v, rfl, i⟩ := iss1 iss
    cases i with
    | rol h hs => exact call_len_seq pins s σ H _ us Q I r ⟨_, _, rfl, .inl h.sq, hq.here hm (.int _) (by rw [hs.length]; exact q)⟩
  | [.ref l], q, iss =>
    obtain ⟨v, rfl, i⟩ := iss1 iss
    (first | cases i.inv | cases i)
    obtain ⟨xs, hl, q⟩ := q
    obtain ⟨ys, h, hs⟩ := hm.lst hl
    exact call_len_seq pins s σ H _ us Q I r ⟨_, _, rfl, .inl h, hq.here hm (.int _) (by rw [hs.length]; exact q)⟩
noncomputable def intD : List D → DH → KD → Prop
  | [.int i], M, Q => Q (.int i) M
  | [.bl k], M, Q => Q (.int (if k then 1 else 0)) M
  | _, _, _ => False
noncomputable def max2D : List D → DH → KD → Prop
  | [.int i, .int j], M, Q => Q (.int (if j > i then j else i)) M
  | _, _, _ => False
theorem cd_max2 (hc : X.calm = true) : CallD X (.builtin "max") max2D := by
  rintro pins s σ H vs us Q I r ⟨ds, M, Q', iss, hm, q, hq⟩
  match ds, q, iss with
  | [.int i, .int j], q, iss =>
    obtain ⟨v, v', rfl, h1, h2⟩ := iss2 iss
    (first | cases h1.inv | cases h1)
    (first | cases h2.inv | cases h2)
    exact call_max2 hc pins s σ H _ us Q I r ⟨_, _, rfl, hq.here hm (.int _) q⟩
noncomputable def min2D : List D → DH → KD → Prop
  | [.int i, .int j], M, Q => Q (.int (if j < i then j else i)) M
  | _, _, _ => False
noncomputable def tupleD : List D → DH → KD → Prop
  | [.tup xs], M, Q => Q (.tup xs) M
  | [.ref l], M, Q => ∃ xs, LstAt M l xs ∧ Q (.tup xs) M
  | _, _, _ => False
theorem cd_tuple : CallD X (.type "tuple") tupleD := by
  rintro pins s σ H vs us Q I r ⟨ds, M, Q', iss, hm, q, hq⟩
  match ds, q, iss with
  | [.tup xs], q, iss =>
    obtain ⟨v, rfl, i⟩ := iss1 iss
    cases i with
    | tup h hs => exact call_tuple_of pins s σ H _ us Q I r ⟨_, _, rfl, .inr ⟨h, hq.here hm (.tup h hs) q⟩⟩
  | [.ref l], q, iss =>
    obtain ⟨v, rfl, i⟩ := iss1 iss
    (first | cases i.inv | cases i)
    obtain ⟨xs, hl, q⟩ := q
    obtain ⟨ys, h, hs⟩ := hm.lst hl
    exact call_tuple_of pins s σ H _ us Q I r ⟨_, _, rfl, .inl ⟨h, fun p hp => hq _ M _ _ (hm.new hp) (ext_new hp) (.tup (SqT.of upd_same) (hs.mono (ext_new hp))) q⟩⟩
noncomputable def listD : List D → DH → KD → Prop
  | [.tup xs], M, Q => ∀ p, M p = none → Q (.ref p) (updM M p (.lst xs))
  | [.ref l], M, Q => ∃ xs, LstAt M l xs ∧ ∀ p, M p = none → Q (.ref p) (updM M p (.lst xs))
  | _, _, _ => False
theorem cd_list : CallD X (.type "list") listD := by
  rintro pins s σ H vs us Q I r ⟨ds, M, Q', iss, hm, q, hq⟩
  match ds, q, iss with
  | [.tup xs], q, iss =>
    obtain ⟨v, rfl, i⟩ := iss1 iss
    cases i with
    | tup h hs => exact call_list_of pins s σ H _ us Q I r ⟨_, _, rfl, .inr h, fun p hp => hq _ _ _ _ (hm.newL hp hs) (ext_new hp) (.ref p) (q p (hm.free hp))⟩
  | [.ref l], q, iss =>
    obtain ⟨v, rfl, i⟩ := iss1 iss
    (first | cases i.inv | cases i)
    obtain ⟨xs, hl, q⟩ := q
    obtain ⟨ys, h, hs⟩ := hm.lst hl
    exact call_list_of pins s σ H _ us Q I r ⟨_, _, rfl, .inl h, fun p hp => hq _ _ _ _ (hm.newL hp hs) (ext_new hp) (.ref p) (q p (hm.free hp))⟩
noncomputable def kinds : List String := ["NoneType", "bool", "int", "str", "tuple", "list"]
theorem atI_is {K : PySem.W.Frag} {H : Hp} {xs : List V} {ds : List D} {i : Int} {d : D} (h : Iss K H xs ds) (e : atI ds i = some d) : ∃ v, atI xs i = some v ∧ Is K H v d := by
  unfold atI at e ⊢
  rw [h.length]
  cases q : ixN ds.length i with
  | none => rw [q] at e; cases e
  | some j =>
    rw [q] at e
    exact h.get e
noncomputable def ixD : D → D → DH → KD → Prop
  | .tup ds, .int i, M, Q => onSome (atI ds i) fun d => Q d M
  | .rol ds, .int i, M, Q => onSome (atI ds i) fun d => Q d M
  | .str z, .int i, M, Q => z.length ≤ sizeLine ∧ ∃ k, atI z.cps.toList i = some k ∧ Q (.str ⟨#[k]⟩) M
  | .ref l, .int i, M, Q => ∃ ds d, LstAt M l ds ∧ atI ds i = some d ∧ Q d M
  | _, _, _, _ => False
noncomputable def IxD (X : Cx) (r : RD2) : Prop := IxR X (lowR2 X.K r)
theorem xd_ix : IxD X ixD := by
  rintro value slice pins s σ H vx vy v u Q I rx ry ⟨x, y, M, Q', ix, iy, hm, q, hq⟩ hs
  cases ix with
  | tup h hxs => cases iy with
    | int i =>
      rename_i ds
      cases q1 : atI ds i with
      | none => exact (show (onSome (atI ds i) fun d => Q' d M) → False from fun z => by rw [q1] at z; exact z) q |>.elim
      | some d =>
        replace q : Q' d M := (show (onSome (atI ds i) fun d => Q' d M) → Q' d M from fun z => by rw [q1] at z; exact z) q
        obtain ⟨v', e', i'⟩ := atI_is hxs q1
        exact ix_tup value slice pins s σ H _ _ v u Q I rx ry ⟨_, _, _, _, rfl, rfl, h, e', hq.here hm i' q⟩ hs
    | _ => exact q.elim
  | rol h hxs => cases iy with
    | int i =>
      rename_i ds
      cases q1 : atI ds i with
      | none => exact (show (onSome (atI ds i) fun d => Q' d M) → False from fun z => by rw [q1] at z; exact z) q |>.elim
      | some d =>
        replace q : Q' d M := (show (onSome (atI ds i) fun d => Q' d M) → Q' d M from fun z => by rw [q1] at z; exact z) q
        obtain ⟨v', e', i'⟩ := atI_is hxs q1
        exact ix_list value slice pins s σ H _ _ v u Q I rx ry ⟨_, _, _, _, rfl, rfl, h.sq, e', hq.here hm i' q⟩ hs
    | _ => exact q.elim
  | str z => cases iy with
    | int i =>
      obtain ⟨hz, k, hk, q⟩ := q
      exact ix_str value slice pins s σ H _ _ v u Q I rx ry ⟨_, _, _, rfl, rfl, hz, hk, hq.here hm (.str _) q⟩ hs
    | _ => exact q.elim
  | ref l => cases iy with
    | int i =>
      obtain ⟨ds, d, hl, hd, q⟩ := q
      obtain ⟨ys, h, hys⟩ := hm.lst hl
      obtain ⟨v', e', i'⟩ := atI_is hys hd
      exact ix_list value slice pins s σ H _ _ v u Q I rx ry ⟨_, _, _, _, rfl, rfl, h, e', hq.here hm i' q⟩ hs
    | _ => exact q.elim
  | _ => first | exact q.elim | (cases iy <;> exact q.elim)
theorem d_ix (ha : PE X a (low X.K ta)) (hb : PE X b (low X.K tb)) (hs : PlainIx b := by intro _ _; rfl) : PE X (.Subscript a b pos) (low X.K (eOp ixD ta tb)) :=
  (pe_ix (xd_ix (X := X)) ha hb hs).imp fun _ _ _ h => low_op h
end
end DL
namespace DL
open PySem PySem.Spec PyProof.Rows L2
section
variable {X : Cx} {e a b c : Expr} {es : List Expr} {pos : Pos} {ta tb tc te : TEd} {t : TAd}
noncomputable abbrev TOd := DSt → DH → (Option Int → DH → Prop) → Prop
noncomputable def lowO (K : PySem.W.Frag) (te : TOd) : TO := fun σ H Q => ∃ τ M Q', SAbs K τ σ H ∧ HAbs K M H ∧ te τ M Q' ∧ ∀ o M1 H1, HAbs K M1 H1 → Ext K H H1 → Q' o M1 → Q o H1
theorem _root_.L2.PO.imp {oe : Option Expr} {t t' : TO} (h : PO X oe t) (hi : ∀ σ H Q, t' σ H Q → t σ H Q) : PO X oe t' := fun pins s σ H Q I q => h pins s σ H Q I (hi _ _ _ q)
noncomputable def oNone : TOd := fun _ M Q => Q none M
noncomputable def oSome (t : TEd) : TOd := fun τ M Q => t τ M fun x M1 => onInt x fun i => Q (some i) M1
theorem o_none : PO X none (lowO X.K oNone) := po_none.imp fun σ H Q ⟨τ, M, Q', hs, hm, h, hq⟩ => hq none M H hm (Ext.refl H) h
theorem o_some (h : PE X e (low X.K te)) : PO X (some e) (lowO X.K (oSome te)) := (po_some h).imp fun σ H Q ⟨τ, M, Q', hs, hm, h, hq⟩ =>
  ⟨τ, M, _, hs, hm, h, fun x M1 v H1 m1 e1 i1 h1 => by
    cases i1 with
    | int i => exact ⟨i, rfl, hq (some i) M1 H1 m1 e1 h1⟩
    | _ => exact h1.elim⟩
noncomputable def cutD {α : Type} (xs : List α) (lo hi : Option Int) : List α := (xs.drop (HT.sIx xs.length 0 lo)).take (HT.sIx xs.length xs.length hi - HT.sIx xs.length 0 lo)
noncomputable abbrev RSl := D → Option Int → Option Int → DH → KD → Prop
noncomputable def lowSl (K : PySem.W.Frag) (r : RSl) : V → Option Int → Option Int → Hp → VK → Prop := fun v lo hi H Q => ∃ x M Q', Is K H v x ∧ HAbs K M H ∧ r x lo hi M Q' ∧ lowQ K H Q' Q
noncomputable def SlD (X : Cx) (r : RSl) : Prop := SlR X (lowSl X.K r)
noncomputable def eSl (r : RSl) (te : TEd) (tl th : TOd) : TEd := fun τ M Q => te τ M fun x M1 => tl τ M1 fun l M2 => th τ M2 fun u M3 => r x l u M3 Q
theorem d_sl {r : RSl} {lo hi : Option Expr} {tl th : TOd} {p2 : Pos} (hr : SlD X r) (he : PE X e (low X.K te)) (hl : PO X lo (lowO X.K tl)) (hu : PO X hi (lowO X.K th)) : PE X (.Subscript e (.Slice lo hi none p2) pos) (low X.K (eSl r te tl th)) :=
  (pe_slice hr he hl hu).imp fun σ H Q ⟨τ, M, Q', hs, hm, h, hq⟩ =>
    ⟨τ, M, _, hs, hm, h, fun x M1 v H1 m1 e1 i1 h1 => ⟨τ, M1, _, hs.mono e1, m1, h1, fun l M2 H2 m2 e2 h2 => ⟨τ, M2, _, hs.mono (e1.trans e2), m2, h2, fun u M3 H3 m3 e3 h3 =>
      ⟨x, M3, Q', i1.mono (e2.trans e3), m3, h3, hq.ext (e1.trans (e2.trans e3))⟩⟩⟩⟩
theorem getItem_tuple_whole {prog : Program} {w : World} {A : Around} {E : Value → Shared → Prop} {s : Shared} {t sl : Addr} {items : Array Value} {vl vu : Value} {lo hi : Option Int} {Q : Value → Shared → Prop} (ht : IsTup s.heap t items) (hs : s.heap.IsSliceOf sl vl vu .none) (pl : IsPart vl lo) (pu : IsPart vu hi)
    (hw : HT.sIx items.size 0 lo = 0 ∧ HT.sIx items.size items.size hi = items.size)
    (h : Q (.ref t) s) : wpAny (model prog w) A (getItem (.ref t) (.ref sl)) Q E s := by
  obtain ⟨os, hos, hcs, hds⟩ := id hs
  have hTs : s.TypeIs (.ref sl) "slice" := ⟨os, hos, hcs⟩
  unfold getItem
  try with_reducible refine wpAny_holding ?_
  first | refine wpAny_bind (wpAny_pure ?_) | skip
  refine wpAny_bind (wpAny_sequenceKey ht.typeIs (by decide) ?_)
  refine wpAny_bind (wpAny_callSpecial?_slot (name := Str.ofString "__getitem__") ht.typeIs PyProof.Rows.slot_tuple_getitem
    (wpAny_call_entry PyProof.Rows.slot_tuple_getitem ht.typeIs entry_tuple_getitem ?_ (args_tuple_getitem _ _)))
  show wpAny _ _ (Builtin.Tuple.tupleItemsOf (.ref t) >>= _) _ _ s
  refine wpAny_bind (tupleItemsOf_ ht ?_)
  refine wpAny_bind (wpAny_typeOf hTs ?_)
  rw [if_pos (by decide)]
  refine wpAny_bind (HT.sliceApplied_gen hs pl pu ?_)
  have hyes : (((HT.sIx items.size 0 lo : Nat) : Int) == 0 && (1 : Int) == 1 && (HT.sIx items.size items.size hi - HT.sIx items.size 0 lo) == items.size) = true := by
    rw [hw.1, hw.2]; simp
  show wpAny _ _ (if (((HT.sIx items.size 0 lo : Nat) : Int) == 0 && (1 : Int) == 1 && (HT.sIx items.size items.size hi - HT.sIx items.size 0 lo) == items.size) = true then _ else _) _ _ s
  rw [if_pos hyes]
  refine wpAny_bind ?_
  have ex : wpAny (model prog w) A.in1 (Builtin.Tuple.tupleIsExact (.ref t)) (fun a s' => a = true ∧ s' = s) E s := by
    unfold Builtin.Tuple.tupleIsExact
    first
      | exact wpAny_bind (wpAny_typeOf ht.typeIs (wpAny_pure ⟨by decide, rfl⟩))
      | exact wpAny_bind (wpAny_typeOf ht.typeIs ⟨by decide, rfl⟩)
  refine wpAny_mono ex (fun a s' zz0 => ?_) fun _ _ z => z
  obtain ⟨ea, es⟩ := zz0
  subst ea es
  rw [if_pos rfl]
  first
    | exact wpAny_bind (wpAny_rule (wpAny_pure ⟨_, rfl, h⟩))
    | exact wpAny_bind (wpAny_rule (wpAny_pure ⟨_, rfl, wpAny_pure h⟩))
    | exact wpAny_bind (wpAny_rule (wpAny_bind (wpAny_pure (wpAny_pure ⟨_, rfl, h⟩))))
    | exact wpAny_bind (wpAny_rule (wpAny_bind (wpAny_pure (wpAny_pure ⟨_, rfl, wpAny_pure h⟩))))
noncomputable def slD : D → Option Int → Option Int → DH → KD → Prop
  | .tup xs, lo, hi, M, Q => Q (.tup (cutD xs lo hi)) M
  | .ref l, lo, hi, M, Q => ∃ xs, LstAt M l xs ∧ ∀ p, M p = none → Q (.ref p) (updM M p (.lst (cutD xs lo hi)))
  | .rol xs, lo, hi, M, Q => ∀ p, M p = none → Q (.ref p) (updM M p (.lst (cutD xs lo hi)))
  | .str z, lo, hi, M, Q => z.length ≤ sizeLine ∧ Q (.str (Txt.slice z lo hi)) M
  | _, _, _, _, _ => False
theorem Iss.cut {K : PySem.W.Frag} {H : Hp} {vs : List V} {ds : List D} (h : Iss K H vs ds) (lo hi : Option Int) : Iss K H (cutV vs lo hi) (cutD ds lo hi) := by
  unfold cutV cutD
  rw [h.length]
  exact (h.drop _).take _
theorem cut_whole {α : Type} {xs : List α} {lo hi : Option Int} (h : HT.sIx xs.length 0 lo = 0 ∧ HT.sIx xs.length xs.length hi = xs.length) : cutD xs lo hi = xs := by
  unfold cutD
  rw [h.1, h.2]
  simp
theorem sd_sl : SlD X slD := by
  rintro pins s σ H vx v vl vu lo hi sl Q I rx hs pl pu ⟨x, M, Q', ix, hm, q, hq⟩
  cases ix with
  | @tup a xs ds h hxs =>
    by_cases hw : HT.sIx xs.length 0 lo = 0 ∧ HT.sIx xs.length xs.length hi = xs.length
    · cases rx
      obtain ⟨its, r, ht, hz⟩ := I.tuple h
      have hlen : its.toArray.size = xs.length := by rw [List.size_toArray]; exact r.length.symm
      refine ⟨"tuple", _, PyProof.Rows.slot_tuple_getitem.lookup, ht.typeIs, ?_⟩
      refine getItem_tuple_whole ht hs pl pu (by rw [hlen]; exact hw) ⟨.ref a, H, I, rfl, hq.here hm (.tup h hxs) ?_⟩
      have q' : Q' (.tup (cutD ds lo hi)) M := q
      rw [cut_whole (by rw [← hxs.length]; exact hw)] at q'
      exact q'
    · exact sl_tup pins s σ H _ v vl vu lo hi sl Q I rx hs pl pu ⟨a, xs, rfl, h, hw, fun p hp => hq _ M _ _ (hm.new hp) (ext_new hp) (.tup (SqT.of upd_same) ((hxs.cut lo hi).mono (ext_new hp))) q⟩
  | rol h hys => exact sl_list pins s σ H _ v vl vu lo hi sl Q I rx hs pl pu ⟨_, _, rfl, h.sq, fun p hp => hq _ _ _ _ (hm.newL hp (hys.cut lo hi)) (ext_new hp) (.ref p) (q p (hm.free hp))⟩
  | ref l =>
    obtain ⟨xs, hl, q⟩ := q
    obtain ⟨ys, h, hys⟩ := hm.lst hl
    exact sl_list pins s σ H _ v vl vu lo hi sl Q I rx hs pl pu ⟨_, ys, rfl, h, fun p hp => hq _ _ _ _ (hm.newL hp (hys.cut lo hi)) (ext_new hp) (.ref p) (q p (hm.free hp))⟩
  | str z =>
    obtain ⟨hz, q⟩ := q
    obtain ⟨t, rfl⟩ := rx
    obtain ⟨os, ho, hc, hd⟩ := hs
    have fin : ∀ (l u : Option (Int × Tok)), l.map (·.1) = lo → u.map (·.1) = hi → partValue l = vl → partValue u = vu → ∃ T id, typeLookup (.type T) "__getitem__" = pure (some (.builtin id)) ∧ s.TypeIs (.str z t) T ∧ wpAny (model X.prog X.w) X.A (getItem (.str z t) (.ref sl)) (EP X pins σ Q) X.xe s := by
      intro l u el eu e1 e2
      refine ⟨"str", _, F.slot_str_getitem.lookup, typeIs_str _ _ _, wpAny_getItem_str_slice (l := l) (u := u) (st := none) ⟨os, ho, hc, by rw [hd, e1, e2]; rfl⟩ rfl ?_⟩
      refine post_val_or_str ⟨Nat.le_trans (Txt.slice_le z _ _) hz, fun t' k => ?_⟩
      refine ⟨.str (Txt.slice z lo hi), H, I.tok k, ?_, hq.here hm (.str _) q⟩
      rw [← el, ← eu]
      exact ⟨_, rfl⟩
    cases pl with
    | none => cases pu with
      | none => exact fin none none rfl rfl rfl rfl
      | int j tj => exact fin none (some (j, tj)) rfl rfl rfl rfl
    | int i ti => cases pu with
      | none => exact fin (some (i, ti)) none rfl rfl rfl rfl
      | int j tj => exact fin (some (i, ti)) (some (j, tj)) rfl rfl rfl rfl
  | _ => exact q.elim
noncomputable abbrev RM := D → List D → DH → KD → Prop
noncomputable def lowM (K : PySem.W.Frag) (r : RM) : V → List V → Hp → VK → Prop := fun v vs H Q => ∃ x ds M Q', Is K H v x ∧ Iss K H vs ds ∧ HAbs K M H ∧ r x ds M Q' ∧ lowQ K H Q' Q
noncomputable def MtD (X : Cx) (id : String) (r : RM) : Prop := MtR X id (lowM X.K r)
noncomputable def tyD (T : String) : D → DH → Prop
  | .str _, _ => T = "str"
  | .int _, _ => T = "int"
  | .ref l, M => T = "list" ∧ ∃ xs, LstAt M l xs
  | _, _ => False
noncomputable def eBM0 (T : String) (r : RM) (to : TEd) : TEd := fun τ M Q => to τ M fun x M1 => tyD T x M1 ∧ r x [] M1 Q
noncomputable def eBM (T : String) (r : RM) (to : TEd) (t : TAd) : TEd := fun τ M Q => to τ M fun x M1 => tyD T x M1 ∧ t τ M1 fun ds M2 => r x ds M2 Q
theorem tyD_low {K : PySem.W.Frag} {H : Hp} {M : DH} {T : String} {v : V} {x : D} (i : Is K H v x) (hm : HAbs K M H) (h : tyD T x M) : tyV K T v H := by
  cases i with
  | str z => exact h
  | int j => exact h
  | ref l => exact .inl ⟨h.1, let ⟨xs, hl⟩ := h.2; let ⟨ys, q, _⟩ := hm.lst hl; ⟨ys, q⟩⟩
  | _ => exact h.elim
variable {o : Expr} {to : TEd} {name : Str} {apos cpos : Pos} {T id : String} {r : RM}
theorem d_bm (pa : PlainAttrs T) (slot : Slot T name id) (hty : typeOf (.builtin id) = pure (.type "method_descriptor")) (hm : MtD X id r) (ho : PE X o (low X.K to)) (ha : PA X (e :: es) (lowA X.K t))
    (hbase : attributeBase o name X.env (eval o X.env) = eval o X.env := by rfl)
    (hfew : ((backTo cpos (starEach (e :: es) X.env)).all (fun x => !x.1) && (backToKw cpos (keywordEach [] X.env)).all (fun x => x.1.isSome)
      && decide ((e :: es).length + ([] : List Keyword).length + (if ([] : List Keyword).isEmpty then 0 else 1) < 30)) = true := by rfl)
    (hline : (apos.endLine == cpos.line) = true := by rfl) (hs : starEach (e :: es) X.env = (false, eval e X.env) :: starEach es X.env := by rfl) (hplain : (backTo cpos (starEach es X.env)).any (·.1) = false := by rfl) :
    PE X (.Call (.Attribute o name apos) (e :: es) [] cpos) (low X.K (eBM T r to t)) :=
  (pe_bm pa slot hty hm ho ha hbase hfew hline hs hplain).imp fun σ H Q ⟨τ, M, Q', hs, hm, h, hq⟩ =>
    ⟨τ, M, _, hs, hm, h, fun x M1 v H1 m1 e1 i1 h1 => ⟨tyD_low i1 m1 h1.1, τ, M1, _, hs.mono e1, m1, h1.2, fun ds M2 vs H2 m2 e2 i2 h2 => ⟨x, ds, M2, Q', i1.mono e2, i2, m2, h2, hq.ext (e1.trans e2)⟩⟩⟩
noncomputable def appendD : D → List D → DH → KD → Prop
  | .ref l, [y], M, Q => ∃ xs, M l = some (.lst xs) ∧ xs.length < sizeLine ∧ Q .non (updM M l (.lst (xs ++ [y])))
  | _, _, _, _ => False
theorem md_append : MtD X "list.append" appendD := by
  rintro pins s σ H vx vs v us Q I rx rs ⟨x, ds, M, Q', ix, iss, hm, q, hq⟩
  match x, ds, q, ix, iss with
  | .ref l, [y], q, ix, iss =>
    obtain ⟨xs, hl, hz, q⟩ := q
    cases ix with
    | ref =>
      obtain ⟨vy, rfl, iy⟩ := iss1 iss
      obtain ⟨ys, h1, h2⟩ := hm l _ hl
      refine mt_append pins s σ H _ _ v us Q I rx rs ⟨l, ys, vy, rfl, rfl, h1, by rw [h2.length]; exact hz, ?_⟩
      obtain ⟨m1, e1⟩ := hm.setL hl h1 (h2.append (.cons iy .nil))
      exact hq _ _ _ _ m1 e1 .non q
noncomputable def popD : D → List D → DH → KD → Prop
  | .ref l, [], M, Q => ∃ xs y, M l = some (.lst (xs ++ [y])) ∧ Q y (updM M l (.lst xs))
  | _, _, _, _ => False
noncomputable def truD : D → DH → (Bool → Prop) → Prop
  | .non, _, Q => Q false
  | .bl k, _, Q => Q k
  | .int i, _, Q => Q (i != 0)
  | .str y, _, Q => y.length ≤ sizeLine ∧ Q ((y.length : Int) != 0)
  | .tup ds, _, Q => Q (!ds.isEmpty)
  | .rol ds, _, Q => Q (!ds.isEmpty)
  | .ref l, M, Q => ∃ xs, LstAt M l xs ∧ Q (!xs.isEmpty)
  | .ty _, _, _ => False
noncomputable def eTru (te : TEd) : TTd := fun τ M Q => te τ M fun x M1 => truD x M1 fun k => Q k M1
theorem Iss.empty {K : PySem.W.Frag} {H : Hp} {vs : List V} {ds : List D} (h : Iss K H vs ds) : vs.isEmpty = ds.isEmpty := by cases h <;> rfl
theorem dt_val (ha : PE X a (low X.K ta)) (he : ∀ whole, isTrue a X.env whole = (do let v ← whole; standAt a.pos; holding [v] (truthy v)) := by intro _; rfl) : PT X a (lowT X.K (eTru ta)) :=
  (pt_truth ha he).imp fun σ H Q ⟨τ, M, Q', hs, hm, h, hq⟩ => ⟨τ, M, _, hs, hm, h, fun x M1 v H1 m1 e1 i1 h1 => by
    cases i1 with
    | non => exact ⟨false, rfl, hq _ M1 H1 m1 e1 h1⟩
    | bl k => exact ⟨k, rfl, hq _ M1 H1 m1 e1 h1⟩
    | int i => exact ⟨_, rfl, hq _ M1 H1 m1 e1 h1⟩
    | str y => exact ⟨_, ⟨h1.1, rfl⟩, hq _ M1 H1 m1 e1 h1.2⟩
    | ty n => exact h1.elim
    | tup hx hxs => exact ⟨_, .inr (.inl ⟨_, hx, rfl⟩), hq _ M1 H1 m1 e1 (by rw [hxs.empty]; exact h1)⟩
    | rol hx hxs => exact ⟨_, .inl ⟨_, hx.sq, rfl⟩, hq _ M1 H1 m1 e1 (by rw [hxs.empty]; exact h1)⟩
    | ref l =>
      obtain ⟨xs, hl, q⟩ := h1
      obtain ⟨ys, h2, h3⟩ := m1.lst hl
      exact ⟨_, .inl ⟨_, h2, rfl⟩, hq _ M1 H1 m1 e1 (by rw [h3.empty]; exact q)⟩⟩
noncomputable def bAnd (t u : TTd) : TTd := fun τ M Q => t τ M fun k M1 => if k = true then u τ M1 Q else Q false M1
noncomputable def bOr (t u : TTd) : TTd := fun τ M Q => t τ M fun k M1 => if k = true then Q true M1 else u τ M1 Q
noncomputable def bNot (t : TTd) : TTd := fun τ M Q => t τ M fun k M1 => Q (!k) M1
variable {tA tB : TTd} {rest : List Expr}
theorem dw_and1 (ha : PT X a (lowT X.K tA)) : PW X (.BoolOp .And [a] pos) (lowT X.K tA) := pw_and1 ha
theorem dw_or1 (ha : PT X a (lowT X.K tA)) : PW X (.BoolOp .Or [a] pos) (lowT X.K tA) := pw_or1 ha
theorem dw_and (ha : PT X a (lowT X.K tA)) (hb : PW X (.BoolOp .And (b :: rest) pos) (lowT X.K tB)) : PW X (.BoolOp .And (a :: b :: rest) pos) (lowT X.K (bAnd tA tB)) :=
  L2.PW.imp (pw_and ha hb) fun σ H Q ⟨τ, M, Q', hs, hm, h, hq⟩ => ⟨τ, M, _, hs, hm, h, fun k M1 H1 m1 e1 h1 => by
    cases k with
    | true => rw [if_pos rfl] at h1 ⊢; exact ⟨τ, M1, Q', hs.mono e1, m1, h1, fun k M2 H2 m2 e2 h2 => hq k M2 H2 m2 (e1.trans e2) h2⟩
    | false => rw [if_neg Bool.false_ne_true] at h1 ⊢; exact hq false M1 H1 m1 e1 h1⟩
theorem dw_or (ha : PT X a (lowT X.K tA)) (hb : PW X (.BoolOp .Or (b :: rest) pos) (lowT X.K tB)) : PW X (.BoolOp .Or (a :: b :: rest) pos) (lowT X.K (bOr tA tB)) :=
  L2.PW.imp (pw_or ha hb) fun σ H Q ⟨τ, M, Q', hs, hm, h, hq⟩ => ⟨τ, M, _, hs, hm, h, fun k M1 H1 m1 e1 h1 => by
    cases k with
    | true => rw [if_pos rfl] at h1 ⊢; exact hq true M1 H1 m1 e1 h1
    | false => rw [if_neg Bool.false_ne_true] at h1 ⊢; exact ⟨τ, M1, Q', hs.mono e1, m1, h1, fun k M2 H2 m2 e2 h2 => hq k M2 H2 m2 (e1.trans e2) h2⟩⟩
theorem dt_not (ha : PT X a (lowT X.K tA)) : PT X (.UnaryOp .Not a pos) (lowT X.K (bNot tA)) :=
  L2.PT.imp (pt_not ha) fun σ H Q ⟨τ, M, Q', hs, hm, h, hq⟩ => ⟨τ, M, _, hs, hm, h, fun k M1 H1 m1 e1 h1 => hq (!k) M1 H1 m1 e1 h1⟩
noncomputable def vAnd (ta tb : TEd) : TEd := fun τ M Q => ta τ M fun x M1 => onBl x fun k => if k = true then tb τ M1 Q else Q (.bl false) M1
noncomputable def vOr (ta tb : TEd) : TEd := fun τ M Q => ta τ M fun x M1 => onBl x fun k => if k = true then Q (.bl true) M1 else tb τ M1 Q
noncomputable def vNot (ta : TEd) : TEd := fun τ M Q => ta τ M fun x M1 => onBl x fun k => Q (.bl (!k)) M1
theorem d_one {op} (h : PE X a (low X.K ta)) : PE X (.BoolOp op [a] pos) (low X.K ta) := pe_one h
theorem d_and (ha : PE X a (low X.K ta)) (hb : PE X (.BoolOp .And (b :: rest) pos) (low X.K tb)) : PE X (.BoolOp .And (a :: b :: rest) pos) (low X.K (vAnd ta tb)) :=
  L2.PE.imp (pe_and ha hb) fun σ H Q ⟨τ, M, Q', hs, hm, h, hq⟩ => ⟨τ, M, _, hs, hm, h, fun x M1 v H1 m1 e1 i1 h1 => by
    cases i1 with
    | bl k => cases k with
      | true => exact ⟨true, rfl, by rw [if_pos rfl]; exact ⟨τ, M1, Q', hs.mono e1, m1, h1, hq.ext e1⟩⟩
      | false => exact ⟨false, rfl, by rw [if_neg Bool.false_ne_true]; exact hq _ M1 _ H1 m1 e1 (.bl false) h1⟩
    | _ => exact h1.elim⟩
theorem d_or (ha : PE X a (low X.K ta)) (hb : PE X (.BoolOp .Or (b :: rest) pos) (low X.K tb)) : PE X (.BoolOp .Or (a :: b :: rest) pos) (low X.K (vOr ta tb)) :=
  L2.PE.imp (pe_or ha hb) fun σ H Q ⟨τ, M, Q', hs, hm, h, hq⟩ => ⟨τ, M, _, hs, hm, h, fun x M1 v H1 m1 e1 i1 h1 => by
    cases i1 with
    | bl k => cases k with
      | true => exact ⟨true, rfl, by rw [if_pos rfl]; exact hq _ M1 _ H1 m1 e1 (.bl true) h1⟩
      | false => exact ⟨false, rfl, by rw [if_neg Bool.false_ne_true]; exact ⟨τ, M1, Q', hs.mono e1, m1, h1, hq.ext e1⟩⟩
    | _ => exact h1.elim⟩
end
section
variable {X : Cx} {st : Stmt} {rest : List Stmt} {t u : TSd} {e c : Expr} {te : TEd} {tc : TTd} {pos : Pos}
noncomputable def sNext : TSd := fun D τ M => D.nx τ M
noncomputable def sSeq (t u : TSd) : TSd := fun D τ M => t { D with nx := u D } τ M
theorem ss_nil : PSs X [] (lowS X.K sNext) := pss_nil.imp fun D σ H ⟨τ, M, D', hs, hm, h, hd⟩ => hd.nx τ M σ H hs hm (Ext.refl H) h
theorem ss_cons (h1 : PS X st (lowS X.K t)) (h2 : PSs X rest (lowS X.K u)) : PSs X (st :: rest) (lowS X.K (sSeq t u)) :=
  (pss_cons h1 h2).imp fun D σ H ⟨τ, M, D', hs, hm, h, hd⟩ =>
    ⟨τ, M, { D' with nx := u D' }, hs, hm, h, ⟨fun τ1 M1 σ1 H1 s1 m1 e1 q => ⟨τ1, M1, D', s1, m1, q, hd.ext e1⟩, hd.rt, hd.bk, hd.ct⟩⟩
theorem ss_one (h1 : PS X st (lowS X.K t)) : PSs X [st] (lowS X.K t) := pss_one h1
noncomputable def sDrop (te : TEd) : TSd := fun D τ M => te τ M fun _ M1 => D.nx τ M1
theorem s_expr (he : PE X e (low X.K te)) (hs : swapsWith e none pos.line X.env = pure false := by rfl) : PS X (.Expr e pos) (lowS X.K (sDrop te)) :=
  (ps_expr he hs).imp fun D σ H ⟨τ, M, D', hs, hm, h, hd⟩ => ⟨τ, M, _, hs, hm, h, fun _ M1 _ H1 m1 e1 _ q => hd.nx τ M1 σ H1 (hs.mono e1) m1 e1 q⟩
noncomputable def sRet (te : TEd) : TSd := fun D τ M => te τ M D.rt
theorem s_ret (he : PE X e (low X.K te)) : PS X (.Return (some e) pos) (lowS X.K (sRet te)) :=
  (ps_ret he).imp fun D σ H ⟨τ, M, D', hs, hm, h, hd⟩ => ⟨τ, M, _, hs, hm, h, hd.rt⟩
noncomputable def sIf (c : TTd) (t u : TSd) : TSd := fun D τ M => c τ M fun k M1 => if k = true then t D τ M1 else u D τ M1
theorem s_if {a b : List Stmt} (hc : PT X c (lowT X.K tc)) (ha : PSs X a (lowS X.K t)) (hb : PSs X b (lowS X.K u)) : PS X (.If c a b pos) (lowS X.K (sIf tc t u)) :=
  (ps_if hc ha hb).imp fun D σ H ⟨τ, M, D', hs, hm, h, hd⟩ => ⟨τ, M, _, hs, hm, h, fun k M1 H1 m1 e1 q => by
    cases k with
    | true => rw [if_pos rfl] at q ⊢; exact ⟨τ, M1, D', hs.mono e1, m1, q, hd.ext e1⟩
    | false => rw [if_neg Bool.false_ne_true] at q ⊢; exact ⟨τ, M1, D', hs.mono e1, m1, q, hd.ext e1⟩⟩
noncomputable abbrev TGd := D → DSt → DH → (DSt → DH → Prop) → Prop
noncomputable abbrev TGsd := List D → DSt → DH → (DSt → DH → Prop) → Prop
noncomputable def lowG (K : PySem.W.Frag) (g : TGd) : TG := fun v σ H Q => ∃ d τ M Q', Is K H v d ∧ SAbs K τ σ H ∧ HAbs K M H ∧ g d τ M Q' ∧ ∀ τ1 M1 σ1 H1, SAbs K τ1 σ1 H1 → HAbs K M1 H1 → Ext K H H1 → Q' τ1 M1 → Q σ1 H1
noncomputable def lowGs (K : PySem.W.Frag) (g : TGsd) : TGs := fun vs σ H Q => ∃ ds τ M Q', Iss K H vs ds ∧ SAbs K τ σ H ∧ HAbs K M H ∧ g ds τ M Q' ∧ ∀ τ1 M1 σ1 H1, SAbs K τ1 σ1 H1 → HAbs K M1 H1 → Ext K H H1 → Q' τ1 M1 → Q σ1 H1
theorem _root_.L2.PG.imp {tg : Expr} {t t' : TG} (h : PG X tg t) (hi : ∀ v σ H Q, t' v σ H Q → t v σ H Q) : PG X tg t' := fun pins s σ H v u Q I r q => h pins s σ H v u Q I r (hi _ _ _ _ q)
theorem _root_.L2.PGs.imp {tg : List Expr} {t t' : TGs} (h : PGs X tg t) (hi : ∀ v σ H Q, t' v σ H Q → t v σ H Q) : PGs X tg t' := fun pins s σ H v u Q I r q => h pins s σ H v u Q I r (hi _ _ _ _ q)
noncomputable def hName (i : Nat) : TGd := fun d τ M Q => Q (τ.set i (some d)) M
theorem g_name {i : Nat} {x : Str} (hN : X.N.Nodup) (hi : X.N[i]? = some x := by rfl) (hx : Loc X.env.scope x := by first | exact Or.inl rfl | exact Or.inr rfl) (hf : X.fn x = true ∨ X.env.scope.names.lookup x = some .local := by first | exact .inl rfl | exact .inr rfl | assumption) : PG X (.Name x pos) (lowG X.K (hName i)) :=
  (pg_name hN hi hx hf).imp fun v σ H Q ⟨d, τ, M, Q', i, hs, hm, h, hq⟩ => hq _ M _ H (hs.set i) hm (Ext.refl H) h
noncomputable def hNil : List D → DSt → DH → (DSt → DH → Prop) → Prop
  | [], τ, M, Q => Q τ M
  | _ :: _, _, _, _ => False
noncomputable def hCons (g : TGd) (gs : TGsd) : List D → DSt → DH → (DSt → DH → Prop) → Prop
  | d :: r, τ, M, Q => g d τ M fun τ1 M1 => gs r τ1 M1 Q
  | [], _, _, _ => False
theorem gs_nil : PGs X [] (lowGs X.K hNil) := pgs_nil.imp fun v σ H Q ⟨ds, τ, M, Q', iss, hs, hm, h, hq⟩ => by
  cases iss with
  | nil => exact ⟨rfl, hq τ M σ H hs hm (Ext.refl H) h⟩
  | cons _ _ => exact h.elim
theorem gs_cons {es : List Expr} {g : TGd} {gs : TGsd} (h1 : PG X e (lowG X.K g)) (h2 : PGs X es (lowGs X.K gs))
    (hs : (assignEach (e :: es) X.env).map (·.2) = assign e X.env :: (assignEach es X.env).map (·.2) := by rfl) : PGs X (e :: es) (lowGs X.K (hCons g gs)) :=
  (pgs_cons h1 h2 hs).imp fun v σ H Q ⟨ds, τ, M, Q', iss, hs, hm, h, hq⟩ => by
    cases iss with
    | nil => exact h.elim
    | cons i t => exact ⟨_, _, rfl, _, τ, M, _, i, hs, hm, h, fun τ1 M1 σ1 H1 s1 m1 e1 q => ⟨_, τ1, M1, Q', t.mono e1, s1, m1, q, fun τ2 M2 σ2 H2 s2 m2 e2 q2 => hq τ2 M2 σ2 H2 s2 m2 (e1.trans e2) q2⟩⟩
noncomputable def hTup (gs : TGsd) : D → DSt → DH → (DSt → DH → Prop) → Prop
  | .tup ds, τ, M, Q => gs ds τ M Q
  | _, _, _, _ => False
theorem g_tup {es : List Expr} {k n : Nat} {gs : TGsd} (hc : X.calm = true) (h : PGs X es (lowGs X.K gs)) (hln : ∀ ds τ M Q, gs ds τ M Q → ds.length = n)
    (hn : (assignEach es X.env).length = n := by rfl) (hst : (assignEach es X.env).findIdx? (·.1) = none := by rfl) : PG X (.Tuple es k pos) (lowG X.K (hTup gs)) :=
  (pg_tup hc h hn hst).imp fun v σ H Q ⟨d, τ, M, Q', i, hs, hm, h, hq⟩ => by
    cases i with
    | tup hx hxs => exact ⟨_, _, rfl, hx, by rw [hxs.length]; exact hln _ _ _ _ h, _, τ, M, Q', hxs, hs, hm, h, hq⟩
    | _ => exact h.elim
noncomputable def setD : D → D → D → DH → (DH → Prop) → Prop
  | .ref l, .int i, d, M, Q => ∃ xs j, M l = some (.lst xs) ∧ ixN xs.length i = some j ∧ Q (updM M l (.lst (xs.set j d)))
  | _, _, _, _, _ => False
noncomputable def hSub (to ti : TEd) : TGd := fun d τ M Q => to τ M fun x M1 => ti τ M1 fun y M2 => setD x y d M2 fun M3 => Q τ M3
theorem g_sub {o i : Expr} {to ti : TEd} (ho : PE X o (low X.K to)) (hi : PE X i (low X.K ti))
    (ha : ∀ v, assign (.Subscript o i pos) X.env v = (do
      let ov ← holding [v] (eval o X.env)
      let iv ← holding [v, ov] (eval i X.env)
      standAt pos
      holding [v, ov, iv] (setItem ov iv v)
      release [v, ov, iv] []) := by intro _; rfl) : PG X (.Subscript o i pos) (lowG X.K (hSub to ti)) :=
  (pg_sub ho hi set_list ha).imp fun v σ H Q ⟨d, τ, M, Q', i, hs, hm, h, hq⟩ =>
    ⟨τ, M, _, hs, hm, h, fun x M1 vx H1 m1 e1 i1 h1 => ⟨τ, M1, _, hs.mono e1, m1, h1, fun y M2 vy H2 m2 e2 i2 h2 => by
      have i1' := i1.mono e2
      match x, y, h2, i1', i2 with
      | .ref l, .int k, h2, i1', i2 =>
        obtain ⟨xs, j, hl, hj, q⟩ := h2
        cases i1' with
        | ref =>
          (first | cases i2.inv | cases i2)
          obtain ⟨ys, z1, z2⟩ := m2 l _ hl
          have e12 := e1.trans e2
          obtain ⟨m3, e3⟩ := m2.setL hl z1 (z2.set (i.mono e12) j)
          exact ⟨l, ys, k, j, rfl, rfl, z1, by rw [z2.length]; exact hj, hq τ _ σ _ (hs.mono (e12.trans e3)) m3 (e12.trans e3) q⟩⟩⟩
noncomputable def sAsg (te : TEd) (g : TGd) : TSd := fun D τ M => te τ M fun x M1 => g x τ M1 D.nx
theorem low_asg {K : PySem.W.Frag} {g : TGd} {D : Ends} {σ : St} {H : Hp} (h : lowS K (sAsg te g) D σ H) : tAsg (low K te) (lowG K g) D σ H := by
  obtain ⟨τ, M, D', hs, hm, h, hd⟩ := h
  exact ⟨τ, M, _, hs, hm, h, fun x M1 v H1 m1 e1 i1 q => ⟨x, τ, M1, _, i1, hs.mono e1, m1, q, fun τ2 M2 σ2 H2 s2 m2 e2 q2 => hd.nx τ2 M2 σ2 H2 s2 m2 (e1.trans e2) q2⟩⟩
theorem s_asg {tg : Expr} {g : TGd} (he : PE X e (low X.K te)) (hg : PG X tg (lowG X.K g)) (hs : swapsWithSole [tg] e pos.line X.env = pure false := by rfl) (hw : swappedStores [tg] e X.env = pure none := by rfl)
    (h1 : (assignEach [tg] X.env).map (·.2) = [assign tg X.env] := by rfl) : PS X (.Assign [tg] e pos) (lowS X.K (sAsg te g)) :=
  (ps_asg he hg hs hw h1).imp fun _ _ _ h => low_asg h
theorem s_set {i : Nat} {x : Str} {pos' : Pos} (hN : X.N.Nodup) (he : PE X e (low X.K te)) (hi : X.N[i]? = some x := by rfl) (hx : Loc X.env.scope x := by first | exact Or.inl rfl | exact Or.inr rfl) (hs : swapsWith e (some (.Name x pos')) pos.line X.env = pure false := by rfl) (hf : X.fn x = true ∨ X.env.scope.names.lookup x = some .local := by first | exact .inl rfl | exact .inr rfl | assumption) :
    PS X (.Assign [.Name x pos'] e pos) (lowS X.K (sAsg te (hName i))) :=
  (ps_set hN hi hx he hs hf).imp fun D σ H ⟨τ, M, D', hs, hm, h, hd⟩ => ⟨τ, M, _, hs, hm, h, fun x M1 v H1 m1 e1 i1 q => hd.nx _ M1 _ H1 ((hs.mono e1).set i1) m1 e1 q⟩
noncomputable def iaddD : D → D → DH → KD → Prop
  | .int i, .int j, M, Q => Q (.int (i + j)) M
  | .str i, .str j, M, Q => i.length + j.length ≤ sizeLine ∧ Q (.str (i ++ j)) M
  | _, _, _, _ => False
theorem ip_iadd : PIp X .Add (lowR2 X.K iaddD) := by
  rintro pins s σ H vx vy v u Q I rx ry ⟨x, y, M, Q', ix, iy, hm, q, hq⟩
  cases ix with
  | int i => cases iy with
    | int j => exact iop_add pins s σ H _ _ v u Q I rx ry ⟨_, _, rfl, rfl, hq.here hm (.int _) q⟩
    | _ => exact q.elim
  | str i => cases iy with
    | str j => exact iop_add_str pins s σ H _ _ v u Q I rx ry ⟨_, _, rfl, rfl, q.1, hq.here hm (.str _) q.2⟩
    | _ => exact q.elim
  | _ => first | exact q.elim | (cases iy <;> exact q.elim)
noncomputable def sAug (i : Nat) (te : TEd) : TSd := fun E τ M => onVal τ[i]? fun x => te τ M fun y M1 => iaddD x y M1 fun z M2 => E.nx (τ.set i (some z)) M2
theorem s_aug {i : Nat} {x : Str} {pos' : Pos} (hN : X.N.Nodup) (he : PE X e (low X.K te)) (hi : X.N[i]? = some x := by rfl) (hx : Loc X.env.scope x := by first | exact Or.inl rfl | exact Or.inr rfl) (hf : X.fn x = true ∨ X.env.scope.names.lookup x = some .local := by first | exact .inl rfl | exact .inr rfl | assumption) :
    PS X (.AugAssign (.Name x pos') .Add e pos) (lowS X.K (sAug i te)) :=
  (ps_aug hN hi hx he ip_iadd hf).imp fun D σ H ⟨τ, M, D', hs, hm, h, hd⟩ => by
    obtain ⟨d, hd', h⟩ := onVal_some h
    · obtain ⟨v, h1, h2⟩ := hs.2 _ d hd'
      exact ⟨v, h1, τ, M, _, hs, hm, h, fun y M1 vy H1 m1 e1 i1 q => ⟨d, y, M1, _, h2.mono e1, i1, m1, q, fun z M2 vz H2 m2 e2 i2 q2 => hd.nx _ M2 _ H2 ((hs.mono (e1.trans e2)).set i2) m2 (e1.trans e2) q2⟩⟩
end
end DL
namespace DL
open PySem PySem.Spec PyProof.Rows L2
section
variable {X : Cx} {e c tg : Expr} {te : TEd} {tc : TTd} {tb : TSd} {g : TGd} {pos : Pos}
noncomputable def sWhile (c : TTd) (tb : TSd) : TSd := fun D τ M => ∃ W : Nat → DSt → DH → Prop, (∃ m, W m τ M) ∧ ∀ m τ M, W m τ M →
  c τ M fun k M1 => if k = true then tb { D with nx := fun τ' M' => ∃ m', m' < m ∧ W m' τ' M', ct := fun τ' M' => ∃ m', m' < m ∧ W m' τ' M', bk := D.nx } τ M1 else D.nx τ M1
theorem s_while {body : List Stmt} (hp : PassesOwn (model X.prog X.w) X.A X.env X.xe) (hc : PT X c (lowT X.K tc)) (hb : PSs X body (lowS X.K tb)) : PS X (.While c body [] pos) (lowS X.K (sWhile tc tb)) :=
  (ps_while hp hc hb).imp fun D σ H ⟨τ, M, D', hs, hm, ⟨W, ⟨m0, w0⟩, turn⟩, hd⟩ => by
    refine ⟨fun m σ1 H1 => ∃ τ1 M1, SAbs X.K τ1 σ1 H1 ∧ HAbs X.K M1 H1 ∧ Ext X.K H H1 ∧ W m τ1 M1, ⟨m0, τ, M, hs, hm, Ext.refl H, w0⟩, ?_⟩
    rintro m σ1 H1 ⟨τ1, M1, s1, m1, e1, w1⟩
    refine ⟨τ1, M1, _, s1, m1, turn m τ1 M1 w1, fun k M2 H2 m2 e2 q2 => ?_⟩
    cases k with
    | true =>
      rw [if_pos rfl] at q2 ⊢
      refine ⟨_, fun σ3 H3 h3 => h3, τ1, M2, _, s1.mono e2, m2, q2, ⟨?_, hd.rt.ext (e1.trans e2), ?_, ?_⟩⟩
      · rintro τ3 M3 σ3 H3 s3 m3 e3 ⟨m', hm', w3⟩
        exact ⟨m', hm', τ3, M3, s3, m3, e1.trans (e2.trans e3), w3⟩
      · intro τ3 M3 σ3 H3 s3 m3 e3 q3
        exact hd.nx τ3 M3 σ3 H3 s3 m3 (e1.trans (e2.trans e3)) q3
      · rintro τ3 M3 σ3 H3 s3 m3 e3 ⟨m', hm', w3⟩
        exact ⟨m', hm', τ3, M3, s3, m3, e1.trans (e2.trans e3), w3⟩
    | false =>
      rw [if_neg Bool.false_ne_true] at q2 ⊢
      exact hd.nx τ1 M2 σ1 H2 (s1.mono e2) m2 (e1.trans e2) q2
theorem walks_imp {prog : Program} {w : World} {A : Around} {I : Addr} {fp wr : List Addr} {n : Nat} {P P' : Nat → Value → Prop} {St : Nat → Heap → Prop} (W : Walks prog w A I fp wr n P St) (h : ∀ i v, P i v → P' i v) : Walks prog w A I fp wr n P' St :=
  ⟨W.sub, W.frame, fun i s Q E hi st hQ => W.item i s Q E hi st fun v h' tk hp => hQ v h' tk (h i v hp), W.done, W.self⟩
noncomputable def Itf (n : Nat) (f : Nat → V) : It := ⟨fun i _ => i < n, fun i H x H' => H' = H ∧ x = f i, fun i _ => i = n⟩
theorem turn_walks {P : Program} {w : World} {K : PySem.W.Frag} {tg : Expr} (it : Addr) (n : Nat) (f : Nat → V) (St : Nat → Heap → Prop) (W : ∀ A : Around, A.handled = none → Walks P w A it [it] [it] n (fun i v => RelV (f i) v) St)
    (hobj : ∀ i h, St i h → ∃ (o : Obj) (ty : String) (vs : Array Value), h.get? it = some o ∧ o.cls = .type ty ∧ o.data = .fields vs ∧ ["enumerate", "zip", "dict_itemiterator", "dict_reverseitemiterator", "odict_iterator", "itertools.zip_longest", "itertools.pairwise"].contains ty = false)
    (self : ∀ (A : Around) (i : Nat) (s : Shared) (Q : Value → Shared → Prop) (E : Value → Shared → Prop), St i s.heap → Q (.ref it) s → wpAny (model P w) A (pyIter (.ref it)) Q E s) :
    Turn P w K tg (Itf n f) [it] it St where
  mem := by simp
  obj := fun i h st b hb => by
    have e : b = it := by simpa using hb
    subst e
    obtain ⟨o, ty, vs, h1, h2, h3, _⟩ := hobj i h st
    exact ⟨o, h1, fun v z => by rw [h3] at z; cases z⟩
  keep := fun i h h' st k => (W { depth := 0, units := 0, handled := none, frames := none } rfl).frame i h h' st k
  item := by
    intro X hP hw hK hc i pins s σ H E I hf st hg
    subst hP hw hK
    obtain ⟨f0, f1, f2, f3, f4, f5⟩ := hf it (by simp)
    refine (W X.A (I.ok.hd hc)).item i s _ _ hg st fun v h' tk hv st' kk => ?_
    have I1 : Inv X pins σ H { s with heap := h', toks := tk } := I.turned (fun b o hb e => kk b o (by simpa using hb) e) f0 f1 f3 f4 f5
    obtain ⟨o, ty, vs, h1, h2, h3, h4⟩ := hobj _ _ st'
    exact ⟨_, rfl, go_of (s := { s with heap := h', toks := tk }) (n := ty) h1 h2 h3 h4 ⟨f i, H, I1, hv, ⟨rfl, rfl⟩, st', fun b hb => (hf b hb).1⟩⟩
  done := by
    intro X hP hw hK hc i pins s σ H E I hf st hg
    subst hP hw hK
    obtain ⟨f0, f1, f2, f3, f4, f5⟩ := hf it (by simp)
    have e : i = n := hg
    subst e
    exact (W X.A (I.ok.hd hc)).done s _ _ st fun h' tk kk => ⟨rfl, I.turned (fun b o hb e => kk b o (by simpa using hb) e) f0 f1 f3 f4 f5⟩
  self := self
noncomputable def signV (z : Str) (i : Nat) : V := .str ⟨#[z.cps.getD i 0]⟩
noncomputable def iAny (K : PySem.W.Frag) (tl : TE) : TI := fun σ H R => tl σ H fun x H1 => (∃ a, x = .ref a ∧ (((∃ xs, SqL K H1 a xs) ∧ R (Itl K a) H1) ∨ ((∃ xs, SqT K H1 a xs) ∧ R (Itt K a) H1))) ∨ ∃ z, x = .str z ∧ R (Itf z.cps.size (signV z)) H1
theorem pi_any {l : Expr} {tl : TE} (hl : PE X l tl) : PI X tg l (iAny X.K tl) := by
  intro pins s σ H R I h
  refine thn (hl pins s σ H _ I h) fun v s1 zz0 => ?_
  obtain ⟨x, H1, I1, r1, q1⟩ := zz0
  have fr : ∀ b ∈ [s1.heap.objs.size], FpOk X pins H1 b := fun b hb => by
    have e : b = s1.heap.objs.size := by simpa using hb
    subst e
    exact I1.fpOk (Nat.le_refl _) (I1.hok.fresh (Nat.le_refl _))
  rcases q1 with ⟨a, e, q1⟩ | ⟨z, e, q⟩
  · subst e
    cases r1
    rcases q1 with ⟨⟨xs, hq⟩, q⟩ | ⟨⟨xs, hq⟩, q⟩
    · obtain ⟨its, rv, p, hz⟩ := I1.list hq
      refine wpAny_pyIter_list p.isList ?_
      exact ⟨s1.heap.objs.size, [s1.heap.objs.size], _, _, H1, rfl, I1.kept (t' := s1.toks) fun b o e => Heap.get?_push_of_some _ e, turn_list a _, ⟨_, Heap.get?_push_size _ rfl, rfl, rfl⟩, fr, q⟩
    · obtain ⟨its, rv, p, hz⟩ := I1.tuple hq
      refine wpAny_pyIter_tuple (show s1.heap.IsTuple a its.toArray from p) ?_
      exact ⟨s1.heap.objs.size, [s1.heap.objs.size], _, _, H1, rfl, I1.kept (t' := s1.toks) fun b o e => Heap.get?_push_of_some _ e, turn_tuple a _, ⟨_, Heap.get?_push_size _ rfl, rfl, rfl⟩, fr, q⟩
  · subst e
    obtain ⟨t, rfl⟩ := r1
    have hrel : ∀ (i : Nat) (v : Value), (∃ c u, z.cps[i]? = some c ∧ v = .str ⟨#[c]⟩ u) → RelV (signV z i) v := fun i v ⟨c, u, e1, e2⟩ => by
      refine ⟨u, ?_⟩
      have : z.cps.getD i 0 = c := by rw [Array.getD_eq_getD_getElem?, e1]; rfl
      rw [e2, this]
    cases ha : z.cps.all (· < 128) with
    | true =>
      refine wpAny_pyIter_ascii ha ?_
      refine ⟨s1.heap.objs.size, [s1.heap.objs.size], _, _, H1, rfl, I1.kept (t' := s1.toks) fun b o e => Heap.get?_push_of_some _ e, turn_walks s1.heap.objs.size z.cps.size (signV z) (fun i h => h.IsStrIter s1.heap.objs.size "str_ascii_iterator" z t i)
        (fun A hA => walks_imp (Walks.strAscii (A := A) hA s1.heap.objs.size z t) hrel) (fun i h ⟨o, h1, h2, h3⟩ => ⟨o, _, _, h1, h2, h3, by decide⟩) (fun _ _ _ _ _ st h => wpAny_pyIter_striter_ascii st h), ⟨_, Heap.get?_push_size _ rfl, rfl, rfl⟩, fr, q⟩
    | false =>
      refine wpAny_pyIter_wide ha ?_
      refine ⟨s1.heap.objs.size, [s1.heap.objs.size], _, _, H1, rfl, I1.kept (t' := s1.toks) fun b o e => Heap.get?_push_of_some _ e, turn_walks s1.heap.objs.size z.cps.size (signV z) (fun i h => h.IsStrIter s1.heap.objs.size "str_iterator" z t i)
        (fun A hA => walks_imp (Walks.strWide (A := A) hA s1.heap.objs.size z t) hrel) (fun i h ⟨o, h1, h2, h3⟩ => ⟨o, _, _, h1, h2, h3, by decide⟩) (fun _ _ _ _ _ st h => wpAny_pyIter_striter_wide st h), ⟨_, Heap.get?_push_size _ rfl, rfl, rfl⟩, fr, q⟩
structure Gives (K : PySem.W.Frag) (J : It) (ds : List D) (H : Hp) : Prop where
  go : ∀ i, i < ds.length → J.go i H
  yld : ∀ i x H', i < ds.length → J.yld i H x H' → H' = H ∧ ∃ d, ds[i]? = some d ∧ Is K H x d
  stop : J.stop ds.length H
theorem gives_list {K : PySem.W.Frag} {H : Hp} {a : Addr} {xs : List V} {ds : List D} (h : SqL K H a xs) (i : Iss K H xs ds) : Gives K (Itl K a) ds H :=
  ⟨fun j hj => let ⟨v, e, _⟩ := i.get (List.getElem?_eq_getElem hj); ⟨xs, v, h, e⟩, fun j x H' _ ⟨e, y⟩ => ⟨e, i.getV (y xs h)⟩, ⟨xs, h, by rw [i.length]; exact Nat.le_refl _⟩⟩
theorem gives_tup {K : PySem.W.Frag} {H : Hp} {a : Addr} {xs : List V} {ds : List D} (h : SqT K H a xs) (i : Iss K H xs ds) : Gives K (Itt K a) ds H :=
  ⟨fun j hj => let ⟨v, e, _⟩ := i.get (List.getElem?_eq_getElem hj); ⟨xs, v, h, e⟩, fun j x H' _ ⟨e, y⟩ => ⟨e, i.getV (y xs h)⟩, ⟨xs, h, by rw [i.length]; exact Nat.le_refl _⟩⟩
noncomputable def signs (z : Str) : List D := z.cps.toList.map fun c => .str ⟨#[c]⟩
theorem signs_length (z : Str) : (signs z).length = z.cps.size := by simp [signs]
theorem gives_str {K : PySem.W.Frag} {H : Hp} (z : Str) : Gives K (Itf z.cps.size (signV z)) (signs z) H :=
  ⟨fun j hj => by rw [signs_length] at hj; exact hj, fun j x H' hj ⟨e, y⟩ => by
    refine ⟨e, .str ⟨#[z.cps.getD j 0]⟩, ?_, by rw [y]; exact .str _⟩
    rw [signs_length] at hj
    unfold signs
    rw [List.getElem?_map, Array.getElem?_toList, Array.getElem?_eq_getElem hj]
    simp [Array.getD_eq_getD_getElem?, hj], by rw [signs_length]; exact rfl⟩
noncomputable def walkD (ds : List D) (st : DH → Prop) (g : TGd) (tb : TSd) (E : EndsD) (τ : DSt) (M : DH) : Prop := ∃ W : Nat → DSt → DH → Prop, W 0 τ M ∧ (∀ i τ M, i ≤ ds.length → W i τ M → st M) ∧
  (∀ i d τ M, ds[i]? = some d → W i τ M → g d τ M fun τ2 M2 => tb { E with nx := W (i + 1), ct := W (i + 1), bk := E.nx } τ2 M2) ∧ ∀ τ M, W ds.length τ M → E.nx τ M
noncomputable def forD (g : TGd) (tb : TSd) (E : EndsD) (τ : DSt) : D → DH → Prop
  | .tup ds, M => walkD ds (fun _ => True) g tb E τ M
  | .rol ds, M => walkD ds (fun _ => True) g tb E τ M
  | .str z, M => walkD (signs z) (fun _ => True) g tb E τ M
  | .ref l, M => ∃ ds, M l = some (.lst ds) ∧ walkD ds (fun M => M l = some (.lst ds)) g tb E τ M
  | _, _ => False
noncomputable def sFor (te : TEd) (g : TGd) (tb : TSd) : TSd := fun E τ M => te τ M fun x M1 => forD g tb E τ x M1
theorem lowEnds {K : PySem.W.Frag} {H H1 : Hp} {D' : EndsD} {E : Ends} {W : DSt → DH → Prop} (hd : LowD K H D' E) (e : Ext K H H1) :
    LowD K H1 { D' with nx := W, ct := W, bk := D'.nx } { E with nx := fun σ H2 => ∃ τ M, SAbs K τ σ H2 ∧ HAbs K M H2 ∧ Ext K H H2 ∧ W τ M, ct := fun σ H2 => ∃ τ M, SAbs K τ σ H2 ∧ HAbs K M H2 ∧ Ext K H H2 ∧ W τ M, bk := E.nx } :=
  ⟨fun τ M σ H2 s2 m2 e2 q => ⟨τ, M, s2, m2, e.trans e2, q⟩, hd.rt.ext e, fun τ M σ H2 s2 m2 e2 q => hd.nx τ M σ H2 s2 m2 (e.trans e2) q, fun τ M σ H2 s2 m2 e2 q => ⟨τ, M, s2, m2, e.trans e2, q⟩⟩
theorem low_turn {K : PySem.W.Frag} {H H1 : Hp} {D' : EndsD} {E : Ends} {g : TGd} {tb : TSd} {d : D} {v : V} {τ : DSt} {σ : St} {M : DH} {W : DSt → DH → Prop} (hd : LowD K H D' E) (e1 : Ext K H H1) (i : Is K H1 v d) (s1 : SAbs K τ σ H1) (m1 : HAbs K M H1)
    (h : g d τ M fun τ2 M2 => tb { D' with nx := W, ct := W, bk := D'.nx } τ2 M2) :
    lowG K g v σ H1 fun σ2 H2 => lowS K tb { E with nx := fun σ H2 => ∃ τ M, SAbs K τ σ H2 ∧ HAbs K M H2 ∧ Ext K H H2 ∧ W τ M, ct := fun σ H2 => ∃ τ M, SAbs K τ σ H2 ∧ HAbs K M H2 ∧ Ext K H H2 ∧ W τ M, bk := E.nx } σ2 H2 :=
  ⟨d, τ, M, _, i, s1, m1, h, fun τ2 M2 σ2 H2 s2 m2 e2 q2 => ⟨τ2, M2, _, s2, m2, q2, lowEnds hd (e1.trans e2)⟩⟩
theorem for_gives {K : PySem.W.Frag} {J : It} {ds : List D} {st : DH → Prop} {g : TGd} {tb : TSd} {D' : EndsD} {E : Ends} {τ : DSt} {σ : St} {M : DH} {H H1 : Hp} (hd : LowD K H D' E) (e1 : Ext K H H1) (s1 : SAbs K τ σ H1) (m1 : HAbs K M H1)
    (hg : ∀ M2 H2, HAbs K M2 H2 → Ext K H1 H2 → st M2 → Gives K J ds H2) (h : walkD ds st g tb D' τ M) :
    ∃ W : Nat → Nat → St → Hp → Prop, (∃ m, W 0 m σ H1) ∧ ∀ i m σ H, W i m σ H →
      (J.stop i H ∧ E.nx σ H) ∨ (J.go i H ∧ ∃ N : St → Hp → Prop, (∀ σ' H', N σ' H' → ∃ m', m' < m ∧ W (i + 1) m' σ' H') ∧ ∀ x H', J.yld i H x H' → lowG K g x σ H' fun σ2 H2 => lowS K tb { E with nx := N, ct := N, bk := E.nx } σ2 H2) := by
  obtain ⟨W, w0, stay, turn, done⟩ := h
  refine ⟨fun i m σ2 H2 => m = ds.length - i ∧ i ≤ ds.length ∧ ∃ τ2 M2, SAbs K τ2 σ2 H2 ∧ HAbs K M2 H2 ∧ Ext K H1 H2 ∧ W i τ2 M2, ⟨ds.length, by simp, Nat.zero_le _, τ, M, s1, m1, Ext.refl H1, w0⟩, ?_⟩
  rintro i m σ2 H2 ⟨rfl, hi, τ2, M2, s2, m2, e2, w2⟩
  have G := hg M2 H2 m2 e2 (stay i τ2 M2 hi w2)
  by_cases hlt : i < ds.length
  · refine .inr ⟨G.go i hlt, fun σ3 H3 => ∃ τ3 M3, SAbs K τ3 σ3 H3 ∧ HAbs K M3 H3 ∧ Ext K H1 H3 ∧ W (i + 1) τ3 M3, fun σ3 H3 p => ⟨ds.length - (i + 1), by (first | lia | omega), rfl, hlt, p⟩, fun x H' y => ?_⟩
    obtain ⟨rfl, d, ed, id⟩ := G.yld i x H' hlt y
    exact low_turn (hd.ext e1) e2 id s2 m2 (turn i d τ2 M2 ed w2)
  · have e : i = ds.length := by (first | lia | omega)
    subst e
    exact .inl ⟨G.stop, hd.nx τ2 M2 σ2 H2 s2 m2 (e1.trans e2) (done τ2 M2 w2)⟩
theorem s_for {iter : Expr} {body : List Stmt} (hp : PassesOwn (model X.prog X.w) X.A X.env X.xe) (hc : X.calm = true) (hi : PE X iter (low X.K te)) (hg : PG X tg (lowG X.K g)) (hb : PSs X body (lowS X.K tb))
    (hs : ∀ x, foldedSetIterable iter X.env x = pure x := by intro _; rfl) : PS X (.For tg iter body [] pos) (lowS X.K (sFor te g tb)) :=
  (ps_for hp hc (pi_any hi) hg hb hs).imp fun D σ H ⟨τ, M, D', hs, hm, h, hd⟩ => ⟨τ, M, _, hs, hm, h, fun x M1 v H1 m1 e1 i1 h1 => by
    cases i1 with
    | @tup a xs ds hx hxs => exact .inl ⟨a, rfl, .inr ⟨⟨xs, hx⟩, for_gives hd e1 (hs.mono e1) m1 (fun M2 H2 m2 e2 _ => gives_tup (e2.t _ _ hx) (hxs.mono e2)) h1⟩⟩
    | @rol a xs ds hx hxs => exact .inl ⟨a, rfl, .inl ⟨⟨xs, hx.sq⟩, for_gives hd e1 (hs.mono e1) m1 (fun M2 H2 m2 e2 _ => gives_list (e2.f _ _ hx).sq (hxs.mono e2)) h1⟩⟩
    | str z => exact .inr ⟨z, rfl, for_gives hd e1 (hs.mono e1) m1 (fun M2 H2 m2 e2 _ => gives_str z) h1⟩
    | ref l =>
      obtain ⟨ds, hl, w⟩ := h1
      obtain ⟨xs, hx, hxs⟩ := m1 l _ hl
      exact .inl ⟨l, rfl, .inl ⟨⟨xs, SqL.of hx⟩, for_gives hd e1 (hs.mono e1) m1 (fun M2 H2 m2 e2 hl2 => let ⟨ys, hy, iy⟩ := m2.lst hl2; gives_list hy iy) w⟩⟩
    | _ => exact h1.elim⟩
noncomputable def walkR (f : Nat → Int) (n : Nat) (g : TGd) (tb : TSd) (E : EndsD) (τ : DSt) (M : DH) : Prop := ∃ W : Nat → DSt → DH → Prop, W 0 τ M ∧
  (∀ i τ M, i < n → W i τ M → g (.int (f i)) τ M fun τ2 M2 => tb { E with nx := W (i + 1), ct := W (i + 1), bk := E.nx } τ2 M2) ∧ ∀ τ M, W n τ M → E.nx τ M
noncomputable def for1D (g : TGd) (tb : TSd) (E : EndsD) (τ : DSt) : List D → DH → Prop
  | [.int j], M => (-(2 ^ 62) ≤ j ∧ j < 2 ^ 62) ∧ walkR (fun i => (i : Int)) j.toNat g tb E τ M
  | _, _ => False
noncomputable def for2D (g : TGd) (tb : TSd) (E : EndsD) (τ : DSt) : List D → DH → Prop
  | [.int lo, .int j], M => (-(2 ^ 62) ≤ lo ∧ lo < 2 ^ 62 ∧ -(2 ^ 62) ≤ j ∧ j < 2 ^ 62) ∧ walkR (fun i => lo + (i : Int)) (j - lo).toNat g tb E τ M
  | _, _ => False
noncomputable def sFor1 (ta : TAd) (g : TGd) (tb : TSd) : TSd := fun E τ M => ta τ M fun vs M1 => for1D g tb E τ vs M1
noncomputable def sFor2 (ta : TAd) (g : TGd) (tb : TSd) : TSd := fun E τ M => ta τ M fun vs M1 => for2D g tb E τ vs M1
theorem for_rangeD {K : PySem.W.Frag} {lo : Int} {n : Nat} {g : TGd} {tb : TSd} {D' : EndsD} {E : Ends} {τ : DSt} {σ : St} {M : DH} {H H1 : Hp} (hd : LowD K H D' E) (e1 : Ext K H H1) (s1 : SAbs K τ σ H1) (m1 : HAbs K M H1) (h : walkR (fun i => lo + (i : Int)) n g tb D' τ M) :
    ∃ W : Nat → Nat → St → Hp → Prop, (∃ m, W 0 m σ H1) ∧ ∀ i m σ H, W i m σ H →
      ((Itr lo n).stop i H ∧ E.nx σ H) ∨ ((Itr lo n).go i H ∧ ∃ N : St → Hp → Prop, (∀ σ' H', N σ' H' → ∃ m', m' < m ∧ W (i + 1) m' σ' H') ∧ ∀ x H', (Itr lo n).yld i H x H' → lowG K g x σ H' fun σ2 H2 => lowS K tb { E with nx := N, ct := N, bk := E.nx } σ2 H2) := by
  obtain ⟨W, w0, turn, done⟩ := h
  refine for_range (fun i σ2 H2 => ∃ τ2 M2, SAbs K τ2 σ2 H2 ∧ HAbs K M2 H2 ∧ Ext K H1 H2 ∧ W i τ2 M2) ⟨τ, M, s1, m1, Ext.refl H1, w0⟩ ?_ ?_
  · rintro i σ2 H2 hi ⟨τ2, M2, s2, m2, e2, w2⟩
    exact low_turn (hd.ext e1) e2 (.int _) s2 m2 (turn i τ2 M2 hi w2)
  · rintro σ2 H2 ⟨τ2, M2, s2, m2, e2, w2⟩
    exact hd.nx τ2 M2 σ2 H2 s2 m2 (e1.trans e2) (done τ2 M2 w2)
theorem s_for1 {a : Expr} {ta : TAd} {body : List Stmt} {p cpos : Pos} (hp : PassesOwn (model X.prog X.w) X.A X.env X.xe) (hc : X.calm = true) (hm : X.mg "range" = none) (ha : PA X [a] (lowA X.K ta)) (hg : PG X tg (lowG X.K g)) (hb : PSs X body (lowS X.K tb)) (hgl : Gl X "range" := by rfl)
    (hst : starEach [a] X.env = [(false, eval a X.env)] := by rfl) (hs : ∀ x, foldedSetIterable (.Call (.Name "range" p) [a] [] cpos) X.env x = pure x := by intro _; rfl) : PS X (.For tg (.Call (.Name "range" p) [a] [] cpos) body [] pos) (lowS X.K (sFor1 ta g tb)) :=
  (ps_for hp hc (pi_range1 hgl hm ha hst) hg hb hs).imp fun D σ H ⟨τ, M, D', hs, hm, h, hd⟩ => ⟨τ, M, _, hs, hm, h, fun ds M1 vs H1 m1 e1 i1 h1 => by
    match ds, h1, i1 with
    | [.int j], h1, i1 =>
      obtain ⟨v, rfl, i⟩ := iss1 i1
      (first | cases i.inv | cases i)
      obtain ⟨⟨q1, q2⟩, w⟩ := h1
      have w' : walkR (fun i => 0 + (i : Int)) j.toNat g tb D' τ M1 := by
        have e : (fun i : Nat => 0 + (i : Int)) = fun i : Nat => (i : Int) := by funext i; (first | lia | omega)
        rw [e]; exact w
      exact ⟨j, rfl, q1, q2, for_rangeD hd e1 (hs.mono e1) m1 w'⟩⟩
noncomputable abbrev SpD := List D → DH → KD → Prop
noncomputable def lowSp (K : PySem.W.Frag) (sp : SpD) : Sp := fun vs H Q _ => ∃ ds M Q', Iss K H vs ds ∧ HAbs K M H ∧ sp ds M Q' ∧ lowQ K H Q' Q
structure FnD (P : Program) (w : World) (K : PySem.W.Frag) (mg : Str → Option Value) (base : Heap) (k : Nat) (x : Str) (ps : List Str) (sp : SpD) : Prop where
  ex : ∃ f fd, FnOk P w K mg base CX0 k f fd ps (lowSp K sp) ∧ mg x = some (.ref f) ∧ PySem.W.keepIn K (.ref f) = true ∧ Binds K fd ps []
theorem FnD.mono {P : Program} {w : World} {K : PySem.W.Frag} {mg : Str → Option Value} {base : Heap} {j k : Nat} {x : Str} {ps : List Str} {sp : SpD} (F : FnD P w K mg base j x ps sp) (h : j ≤ k) : FnD P w K mg base k x ps sp :=
  let ⟨f, fd, a, b, c, d⟩ := F.ex; ⟨f, fd, a.mono h, b, c, d⟩
theorem FnD.imp {P : Program} {w : World} {K : PySem.W.Frag} {mg : Str → Option Value} {base : Heap} {k : Nat} {x : Str} {ps : List Str} {sp sp' : SpD} (F : FnD P w K mg base k x ps sp) (h : ∀ ds M Q, sp' ds M Q → sp ds M Q) : FnD P w K mg base k x ps sp' :=
  let ⟨f, fd, a, b, c, d⟩ := F.ex; ⟨f, fd, a.imp (fun _ _ _ _ ⟨ds, M, Q', i, m, q, hq⟩ => ⟨ds, M, Q', i, m, h _ _ _ q, hq⟩), b, c, d⟩
noncomputable def eCall (sp : SpD) (t : TAd) : TEd := fun τ M Q => t τ M fun ds M1 => sp ds M1 Q
theorem d_call {k : Nat} {x : Str} {ps : List Str} {sp : SpD} {p : Pos} {es : List Expr} {t : TAd} (F : FnD X.prog X.w X.K X.mg X.base k x ps sp) (hr : Room k X.A) (ha : PA X (e :: es) (lowA X.K t)) (hg : Gl X x := by rfl) (hdb : (x == ("__debug__" : Str)) = false := by decide)
    (he : starEach (e :: es) X.env = (false, eval e X.env) :: starEach es X.env := by rfl) (hpl : (backTo pos (starEach es X.env)).any (·.1) = false := by rfl) : PE X (.Call (.Name x p) (e :: es) [] pos) (low X.K (eCall sp t)) := by
  obtain ⟨f, fd, F, hm, hk, hb⟩ := F.ex
  refine (pe_call (E := E0) F hr hg hm hk hb .nil pass0 ha hdb he hpl).imp fun σ H Q zz0 => ?_
  obtain ⟨τ, M, Q', hs, hm, h, hq⟩ := zz0
  refine ⟨τ, M, _, hs, hm, h, fun ds M1 vs H1 m1 e1 i1 h1 => ?_⟩
  show lowSp X.K sp (vs ++ []) H1 Q E0
  rw [List.append_nil]
  exact ⟨ds, M1, Q', i1, m1, h1, hq.ext e1⟩
noncomputable def startD (N : List Str) (ds : List D) : DSt := ds.map some ++ List.replicate (N.length - ds.length) none
theorem start_abs {K : PySem.W.Frag} {H : Hp} {N : List Str} {vs : List V} {ds : List D} (h : Iss K H vs ds) : SAbs K (startD N ds) (L2.start N vs) H := by
  have hl := h.length
  refine ⟨by unfold startD L2.start; simp [hl], fun i d e => ?_⟩
  unfold startD at e
  by_cases hi : i < ds.length
  · rw [List.getElem?_append_left (by simpa using hi), List.getElem?_map] at e
    cases q : ds[i]? with
    | none => rw [q] at e; cases e
    | some d' =>
      rw [q] at e
      cases e
      obtain ⟨v, ev, iv⟩ := h.get q
      refine ⟨v, ?_, iv⟩
      unfold L2.start
      rw [List.getElem?_append_left (by simpa [hl] using hi), List.getElem?_map, ev]
      rfl
  · rw [List.getElem?_append_right (by simpa using hi), List.getElem?_replicate] at e
    split at e <;> cases e
noncomputable def endsOf (Q : KD) : EndsD := { nx := fun _ M' => ∃ M0, Sub M0 M' ∧ Q .non M0, rt := fun d M' => ∃ M0, Sub M0 M' ∧ Q d M0 }
section
variable {P : Program} {w : World} {K : PySem.W.Frag} {mg : Str → Option Value} {base : Heap}
theorem def_fn {x qual : Str} {st : Stmt} {f : Addr} {fd : FuncData} {N ps : List Str} {k : Nat} {sp : SpD} (F : Fun K x qual st f fd) (S : FnScope N ps (defScope st)) (len : ∀ ds M Q, sp ds M Q → ds.length = ps.length)
    (hbody : ∀ (cdv : Value) (A : Around) (outer : List Env) (s : Shared) (H : Hp) (E : XK), Room k (A.deeper (envOfC qual (defScope st) s.heap.objs.size f cdv)) →
      ∃ t : TSd, PSs (cxOf CX0 P w K mg base N qual (defScope st) f cdv A outer s H E).nox (defBody st) (lowS K t) ∧ ∀ ds M Q, sp ds M Q → t (endsOf Q) (startD N ds) M) : FnOk P w K mg base CX0 (k + 1) f fd ps (lowSp K sp) := by
  refine F.ok S (fun vs H Q E h => ?_) (fun cdv A outer s H vs Q E hr h => ?_)
  · obtain ⟨ds, M, Q', i, _, q, _⟩ := h
    rw [i.length]
    exact len _ _ _ q
  · obtain ⟨t, h1, h2⟩ := hbody cdv A outer s H E hr
    obtain ⟨ds, M, Q', i, hm, q, hq⟩ := h
    refine ⟨_, h1, startD N ds, M, endsOf Q', start_abs i, hm, h2 _ _ _ q, ⟨?_, ?_, ?_, ?_⟩⟩
    · rintro τ M1 σ H1 s1 m1 e1 ⟨M0, sub, q0⟩
      exact hq _ M0 _ H1 (m1.sub sub) e1 .non q0
    · rintro d M1 v H1 m1 e1 i1 ⟨M0, sub, q0⟩
      exact hq d M0 v H1 (m1.sub sub) e1 i1 q0
    · intro τ M1 σ H1 _ _ _ q0; exact q0.elim
    · intro τ M1 σ H1 _ _ _ q0; exact q0.elim
noncomputable def Stands (K : PySem.W.Frag) (mg : Str → Option Value) (x : Str) (st : Stmt) (ps : List Str) : Prop := ∃ f fd, Fun K x x st f fd ∧ Binds K fd ps [] ∧ mg x = some (.ref f)
theorem def_ok {x : Str} {st : Stmt} {N ps : List Str} {k : Nat} {sp : SpD} (T : Stands K mg x st ps) (S : FnScope N ps (defScope st)) (len : ∀ ds M Q, sp ds M Q → ds.length = ps.length)
    (hbody : ∀ (f : Addr) (cdv : Value) (A : Around) (outer : List Env) (s : Shared) (H : Hp) (E : XK), Room k (A.deeper (envOfC x (defScope st) s.heap.objs.size f cdv)) →
      ∃ t : TSd, PSs (cxOf CX0 P w K mg base N x (defScope st) f cdv A outer s H E).nox (defBody st) (lowS K t) ∧ ∀ ds M Q, sp ds M Q → t (endsOf Q) (startD N ds) M) : FnD P w K mg base (k + 1) x ps sp := by
  obtain ⟨f, fd, F, hb, hm⟩ := T
  exact ⟨f, fd, def_fn F S len (hbody f), hm, F.kp, hb⟩
noncomputable def spLaw : SpD := fun ds M Q => ∃ ns : List Int, ds = [.rol (ns.map .int)] ∧ ns.length ≤ 63 ∧ Q (.bl true) M
theorem law_low {K : PySem.W.Frag} {H : Hp} {a : Addr} {ns : List Int} (hO : Only H) (hl : ns.length ≤ 63) (hS : SqL K H a (ns.map V.int)) : lowSp K spLaw [.ref a] H (fun v _ => v = .bl true) fun _ _ _ => False := by
  have hF : SqF K H a (ns.map V.int) := by
    rcases hS with (h | ⟨o, h⟩) | h
    · rcases hO a with z | ⟨o, xs, z⟩ <;> rw [z] at h <;> cases h
    · exact .inl ⟨o, h⟩
    · exact .inr h
  have hI : ∀ ns : List Int, Iss K H (ns.map V.int) (ns.map D.int) := fun ns => by
    induction ns with
    | nil => exact .nil
    | cons n ns ih => exact .cons (.int n) ih
  refine ⟨[.rol (ns.map .int)], fun _ => none, fun d _ => d = .bl true, .cons (.rol hF (hI ns)) .nil, fun a o e => (nomatch e), ⟨ns, rfl, hl, rfl⟩, fun d M1 v H1 _ _ i q => ?_⟩
  have q' : d = .bl true := q
  subst q'
  (first | cases i.inv | cases i)
  rfl
end
end
end DL
namespace DL
open PySem PySem.Spec PyProof.Rows L2
noncomputable def pick {α : Type} (js : List (Option Nat)) (τ : List (Option α)) : List (Option α) := js.map fun o => match o with
  | none => none
  | some j => match τ[j]? with
    | some v => v
    | none => none
noncomputable def compCx (X : Cx) (Nc : List Str) (scope : Scope) (cl : List (Str × Addr)) (C : Addr) (s : Shared) (H : Hp) (fp : List Addr) : Cx where
  prog := X.prog
  w := X.w
  K := X.K
  mg := X.mg
  base := X.base
  A := X.A
  N := Nc
  s₀ := s
  H₀ := H
  env := compEnvC scope cl C X.env
  outer := X.stack
  stack := X.stack
  ex := fp
  fn := fun _ => false
  calm := X.calm
  pn := []
  xe := fun _ _ => False
structure CompOk (X : Cx) (Nc : List Str) (js : List (Option Nat)) (scope : Scope) (cl : List (Str × Addr)) : Prop where
  kind : scope.kind = .function
  clos : closureFor scope X.env = pure cl
  nocell : ∀ y ∈ scope.names, y.2 ≠ .cell
  names : ∀ y ∈ scope.names, y.2 = .local → scope.names.lookup y.1 = some .local
  sub : ∀ p ∈ cl, X.env.cells.lookup p.1 = some p.2
  has : ((relabel scope X.env).names.all fun p => (p.2 != .cell && p.2 != .free) || (cl.lookup p.1).isSome) = true
  len : js.length = Nc.length
  fr : ∀ (i j : Nat) (x : Str), js[i]? = some (some j) → Nc[i]? = some x → X.N[j]? = some x ∧ (X.env.kindOf x = some .cell ∨ X.env.kindOf x = some .free) ∧
    ((relabel scope X.env).names.lookup x = some .cell ∨ (relabel scope X.env).names.lookup x = some .free) ∧ X.fs = X.fs
theorem pick_get {α : Type} {js : List (Option Nat)} {τ : List (Option α)} {i : Nat} {v : α} (h : (pick js τ)[i]? = some (some v)) : ∃ j, js[i]? = some (some j) ∧ τ[j]? = some (some v) := by
  unfold pick at h
  rw [List.getElem?_map] at h
  cases q : js[i]? with
  | none => rw [q] at h; cases h
  | some o =>
    rw [q] at h
    cases o with
    | none => cases h
    | some j =>
      refine ⟨j, rfl, ?_⟩
      have h' : (match τ[j]? with
        | some v => v
        | none => none) = some v := Option.some.inj h
      cases e : τ[j]? with
      | none => rw [e] at h'; cases h'
      | some u => rw [e] at h'; exact congrArg some h'
noncomputable def tComp (wi : TI) (g : TG) (tt : TT) (te : TE) (js : List (Option Nat)) : TE := fun σ H Q => wi σ H fun J H1 => ∀ l, H1 l = none → ∃ W : Nat → Nat → St → Hp → Prop, (∃ m, W 0 m (pick js σ) (upd H1 l (.lst []))) ∧ ∀ i m σ2 H2, W i m σ2 H2 →
  (J.stop i H2 ∧ Q (.ref l) H2) ∨ (J.go i H2 ∧ ∀ x H3, J.yld i H2 x H3 → g x σ2 H3 fun σ4 H4 => tt σ4 H4 fun b H5 => if b = true then te σ4 H5 fun y H6 => ∃ ys, H6 l = some (.lst ys) ∧ ys.length < sizeLine ∧ ∃ m', m' < m ∧ W (i + 1) m' σ4 (upd H6 l (.lst (ys ++ [y])))
    else ∃ m', m' < m ∧ W (i + 1) m' σ4 H5)
noncomputable def PIfs (X : Cx) (ifs : List Expr) (t : TT) : Prop := (ifs = [] ∧ t = fun _ H Q => Q true H) ∨ ∃ c, ifs = [c] ∧ PT X c t
section
variable {X : Cx} {tg elt iter : Expr} {ifs : List Expr} {scope : Scope} {pos : Pos} {wi : TI} {g : TG} {tt : TT} {te : TE} {js : List (Option Nat)} {Nc : List Str} {cl : List (Str × Addr)}
theorem comp_start {pins : List (Addr × Obj)} {σ : St} {H : Hp} {s : Shared} {fp : List Addr} {C : Addr} {s' : Shared} {H' : Hp} (O : CompOk X Nc js scope cl) (I : Inv X pins σ H s) (f : ∀ b ∈ fp, FpOk X pins H b) (hfp : ∀ b ∈ fp, b < C) (hC : s.heap.objs.size ≤ C)
    (os : s'.os = s.os) (bare : AllBare s'.gens) (un : Un (frs X.stack) fp H H' s.heap s'.heap) (hn : s'.heap.Ns C fun _ => none) (hfree : H' C = none) (hok : HOk X.prog X.w H' s'.heap) (old : ∀ b o, s.heap.get? b = some o → s'.heap.get? b = some o) : Inv (compCx X Nc scope cl C s H fp) [] (pick js σ) H' s' := by
  have clk : ∀ x c, cl.lookup x = some c → X.env.cells.lookup x = some c := fun x c e => O.sub (x, c) (PySem.mem_of_lookup e)
  have kin : ∀ x k, (relabel scope X.env).names.lookup x = some k → (k = .cell ∨ k = .free) → ∃ c, cl.lookup x = some c := fun x k e hk => by
    have h1 := List.all_eq_true.mp O.has (x, k) (PySem.mem_of_lookup e)
    rcases hk with rfl | rfl
    · exact Option.isSome_iff_exists.mp (by simpa using h1)
    · exact Option.isSome_iff_exists.mp (by simpa using h1)
  have cfree : ∀ x c, cl.lookup x = some c → ∃ o, s.heap.get? c = some o := fun x c e => by
    obtain ⟨v, o, ho, _⟩ := I.cell x c (clk x c e)
    exact ⟨o, ho⟩
  refine ⟨⟨I.ok.mod, by simp [compCx, compEnvC, relabel, O.kind], I.ok.glob, I.ok.blt, hC, fun x y c h1 h2 => I.ok.inj x y c (clk x c h1) (clk y c h2), fun x hx => ?_, fun x c h => (nomatch h), I.ok.hd, I.ok.frames, .inl rfl, fun b hb => ⟨Nat.ne_of_lt (hfp b hb), fun x c e => (f b hb).2.2.2.2.1 x c (clk x c e)⟩,
      I.bs, Nat.le_trans I.ok.bsz I.sz, fun b o e hb => ?_, fun b hb z => ?_, I.stack, I.stkFree⟩, os, bare, un, ⟨_, hn, fun i x v e1 e2 e3 => ?_⟩, fun x c e => ?_, hfree, fun x c e => ?_, fun p hp => absurd (show p ∈ ([] : List (Addr × Obj)) from hp) (by simp), hok, ?_⟩
  · rcases hx with hx | hx
    · exact kin x _ hx (.inl rfl)
    · exact kin x _ hx (.inr rfl)
  · rcases (f b hb).2.2.2.1 with z | z
    · exact I.ok.noex b o e z
    · exact absurd (Nat.lt_of_lt_of_le (Heap.lt_size e) (Nat.le_trans I.ok.bsz z)) (Nat.lt_irrefl _)
  · rcases List.mem_cons.mp (I.stkSub b z) with z | z
    · exact (f b hb).2.1 z
    · exact (f b hb).2.2.1 z
  · obtain ⟨j, ej, ev⟩ := pick_get e2
    obtain ⟨hN, hk, hk', _⟩ := O.fr i j x ej e1
    obtain ⟨m, _, hl⟩ := I.loc
    have vis : Vis X.env.scope x := by rcases hk with k | k; exact .inr (.inl k); exact .inr (.inr k)
    obtain ⟨u, r, lk⟩ := hl j x v hN ev vis
    refine ⟨u, r, .inr ⟨hk', ?_⟩⟩
    obtain ⟨c, ec⟩ : ∃ c, cl.lookup x = some c := by
      rcases hk' with k | k
      · exact kin x _ k (.inl rfl)
      · exact kin x _ k (.inr rfl)
    refine ⟨c, ec, ?_⟩
    rcases lk with ⟨kl, _⟩ | ⟨_, c', ec', hc⟩
    · rcases hk with k | k <;> (rw [k] at kl; cases kl)
    · rw [clk x c ec] at ec'
      cases ec'
      obtain ⟨o, ho, hd⟩ := hc
      exact ⟨o, old _ o ho, hd⟩
  · obtain ⟨v, o, ho, hd⟩ := I.cell x c (clk x c e)
    exact ⟨v, o, old _ o ho, hd⟩
  · obtain ⟨v, o, ho, hd⟩ := I.cell x c (clk x c e)
    exact un.free c o ho (I.freeC x c (clk x c e)) fun z => (f c z).2.2.2.2.1 x c (clk x c e) rfl
  · unfold pick
    rw [List.length_map]
    exact O.len
theorem comp_run {use : Option (Value → Sem Unit)} {Qf : Value → Shared → Prop} {pins : List (Addr × Obj)} {s : Shared} {σ : St} {H : Hp} {Q : VK} {ipos : Pos} (O : CompOk X Nc js scope cl) (hc : X.calm = true) (hi : PI X tg iter wi) (hg : ∀ C s H fp, PG (compCx X Nc scope cl C s H fp) tg g) (hif : ∀ C s H fp, PIfs (compCx X Nc scope cl C s H fp) ifs tt) (he : ∀ C s H fp, PE (compCx X Nc scope cl C s H fp) elt te)
    (hs : ∀ x, foldedSetIterable iter X.env x = pure x) (I : Inv X pins σ H s) (h : tComp wi g tt te js σ H Q)
    (fin : ∀ s5 H4 l C m f, Inv X pins σ H4 s5 → FpOk X pins H4 C → s5.heap.Ns C m → Q (.ref l) H4 → compPost (model X.prog X.w) X.A X.xe use Qf (.ref l) C (.ok f) s5) :
    wpAny (model X.prog X.w) X.A (comprehension (.ListComp elt [⟨tg, iter, ifs, 0⟩] scope pos) scope X.env ipos (newList []) false (eval iter X.env) use) Qf X.xe s := by
  refine wpAny_comprehension_free (use := use) rfl hs O.clos O.kind O.names (thn (hi pins s σ H _ I h) fun v s1 h1 => thn h1 fun itv s2 h2 => ?_)
  obtain ⟨it, fp, tn, J, H2, e, I2, T, st2, f2, q⟩ := h2
  subst e
  have hl : H2 s2.heap.objs.size = none := I2.hok.fresh (Nat.le_refl _)
  obtain ⟨W, ⟨m0, w0⟩, turn⟩ := q _ hl
  refine wpAny_newObj_type (wpAny_newFunctionEnv O.nocell (by intro y hy; simp at hy) (fun h₁ hns₁ hsb₁ => ?_) O.kind)
  dsimp only at hns₁ hsb₁ ⊢
  generalize hH2 : s2.heap.push { cls := .type "list", dict := none, data := .seq ([] : List Value).toArray } = G2 at hns₁ hsb₁ ⊢
  have hC : G2.objs.size = s2.heap.objs.size + 1 := by rw [← hH2, Heap.size_push]
  have below : ∀ b, b < s2.heap.objs.size → b ≠ G2.objs.size ∧ b ≠ s2.heap.objs.size := fun b hb => ⟨by rw [hC]; exact Nat.ne_of_lt (Nat.lt_succ_of_lt hb), Nat.ne_of_lt hb⟩
  have old : ∀ b o, s2.heap.get? b = some o → h₁.get? b = some o := fun b o e => hsb₁.extBut b o (below b (Heap.lt_size e)).1 (Heap.get?_push_of_some _ (hH2 ▸ Heap.get?_push_of_some _ e))
  have hDC : s2.heap.objs.size ≠ G2.objs.size := by rw [hC]; exact Nat.ne_of_lt (Nat.lt_succ_self _)
  have hacc : h₁.get? s2.heap.objs.size = some { cls := .type "list", dict := none, data := .seq ([] : List Value).toArray } := hsb₁.extBut _ _ hDC (Heap.get?_push_of_some _ (hH2 ▸ Heap.get?_push_size _ rfl))
  have hfp : ∀ b ∈ fp, b < s2.heap.objs.size := fun b hb => let ⟨o, e, _⟩ := T.obj _ _ st2 b hb; Heap.lt_size e
  have hCn : upd H2 s2.heap.objs.size (.lst []) G2.objs.size = none := by
    rw [upd_ne (Ne.symm hDC)]
    exact I2.hok.fresh (by rw [hC]; exact Nat.le_succ _)
  have I3 : Inv (compCx X Nc scope cl G2.objs.size s2 H2 fp) [] (pick js σ) (upd H2 s2.heap.objs.size (.lst [])) { s2 with heap := h₁, toks := s2.toks + ([] : List (Str × Value)).length } :=
    comp_start O I2 f2 (fun b hb => by rw [hC]; exact Nat.lt_succ_of_lt (hfp b hb)) (by rw [hC]; exact Nat.le_succ _) rfl I2.bare (Un.laid old (Nat.le_refl _) hl) hns₁ hCn (I2.hok.laid old (Nat.le_refl _) ⟨by simp, [], 0, .nil, hacc⟩) old
  have st3 : tn 0 h₁ := T.keep _ _ _ st2 fun b hb o e => old b o e
  have nofp : ∀ b ∈ fp, upd H2 s2.heap.objs.size (.lst []) b = none := fun b hb => by rw [upd_ne (Nat.ne_of_lt (hfp b hb))]; exact (f2 b hb).1
  have stat : ∀ {H' : Hp}, (∀ b ∈ fp, H' b = none) → ∀ b ∈ fp, FpOk (compCx X Nc scope cl G2.objs.size s2 H2 fp) [] H' b := fun hn b hb =>
    ⟨hn b hb, Nat.ne_of_lt (by rw [hC]; exact Nat.lt_succ_of_lt (hfp b hb)), fun z => by
      rcases List.mem_cons.mp (I2.stkSub b z) with z | z
      · exact (f2 b hb).2.1 z
      · exact (f2 b hb).2.2.1 z, .inl hb, fun x c ec => (f2 b hb).2.2.2.2.1 x c (O.sub (x, c) (PySem.mem_of_lookup ec)), fun p hp => absurd (show p ∈ ([] : List (Addr × Obj)) from hp) (by simp)⟩
  have loop : ∀ s₃ : Shared, s₃ = { s2 with heap := h₁, toks := s2.toks + ([] : List (Str × Value)).length } →
      codeAny (model X.prog X.w) X.A (.compLoop (.ListComp elt [⟨tg, iter, ifs, 0⟩] scope pos) 0 (.ref it) (.ref s2.heap.objs.size) (compEnvC scope cl G2.objs.size X.env)) (compPost (model X.prog X.w) X.A X.xe use Qf (.ref s2.heap.objs.size) G2.objs.size) s₃ := by
    rintro s₃ rfl
    refine codeAny_loop rfl (fun n s' => ∃ i σ' H', Inv (compCx X Nc scope cl G2.objs.size s2 H2 fp) [] σ' H' s' ∧ tn i s'.heap ∧ (∀ b ∈ fp, H' b = none) ∧ W i n σ' H') ?_ m0 ⟨0, _, _, I3, st3, nofp, w0⟩
    rintro n s4 ⟨i, σ4, H4, I4, st4, fr4, w4⟩
    show wpAny _ X.A ((compTurn (.ListComp elt [⟨tg, iter, ifs, 0⟩] scope pos) 0 (.ref it) (.ref s2.heap.objs.size) (compEnvC scope cl G2.objs.size X.env)).onRaise (fun x => do noteFrame x (compEnvC scope cl G2.objs.size X.env); theTreesLotGoes x)) _ _ s4
    refine wpAny_noted ?_
    rw [compTurn_list]
    refine wpAny_bind (wpAny_standAt (wpAny_bind ?_))
    rcases turn i n σ4 H4 w4 with ⟨stop, qn⟩ | ⟨go, step⟩
    · refine thn (T.done (compCx X Nc scope cl G2.objs.size s2 H2 fp) rfl rfl rfl hc i [] s4 σ4 H4 _ I4 (stat fr4) st4 stop) fun r s5 zz0 => ?_
      obtain ⟨hr, I5⟩ := zz0
      subst hr
      refine wpAny_pure ?_
      obtain ⟨m, hn, _⟩ := I5.loc
      have J5 : Inv X pins σ H4 s5 := I2.call' I5.os I5.base I5.hok I5.bare fun b hb => ⟨(f2 b hb).2.2.2.1, (f2 b hb).2.1, (f2 b hb).2.2.2.2.1, (f2 b hb).2.2.2.2.2⟩
      exact fin s5 H4 _ _ m _ J5 (I2.fpOk (by rw [hC]; exact Nat.le_succ _) I5.free) hn qn
    · refine thn (T.item (compCx X Nc scope cl G2.objs.size s2 H2 fp) rfl rfl rfl hc i [] s4 σ4 H4 _ I4 (stat fr4) st4 go) fun r s5 zz0 => ?_
      obtain ⟨u, hr, h5⟩ := zz0
      subst hr
      refine wpAny_bind (thn h5 fun _ s6 zz0 => ?_)
      obtain ⟨x, H6, I6, r6, y6, st6, fr6⟩ := zz0
      have I6' := I6.pinned (stat fr6) (T.obj _ _ st6)
      have again' : ∀ {s9 : Shared} {σ9 : St} {H9 : Hp}, Inv (compCx X Nc scope cl G2.objs.size s2 H2 fp) ([] ++ pinsAt fp s6.heap) σ9 H9 s9 → (∃ m', m' < n ∧ W (i + 1) m' σ9 H9) →
          ∃ m, m < n ∧ ∃ i σ' H', Inv (compCx X Nc scope cl G2.objs.size s2 H2 fp) [] σ' H' s9 ∧ tn i s9.heap ∧ (∀ b ∈ fp, H' b = none) ∧ W i m σ' H' := fun {s9 σ9 H9} I9 ⟨m', hm, w9⟩ => by
        refine ⟨m', hm, i + 1, σ9, H9, I9.unpinned, T.keep _ _ _ st6 fun b hb o e => (I9.pin (b, o) (List.mem_append_right _ (List.mem_append_right _ (mem_pinsAt hb e)))).1, fun b hb => ?_, w9⟩
        obtain ⟨o, e, d⟩ := T.obj _ _ st6 b hb
        exact (I9.pin (b, o) (List.mem_append_right _ (List.mem_append_right _ (mem_pinsAt hb e)))).2.1
      refine wpAny_bind (wpAny_mono (hg G2.objs.size s2 H2 fp _ s6 σ4 H6 x u _ I6' r6 (step x H6 y6)) (fun _ s7 zz0 => ?_) fun _ _ z => z.elim)
      obtain ⟨σ7, H7, I7, q7⟩ := zz0
      have tests : ∀ {R : Bool → Shared → Prop} {E' : Value → Shared → Prop}, (∀ b s8, (∃ H8, Inv (compCx X Nc scope cl G2.objs.size s2 H2 fp) ([] ++ pinsAt fp s6.heap) σ7 H8 s8 ∧ (if b = true then te σ7 H8 fun y H6 => ∃ ys, H6 s2.heap.objs.size = some (.lst ys) ∧ ys.length < sizeLine ∧ ∃ m', m' < n ∧ W (i + 1) m' σ7 (upd H6 s2.heap.objs.size (.lst (ys ++ [y])))
          else ∃ m', m' < n ∧ W (i + 1) m' σ7 H8)) → R b s8) → wpAny (model X.prog X.w) X.A (forIn ifs true fun c r => if r = true then do let ok ← isTrue c (compEnvC scope cl G2.objs.size X.env) (eval c (compEnvC scope cl G2.objs.size X.env)); pure (ForInStep.yield ok) else pure (ForInStep.yield r)) R E' s7 := by
        intro R E' hR
        rcases hif G2.objs.size s2 H2 fp with ⟨e1, e2⟩ | ⟨c, e1, e2⟩
        · subst e1 e2
          exact wpAny_tests_nil (hR true s7 ⟨H7, I7, q7⟩)
        · subst e1
          refine wpAny_tests_one (wpAny_mono (e2 _ s7 σ7 H7 _ I7 q7) (fun b s8 zz0 => ?_) fun _ _ z => z.elim)
          obtain ⟨H8, I8, q8⟩ := zz0
          exact hR b s8 ⟨H8, I8, q8⟩
      refine wpAny_bind (tests fun ok s8 zz0 => ?_)
      obtain ⟨H8, I8, q8⟩ := zz0
      cases ok with
      | false =>
        rw [if_neg Bool.false_ne_true] at q8
        exact wpAny_pure ⟨rfl, again' I8 q8⟩
      | true =>
        rw [if_pos rfl] at q8
        refine wpAny_bind (wpAny_bind (wpAny_mono (he G2.objs.size s2 H2 fp _ s8 σ7 H8 _ I8 q8) (fun xv s9 zz0 => ?_) fun _ _ z => z.elim))
        obtain ⟨y, H9, I9, r9, ys, hy, hlen, q9⟩ := zz0
        refine wpAny_bind (wpAny_mono (mt_append (X := compCx X Nc scope cl G2.objs.size s2 H2 fp) _ s9 σ7 H9 (.ref s2.heap.objs.size) [y] (.ref s2.heap.objs.size) [xv] (fun v H' => ∃ m', m' < n ∧ W (i + 1) m' σ7 H') I9 rfl (.cons r9 .nil) ⟨_, ys, y, rfl, rfl, hy, hlen, q9⟩) (fun _ s10 ⟨v, H10, I10, _, q10⟩ => wpAny_pure (wpAny_pure ⟨rfl, again' I10 q10⟩)) fun _ _ z => z.elim)
  exact codeAny_compStart_list (loop _ rfl) (T.self _ 0 _ _ _ st3 (loop _ rfl))
theorem pe_comp (O : CompOk X Nc js scope cl) (hc : X.calm = true) (hi : PI X tg iter wi) (hg : ∀ C s H fp, PG (compCx X Nc scope cl C s H fp) tg g) (hif : ∀ C s H fp, PIfs (compCx X Nc scope cl C s H fp) ifs tt) (he : ∀ C s H fp, PE (compCx X Nc scope cl C s H fp) elt te)
    (hs : ∀ x, foldedSetIterable iter X.env x = pure x := by intro _; rfl) : PE X (.ListComp elt [⟨tg, iter, ifs, 0⟩] scope pos) (tComp wi g tt te js) := by
  intro pins s σ H Q I h
  rw [eval_ListComp]
  exact comp_run (use := none) O hc hi hg hif he hs I h fun s5 H4 l C m f J5 fp hn q => ⟨m, hn, fun h' hs' => ⟨.ref l, H4, J5.turned (t' := s5.toks) (it := C) (fun b o hb e => hs'.extBut b o hb e) fp.1 fp.2.1 fp.2.2.2.1 fp.2.2.2.2.1 fp.2.2.2.2.2, rfl, q⟩⟩
theorem ps_setC {i : Nat} {y : Str} {py spos : Pos} (O : CompOk X Nc js scope cl) (hc : X.calm = true) (hN : X.N.Nodup) (hi' : X.N[i]? = some y) (hx : Loc X.env.scope y) (hi : PI X tg iter wi) (hg : ∀ C s H fp, PG (compCx X Nc scope cl C s H fp) tg g) (hif : ∀ C s H fp, PIfs (compCx X Nc scope cl C s H fp) ifs tt) (he : ∀ C s H fp, PE (compCx X Nc scope cl C s H fp) elt te)
    (hs : ∀ x, foldedSetIterable iter X.env x = pure x) (hsw : swapsWith (.ListComp elt [⟨tg, iter, ifs, 0⟩] scope pos) (some (.Name y py)) spos.line X.env = pure true) (hf : X.fn y = true ∨ X.env.scope.names.lookup y = some .local) :
    PS X (.Assign [.Name y py] (.ListComp elt [⟨tg, iter, ifs, 0⟩] scope pos) spos) (tAsg (tComp wi g tt te js) (gName i)) := by
  intro pins s σ H D I h
  rw [exec_Assign_Name_used _ _ _ _ hsw]
  refine wpAny_bind (wpAny_standAt (wpAny_bind ?_))
  show wpAny _ X.A (do let _ ← comprehension (.ListComp elt [⟨tg, iter, ifs, 0⟩] scope pos) scope X.env _ (newList []) false (eval iter X.env) (some (assign (.Name y py) X.env))) _ _ s
  refine wpAny_bind (wpAny_mono (comp_run (use := some (assign (.Name y py) X.env)) (Qf := fun _ s' => SP X pins D .next s') O hc hi hg hif he hs I h fun s5 H4 l C m f J5 fp hn q => ?_) (fun _ s' hq => wpAny_pure (wpAny_pure hq)) fun _ _ e => e)
  obtain ⟨o, es, ep, ho, rr⟩ := hn
  have J6 := J5.pinned (fp := [C]) (fun b hb => by rw [List.mem_singleton.mp hb]; exact fp) fun b hb => ⟨o, by rw [List.mem_singleton.mp hb]; exact ho, fun v z => by rw [rr.1] at z; cases z⟩
  refine wpAny_assign_Name (store_ok J6 hN hi' hx (v := .ref l) rfl (fun s6 I6 => ?_) hf)
  have pc := (I6.pin (C, o) (List.mem_append_right _ (List.mem_append_right _ (mem_pinsAt (List.mem_singleton.mpr rfl) ho)))).1
  exact ⟨m, ⟨o, es, ep, pc, rr⟩, fun h' hs' => ⟨_, H4, I6.unpinned.turned (t' := s6.toks) (it := C) (fun b o hb e => hs'.extBut b o hb e) fp.1 fp.2.1 fp.2.2.2.1 fp.2.2.2.2.1 fp.2.2.2.2.2, q⟩⟩
noncomputable def Fgt (τ0 τ : DSt) : Prop := τ.length = τ0.length ∧ ∀ (i : Nat) d, τ0[i]? = some (some d) → τ[i]? = some (some d)
theorem SAbs.forget {K : PySem.W.Frag} {τ0 τ : DSt} {σ : St} {H : Hp} (h : SAbs K τ σ H) (f : Fgt τ0 τ) : SAbs K τ0 σ H := ⟨f.1.symm.trans h.1, fun i d e => h.2 i d (f.2 i d e)⟩
theorem SAbs.pick {K : PySem.W.Frag} {τ : DSt} {σ : St} {H : Hp} (h : SAbs K τ σ H) (js : List (Option Nat)) : SAbs K (pick js τ) (DL.pick js σ) H := by
  refine ⟨by unfold DL.pick; rw [List.length_map, List.length_map], fun i d e => ?_⟩
  obtain ⟨j, ej, ed⟩ := pick_get e
  obtain ⟨v, ev, iv⟩ := h.2 j d ed
  refine ⟨v, ?_, iv⟩
  unfold DL.pick
  rw [List.getElem?_map, ej]
  simp [ev]
noncomputable def compD (ds : List D) (g : TGd) (tt : TTd) (te : TEd) (js : List (Option Nat)) (τ : DSt) (M : DH) (Q : KD) : Prop := ds.length ≤ 1000000 ∧ ∃ f : D → Option D,
  (∀ d ∈ ds, ∀ p acc, M p = none → g d (pick js τ) (updM M p (.lst acc)) fun τ2 M2 => Fgt (pick js τ) τ2 ∧ tt τ2 M2 fun b M3 => if b = true then te τ2 M3 fun y M4 => M4 = updM M p (.lst acc) ∧ f d = some y else M3 = updM M p (.lst acc) ∧ f d = none) ∧
  ∀ p, M p = none → Q (.ref p) (updM M p (.lst (ds.filterMap f)))
noncomputable def compX (g : TGd) (tt : TTd) (te : TEd) (js : List (Option Nat)) (τ : DSt) : D → DH → KD → Prop
  | .tup ds, M, Q => compD ds g tt te js τ M Q
  | .rol ds, M, Q => compD ds g tt te js τ M Q
  | .str z, M, Q => compD (signs z) g tt te js τ M Q
  | .ref l, M, Q => ∃ ds, M l = some (.lst ds) ∧ compD ds g tt te js τ M Q
  | _, _, _ => False
noncomputable def eComp (ti : TEd) (g : TGd) (tt : TTd) (te : TEd) (js : List (Option Nat)) : TEd := fun τ M Q => ti τ M fun x M1 => compX g tt te js τ x M1 Q
noncomputable def tTrue : TTd := fun _ M Q => Q true M
noncomputable def DIfs (X : Cx) (ifs : List Expr) (t : TTd) : Prop := (ifs = [] ∧ t = tTrue) ∨ ∃ c, ifs = [c] ∧ PT X c (lowT X.K t)
theorem low_comp {K : PySem.W.Frag} {J : It} {ds : List D} {g : TGd} {ttd : TTd} {ted : TEd} {ttv : TT} {τ : DSt} {σ : St} {M : DH} {H H1 : Hp} {Q' : KD} {Q : VK} (hs : SAbs K τ σ H1) (e1 : Ext K H H1) (m1 : HAbs K M H1) (hq : lowQ K H Q' Q)
    (htt : ∀ σ H R, lowT K ttd σ H R → ttv σ H R) (hgv : ∀ l M2 H2, HAbs K M2 H2 → Ext K H1 H2 → (∀ a ds, M a = some (.lst ds) → M2 a = some (.lst ds)) → H1 l = none → Gives K J ds H2) (h : compD ds g ttd ted js τ M Q') :
    ∀ l, H1 l = none → ∃ W : Nat → Nat → St → Hp → Prop, (∃ m, W 0 m (pick js σ) (upd H1 l (.lst []))) ∧ ∀ i m σ2 H2, W i m σ2 H2 →
      (J.stop i H2 ∧ Q (.ref l) H2) ∨ (J.go i H2 ∧ ∀ x H3, J.yld i H2 x H3 → lowG K g x σ2 H3 fun σ4 H4 => ttv σ4 H4 fun b H5 => if b = true then low K ted σ4 H5 fun y H6 => ∃ ys, H6 l = some (.lst ys) ∧ ys.length < sizeLine ∧ ∃ m', m' < m ∧ W (i + 1) m' σ4 (upd H6 l (.lst (ys ++ [y])))
        else ∃ m', m' < m ∧ W (i + 1) m' σ4 H5) := by
  obtain ⟨hz, f, turn, done⟩ := h
  intro l hl
  have hMl : M l = none := m1.free hl
  refine ⟨fun i m σ2 H2 => m = ds.length - i ∧ i ≤ ds.length ∧ SAbs K (pick js τ) σ2 H2 ∧ HAbs K (updM M l (.lst ((ds.take i).filterMap f))) H2 ∧ Ext K H1 H2, ⟨ds.length, by simp, Nat.zero_le _, (hs.pick js).mono (ext_new hl), m1.newL hl .nil, ext_new hl⟩, ?_⟩
  rintro i m σ2 H2 ⟨rfl, hi, s2, m2, e2⟩
  have G := hgv l _ H2 m2 e2 (fun a es ea => by rw [updM_ne (by intro z; subst z; rw [hMl] at ea; cases ea)]; exact ea) hl
  by_cases hlt : i < ds.length
  · refine .inr ⟨G.go i hlt, fun x H3 y => ?_⟩
    obtain ⟨rfl, d, ed, id⟩ := G.yld i x H3 hlt y
    have hd : d ∈ ds := List.mem_of_getElem? ed
    have tk : (ds.take (i + 1)).filterMap f = (ds.take i).filterMap f ++ (match f d with | some y => [y] | none => []) := by
      rw [List.take_add_one, ed, List.filterMap_append]
      congr 1
      cases hfd : f d with
      | none => simp [hfd]
      | some y => simp [hfd]
    have hlen : ((ds.take i).filterMap f).length < sizeLine := by
      have h1 := List.length_filterMap_le f (ds.take i)
      have h2 : (ds.take i).length ≤ ds.length := by simp; (first | lia | omega)
      have h3 : sizeLine = 16777216 := sizeLine_eq
      (first | lia | omega)
    refine ⟨d, _, _, _, id, s2, m2, turn d hd l _ hMl, fun τ4 M4 σ4 H4 s4 m4 e4 zz0 => ?_⟩
    obtain ⟨fg, q4⟩ := zz0
    refine htt _ _ _ ⟨τ4, M4, _, s4, m4, q4, fun b M5 H5 m5 e5 q5 => ?_⟩
    cases b with
    | true =>
      rw [if_pos rfl] at q5 ⊢
      refine ⟨τ4, M5, _, s4.mono e5, m5, q5, fun y M6 v H6 m6 e6 i6 q6 => ?_⟩
      obtain ⟨rfl, fy⟩ := q6
      obtain ⟨ys, hy, iy⟩ := m6 l _ updM_same
      refine ⟨ys, hy, by rw [iy.length]; exact hlen, ds.length - (i + 1), by (first | lia | omega), rfl, hlt, ?_⟩
      obtain ⟨m7, e7⟩ := m6.setL updM_same hy (iy.append (.cons i6 .nil))
      refine ⟨((s4.forget fg).mono (e5.trans e6)).mono e7, ?_, e2.trans (e4.trans (e5.trans (e6.trans e7)))⟩
      rw [tk, fy]
      rw [updM_upd] at m7
      exact m7
    | false =>
      rw [if_neg Bool.false_ne_true] at q5 ⊢
      obtain ⟨rfl, fy⟩ := q5
      refine ⟨ds.length - (i + 1), by (first | lia | omega), rfl, hlt, (s4.forget fg).mono e5, ?_, e2.trans (e4.trans e5)⟩
      rw [tk, fy, List.append_nil]
      exact m5
  · have e : i = ds.length := by (first | lia | omega)
    subst e
    refine .inl ⟨G.stop, ?_⟩
    have q := done l hMl
    rw [List.take_length] at m2
    exact hq _ _ _ _ m2 (e1.trans e2) (.ref l) q
theorem d_comp {ti ted : TEd} {gd : TGd} {ttd : TTd} (O : CompOk X Nc js scope cl) (hc : X.calm = true) (hi : PE X iter (low X.K ti)) (hg : ∀ C s H fp, PG (compCx X Nc scope cl C s H fp) tg (lowG X.K gd)) (hif : ∀ C s H fp, DIfs (compCx X Nc scope cl C s H fp) ifs ttd) (he : ∀ C s H fp, PE (compCx X Nc scope cl C s H fp) elt (low X.K ted))
    (hs : ∀ x, foldedSetIterable iter X.env x = pure x := by intro _; rfl) : PE X (.ListComp elt [⟨tg, iter, ifs, 0⟩] scope pos) (low X.K (eComp ti gd ttd ted js)) := by
  intro pins s0 σ0 H0 Q0 I0 hw
  obtain ⟨ttv, hif', htt⟩ : ∃ ttv : TT, (∀ C s H fp, PIfs (compCx X Nc scope cl C s H fp) ifs ttv) ∧ ∀ σ H R, lowT X.K ttd σ H R → ttv σ H R := by
    rcases hif 0 s0 H0 [] with ⟨e1, e2⟩ | ⟨c, e1, _⟩
    · subst e1 e2
      refine ⟨_, fun _ _ _ _ => .inl ⟨rfl, rfl⟩, fun σ H R zz0 => ?_⟩
      obtain ⟨τ, M, Q', _, hm, h, hq⟩ := zz0
      exact hq true M H hm (Ext.refl H) h
    · subst e1
      refine ⟨lowT X.K ttd, fun C s H fp => ?_, fun σ H R h => h⟩
      rcases hif C s H fp with ⟨e1, _⟩ | ⟨c', e1, h⟩
      · cases e1
      · cases e1
        exact .inr ⟨c, rfl, h⟩
  refine ((pe_comp O hc (pi_any hi) hg hif' he hs).imp (t' := low X.K (eComp ti gd ttd ted js)) fun σ H Q zz0 => ?_) pins s0 σ0 H0 Q0 I0 hw
  obtain ⟨τ, M, Q', hs, hm, h, hq⟩ := zz0
  refine ⟨τ, M, _, hs, hm, h, fun x M1 v H1 m1 e1 i1 h1 => ?_⟩
  cases i1 with
  | @tup a xs ds hx hxs => exact .inl ⟨a, rfl, .inr ⟨⟨xs, hx⟩, low_comp (hs.mono e1) e1 m1 hq htt (fun l M2 H2 m2 e2 _ _ => gives_tup (e2.t _ _ hx) (hxs.mono e2)) h1⟩⟩
  | @rol a xs ds hx hxs => exact .inl ⟨a, rfl, .inl ⟨⟨xs, hx.sq⟩, low_comp (hs.mono e1) e1 m1 hq htt (fun l M2 H2 m2 e2 _ _ => gives_list (e2.f _ _ hx).sq (hxs.mono e2)) h1⟩⟩
  | str z => exact .inr ⟨z, rfl, low_comp (hs.mono e1) e1 m1 hq htt (fun l M2 H2 m2 e2 _ _ => gives_str z) h1⟩
  | ref l0 =>
    obtain ⟨ds, hl, w⟩ := h1
    obtain ⟨xs, hx, hxs⟩ := m1 l0 _ hl
    exact .inl ⟨l0, rfl, .inl ⟨⟨xs, SqL.of hx⟩, low_comp (hs.mono e1) e1 m1 hq htt (fun l M2 H2 m2 e2 hk _ => let ⟨ys, hy, iy⟩ := m2.lst (hk l0 ds hl); gives_list hy iy) w⟩⟩
  | _ => exact h1.elim
end
end DL
namespace DL
open PySem PySem.Spec PyProof.Rows L2
section
variable {X : Cx} {e a b c tg : Expr} {pos : Pos} {ta tb te : TEd} {tc : TTd}
noncomputable def eNeg (te : TEd) : TEd := fun τ M Q => te τ M fun x M1 => onInt x fun i => Q (.int (-i)) M1
theorem d_neg (h : PE X a (low X.K ta)) : PE X (.UnaryOp .USub a pos) (low X.K (eNeg ta)) :=
  L2.PE.imp (pe_un un_neg h) fun σ H Q ⟨τ, M, Q', hs, hm, h, hq⟩ => ⟨τ, M, _, hs, hm, h, fun x M1 v H1 m1 e1 i1 h1 => by
    cases i1 with
    | int i => exact ⟨i, rfl, hq _ M1 _ H1 m1 e1 (.int _) h1⟩
    | _ => exact h1.elim⟩
noncomputable def eIfx (t : TTd) (ta tb : TEd) : TEd := fun τ M Q => t τ M fun k M1 => if k = true then ta τ M1 Q else tb τ M1 Q
theorem d_ifx (hc : PT X c (lowT X.K tc)) (ha : PE X a (low X.K ta)) (hb : PE X b (low X.K tb)) : PE X (.IfExp c a b pos) (low X.K (eIfx tc ta tb)) :=
  L2.PE.imp (pe_ifExp hc ha hb) fun σ H Q ⟨τ, M, Q', hs, hm, h, hq⟩ => ⟨τ, M, _, hs, hm, h, fun k M1 H1 m1 e1 h1 => by
    cases k with
    | true => rw [if_pos rfl] at h1 ⊢; exact ⟨τ, M1, Q', hs.mono e1, m1, h1, hq.ext e1⟩
    | false => rw [if_neg Bool.false_ne_true] at h1 ⊢; exact ⟨τ, M1, Q', hs.mono e1, m1, h1, hq.ext e1⟩⟩
noncomputable def sRetN : TSd := fun E _ M => E.rt .non M
noncomputable def leSD : D → D → DH → KD → Prop
  | .int i, .int j, M, Q => Q (.bl (decide (i ≤ j))) M
  | .str i, .str j, M, Q => Q (.bl (!decide (j.cps.toList < i.cps.toList))) M
  | _, _, _, _ => False
theorem od_le : OpD X (compareOp .LtE) leSD := by
  rintro pins s σ H vx vy v u Q I rx ry ⟨x, y, M, Q', ix, iy, hm, q, hq⟩
  cases ix with
  | int i => cases iy with
    | int j => exact op_le pins s σ H _ _ v u Q I rx ry ⟨_, _, rfl, rfl, hq.here hm (.bl _) q⟩
    | _ => exact q.elim
  | str i => cases iy with
    | str j =>
      obtain ⟨t, rfl⟩ := rx
      obtain ⟨t', rfl⟩ := ry
      exact PySem.P.le_str ⟨.bl _, H, I, rfl, hq.here hm (.bl _) q⟩
    | _ => exact q.elim
  | _ => first | exact q.elim | (cases iy <;> exact q.elim)
noncomputable def inD (neg : Bool) : D → D → DH → KD → Prop
  | .str i, .str j, M, Q => ∃ k, i.cps.toList = [k] ∧ Q (.bl (if neg then !decide (k ∈ j.cps.toList) else decide (k ∈ j.cps.toList))) M
  | _, _, _, _ => False
theorem one_sign {i : Str} {k : Nat} (h : i.cps.toList = [k]) : i = ⟨#[k]⟩ := by
  cases i with
  | mk cps => have : cps = #[k] := by rw [← Array.toArray_toList (xs := cps), h]
              rw [this]
noncomputable def for3D (g : TGd) (tb : TSd) (E : EndsD) (τ : DSt) : List D → DH → Prop
  | [.int lo, .int j, .int st], M => (st = -1 ∧ -(2 ^ 62) ≤ lo ∧ lo < 2 ^ 62 ∧ -(2 ^ 62) ≤ j ∧ j < 2 ^ 62) ∧ walkR (fun i => lo - (i : Int)) (lo - j).toNat g tb E τ M
  | _, _ => False
noncomputable def sFor3 (ta : TAd) (g : TGd) (tb : TSd) : TSd := fun E τ M => ta τ M fun vs M1 => for3D g tb E τ vs M1
noncomputable def maxL : List D → DH → KD → Prop
  | [.ref l], M, Q => ∃ ns : List Int, ns ≠ [] ∧ M l = some (.lst (ns.map .int)) ∧ ∀ m, m ∈ ns → (∀ k ∈ ns, k ≤ m) → Q (.int m) M
  | _, _, _ => False
theorem ints_of {K : PySem.W.Frag} {H : Hp} : ∀ {vs : List V} {us : List Value} {ns : List Int}, Iss K H vs (ns.map D.int) → Vals vs us → IntsAre us ns
  | _, _, [], .nil, .nil => .nil
  | _, _, n :: ns, .cons i t, .cons r t' => by
    (first | cases i.inv | cases i)
    obtain ⟨tk, rfl⟩ := r
    exact .cons n tk (ints_of t t')
theorem cd_maxL (hc : X.calm = true) : CallD X (.builtin "max") maxL := by
  rintro pins s σ H vs us Q I r ⟨ds, M, Q', iss, hm, q, hq⟩
  match ds, q, iss with
  | [.ref l], q, iss =>
    obtain ⟨v, rfl, i⟩ := iss1 iss
    cases i with
    | ref =>
      obtain ⟨ns, hne, hl, q⟩ := q
      obtain ⟨u, rfl, rx⟩ := vals1 r
      cases rx
      obtain ⟨xs, hx, hxs⟩ := hm.lst hl
      obtain ⟨its, r1, p1, _⟩ := I.list hx
      have hi := ints_of hxs r1
      obtain ⟨ys, e⟩ := hi.allInts.items
      have hns : ns = ys.toList.map (·.1) := by rw [← hi.numsOf, ← nums_intItems, ← e]
      have hsz : 0 < ys.size := by
        cases ns with
        | nil => exact absurd rfl hne
        | cons n ns => have := congrArg List.length hns; simp at this; (first | lia | omega)
      have p2 := p1.isList
      rw [e] at p2
      refine max_intList (I.ok.hd hc) p2 hsz fun v h' tk hv hk => ?_
      obtain ⟨t, rfl⟩ := intItems_at hv
      obtain ⟨h1, h2⟩ := argBest_gt (numAt ys) (ys.size - 1)
      refine ⟨.int _, H, I.kept hk, ⟨t, rfl⟩, hq.here hm (.int _) (q _ ?_ fun a ha => ?_)⟩
      · rw [hns, numAt_eq]; exact getD_mem (by rw [List.length_map, Array.length_toList]; (first | lia | omega))
      · rw [hns] at ha
        obtain ⟨j, hj, rfl⟩ := mem_getD ha
        rw [List.length_map, Array.length_toList] at hj
        rw [← numAt_eq]; exact h2 j (by (first | lia | omega))
noncomputable def allD : List D → DH → KD → Prop
  | [.ref l], M, Q => ∃ bs : List Bool, M l = some (.lst (bs.map .bl)) ∧ Q (.bl (bs.all id)) M
  | _, _, _ => False
theorem bools_get {K : PySem.W.Frag} {H : Hp} : ∀ {bs : List Bool} {vs : List V} {us : List Value} {i : Nat} {v : Value}, Iss K H vs (bs.map D.bl) → Vals vs us → us[i]? = some v → ∃ b, bs[i]? = some b ∧ v = .bool b
  | [], _, _, _, _, h, r, e => by cases h; cases r; cases e
  | b :: bs, _, _, i, v, h, r, e => by
    cases h with
    | cons h t => cases r with
      | cons r t' => cases i with
        | zero =>
          cases e
          cases h.inv
          cases r
          exact ⟨b, rfl, rfl⟩
        | succ k => exact bools_get (i := k) t t' e
theorem cd_all (hc : X.calm = true) : CallD X (.builtin "all") allD := by
  rintro pins s σ H vs us Q I r ⟨ds, M, Q', iss, hm, q, hq⟩
  match ds, q, iss with
  | [.ref l], q, iss =>
    obtain ⟨v, rfl, i⟩ := iss1 iss
    cases i with
    | ref =>
      obtain ⟨bs, hl, q⟩ := q
      obtain ⟨u, rfl, rx⟩ := vals1 r
      cases rx
      obtain ⟨xs, hx, hxs⟩ := hm.lst hl
      obtain ⟨its, r1, p1, _⟩ := I.list hx
      have p2 := p1.isList
      have hlt : l < s.heap.objs.size := by obtain ⟨_, e, _⟩ := p2; exact Heap.lt_size e
      have hlen : its.toArray.size = bs.length := by rw [List.size_toArray, ← r1.length, hxs.length, List.length_map]
      refine call_all_walk (wpAny_pyIter_list p2 ?_)
      refine ⟨s.heap.objs.size, [s.heap.objs.size, l], [s.heap.objs.size], its.toArray.size, _, _, fun i => (bs[i]?).getD true, rfl, Walks.list (A := X.A.in1) (I.ok.hd hc) _ l (Nat.ne_of_lt hlt) its.toArray,
        ⟨⟨_, Heap.get?_push_size _ rfl, rfl, rfl⟩, p2.push _⟩, fun i v s' Q' E' hP hQ => ?_, fun h' tk hk => ?_⟩
      · obtain ⟨b, e, rfl⟩ := bools_get hxs r1 (by simpa using hP)
        simp only [e, Option.getD_some] at hQ
        exact wpAny_truthy_bool hQ
      · have e : ((List.range its.toArray.size).all fun i => (bs[i]?).getD true) = bs.all id := by
          rw [hlen]
          clear hlen hxs hl q
          induction bs with
          | nil => rfl
          | cons b bs ih =>
            rw [List.length_cons, List.range_succ_eq_map, List.all_cons, List.all_map, List.all_cons]
            have : ((fun i => ((b :: bs)[i]?).getD true) ∘ Nat.succ) = fun i => (bs[i]?).getD true := by funext i; simp
            rw [this, ih]
            rfl
        rw [e]
        exact ⟨.bl _, H, I.kept fun b x eb => hk b x (fun hm => by rw [List.mem_singleton.mp hm] at eb; exact Nat.lt_irrefl _ (Heap.lt_size eb)) (Heap.get?_push_of_some _ eb), rfl, hq.here hm (.bl _) q⟩
theorem len_2 {i j : Nat} : ∀ ds τ M Q, hCons (hName i) (hCons (hName j) hNil) ds τ M Q → ds.length = 2 := fun ds τ M Q h => by
  match ds, h with
  | [], h => exact h.elim
  | [_], h => exact h.elim
  | [_, _], h => rfl
  | _ :: _ :: _ :: _, h => exact h.elim
theorem bt_len : bootBuiltins "len" = some (.builtin "len") := by decide +kernel
theorem bt_max : bootBuiltins "max" = some (.builtin "max") := by decide +kernel
theorem bt_all : bootBuiltins "all" = some (.builtin "all") := by decide +kernel
theorem bt_isinstance : bootBuiltins "isinstance" = some (.builtin "isinstance") := by decide +kernel
theorem bt_str : bootBuiltins "str" = some (.type "str") := by decide +kernel
theorem bt_tuple : bootBuiltins "tuple" = some (.type "tuple") := by decide +kernel
theorem bt_list : bootBuiltins "list" = some (.type "list") := by decide +kernel
theorem comp_ok0 {Nc : List Str} {js : List (Option Nat)} {scope : Scope} (hf : ∀ x ∈ scope.names, x.2 ≠ .free) (hc : ∀ y ∈ scope.names, y.2 ≠ .cell) (hn : ∀ y ∈ scope.names, y.2 = .local → scope.names.lookup y.1 = some .local)
    (hk : scope.kind = .function) (hj : js = Nc.map fun _ => none) : CompOk X Nc js scope [] := by
  have hr : (relabel scope X.env).names = scope.names := by
    unfold relabel
    show scope.names.map _ = scope.names
    refine map_eq_self fun x hx => ?_
    obtain ⟨n, k⟩ := x
    have h1 : (k == NameKind.free) = false := by simpa using hf _ hx
    simp [h1]
  refine ⟨hk, closureFor_none hf, hc, hn, fun p hp => (nomatch hp), ?_, by rw [hj, List.length_map], fun i j x h => ?_⟩
  · rw [hr, List.all_eq_true]
    intro p hp
    have h1 : (p.2 != NameKind.cell) = true := by simpa using hc p hp
    have h2 : (p.2 != NameKind.free) = true := by simpa using hf p hp
    simp [h1, h2]
  · rw [hj, List.getElem?_map] at h
    cases q : Nc[i]? with
    | none => rw [q] at h; cases h
    | some y => rw [q] at h; cases h
noncomputable def mulSD : D → D → DH → KD → Prop
  | .int i, .int j, M, Q => CMul i j ∧ Q (.int (i * j)) M
  | .str z, .int n, M, Q => (z.length ≤ 100000 ∧ 0 ≤ n ∧ n ≤ 100) ∧ Q (.str (Txt.mul z n)) M
  | _, _, _, _ => False
theorem od_mulS : OpD X (binaryOp .Mult) mulSD := by
  rintro pins s σ H vx vy v u Q I rx ry ⟨x, y, M, Q', ix, iy, hm, q, hq⟩
  cases ix with
  | int i => cases iy with
    | int j => exact op_mul pins s σ H _ _ v u Q I rx ry ⟨_, _, rfl, rfl, q.1, hq.here hm (.int _) q.2⟩
    | _ => exact q.elim
  | str z => cases iy with
    | int n =>
      obtain ⟨⟨h1, h2, h3⟩, q⟩ := q
      obtain ⟨t, rfl⟩ := rx
      obtain ⟨t', rfl⟩ := ry
      have hz : z.length * n.toNat ≤ 100000 * 100 := Nat.mul_le_mul h1 (by (first | lia | omega))
      refine SB.mul ⟨?_, fun h4 _ => ?_, fun _ _ => ?_⟩ fun t2 k => ⟨.str _, H, I.tok k, ⟨_, rfl⟩, hq.here hm (.str _) q⟩
      · have e1 : decide (n < -(2 ^ 63 : Int)) = false := decide_eq_false (by (first | lia | omega))
        have e2 : decide (n ≥ 2 ^ 63) = false := decide_eq_false (by (first | lia | omega))
        rw [e1, e2]; rfl
      · have h5 : (100 : Int) * 92233720368547758 ≤ (2 ^ 63 - 1) := by decide
        have h6 : (92233720368547758 : Int) ≤ (2 ^ 63 - 1) / n := by
          rw [Int.le_ediv_iff_mul_le (by (first | lia | omega))]
          calc (92233720368547758 : Int) * n ≤ 92233720368547758 * 100 := Int.mul_le_mul_of_nonneg_left h3 (by decide)
            _ ≤ _ := by decide
        (first | lia | omega)
      · unfold Builtin.Str.tooLong
        simp only [decide_eq_false_iff_not]
        have h3 : sizeLine = 16777216 := sizeLine_eq
        (first | lia | omega)
    | _ => exact q.elim
  | _ => first | exact q.elim | (cases iy <;> exact q.elim)
end
end DL
namespace DL
open PySem PySem.Spec PyProof.Rows L2
section
variable {X : Cx} {tg : Expr} {g : TGd} {tb : TSd} {pos : Pos}
end
end DL
namespace DL
open PySem PySem.Spec PyProof.Rows L2
noncomputable def cloF (cells : List (Str × Addr)) : List (Str × NameKind) → List (Str × Addr) → List (Str × Addr)
  | [], acc => acc
  | (n, k) :: r, acc => cloF cells r (if k == .free then (n, (cells.lookup n).getD 0) :: acc else acc)
theorem clos_for {env : Env} : ∀ (names : List (Str × NameKind)) (acc : List (Str × Addr)), (∀ y ∈ names, y.2 = .free → ∃ c, env.cells.lookup y.1 = some c) →
    (forIn (m := Sem) names acc fun x cs => if x.2 == NameKind.free then do let c ← cellOf env x.1; pure (ForInStep.yield ((x.1, c) :: cs)) else pure (ForInStep.yield cs)) = pure (cloF env.cells names acc)
  | [], acc, _ => rfl
  | (n, k) :: r, acc, h => by
    rw [List.forIn_cons]
    have ih := fun acc' => clos_for (env := env) r acc' fun y hy => h y (List.mem_cons_of_mem _ hy)
    by_cases hk : (k == NameKind.free) = true
    · obtain ⟨c, hc⟩ := h (n, k) List.mem_cons_self (by simpa using hk)
      have hc' : env.cells.lookup n = some c := hc
      have e1 : cellOf env n = pure c := by unfold cellOf; rw [hc']
      simp only [hk, if_true, e1, pure_bind, ih]
      rw [cloF, if_pos hk, hc']
      rfl
    · have hk' : (k == NameKind.free) = false := by simpa using hk
      simp only [hk', Bool.false_eq_true, if_false, pure_bind, ih]
      rw [cloF, if_neg (by simp [hk'])]
theorem clos_of {env : Env} {scope : Scope} (h : ∀ y ∈ scope.names, y.2 = .free → ∃ c, env.cells.lookup y.1 = some c) : closureFor scope env = pure (cloF env.cells scope.names []) := by
  have z := clos_for (env := env) scope.names [] h
  simp only [closureFor]
  first
    | exact z
    | (simp only [bind_pure]; exact z)
    | (rw [z]; rfl)
theorem cloF_mem {cells : List (Str × Addr)} : ∀ (names : List (Str × NameKind)) (acc : List (Str × Addr)) (p : Str × Addr), (∀ y ∈ names, y.2 = .free → ∃ c, cells.lookup y.1 = some c) → p ∈ cloF cells names acc → p ∈ acc ∨ cells.lookup p.1 = some p.2
  | [], acc, p, _, h => .inl h
  | (n, k) :: r, acc, p, hf, h => by
    rw [cloF] at h
    rcases cloF_mem r _ p (fun y hy => hf y (List.mem_cons_of_mem _ hy)) h with h | h
    · by_cases hk : (k == NameKind.free) = true
      · rw [if_pos hk] at h
        rcases List.mem_cons.mp h with rfl | h
        · obtain ⟨c, hc⟩ := hf (n, k) List.mem_cons_self (by simpa using hk)
          have hc' : cells.lookup n = some c := hc
          exact .inr (by show cells.lookup n = some ((cells.lookup n).getD 0); rw [hc']; rfl)
        · exact .inl h
      · rw [if_neg hk] at h; exact .inl h
    · exact .inr h
theorem cloF_some {cells : List (Str × Addr)} {x : Str} : ∀ (names : List (Str × NameKind)) (acc : List (Str × Addr)), (x, NameKind.free) ∈ names ∨ (acc.lookup x).isSome = true → ((cloF cells names acc).lookup x).isSome = true
  | [], acc, h => h.elim (fun h => (nomatch h)) id
  | (n, k) :: r, acc, h => by
    rw [cloF]
    refine cloF_some r _ ?_
    by_cases hk : (k == NameKind.free) = true
    · rw [if_pos hk]
      by_cases hx : (x == n) = true
      · exact .inr (by rw [List.lookup_cons, hx]; rfl)
      · have hx' : (x == n) = false := by simpa using hx
        rcases h with h | h
        · rcases List.mem_cons.mp h with h | h
          · cases h; simp at hx
          · exact .inl h
        · exact .inr (by rw [List.lookup_cons, hx']; exact h)
    · rw [if_neg hk]
      rcases h with h | h
      · rcases List.mem_cons.mp h with h | h
        · cases h; simp at hk
        · exact .inl h
      · exact .inr h
theorem relabel_free {env : Env} (hk : env.scope.kind = .function) : ∀ {names : List (Str × NameKind)} {x : Str}, names.lookup x = some .free → env.kindOf x = some .cell →
    (names.map fun (n, k) => if (k == NameKind.free && env.scope.kind == .function && env.kindOf n == some .cell) then (n, NameKind.cell) else (n, k)).lookup x = some .cell
  | [], _, h, _ => by simp at h
  | (n, k) :: r, x, h, hx => by
    have ih := @relabel_free env hk r x
    show List.lookup x ((if (k == NameKind.free && env.scope.kind == .function && env.kindOf n == some .cell) = true then (n, NameKind.cell) else (n, k)) :: _) = _
    cases e : x == n with
    | true =>
      simp only [List.lookup_cons, e] at h
      cases h
      have en : x = n := by simpa using e
      subst en
      rw [if_pos (by simp [hk, hx])]
      simp [List.lookup_cons]
    | false =>
      simp only [List.lookup_cons, e] at h
      by_cases hc : (k == NameKind.free && env.scope.kind == .function && env.kindOf n == some .cell) = true
      · rw [if_pos hc]; simp only [List.lookup_cons, e]; exact ih h hx
      · rw [if_neg hc]; simp only [List.lookup_cons, e]; exact ih h hx
noncomputable def frOk (N : List Str) (ns : List (Str × NameKind)) : List (Option Nat) → List Str → Bool
  | none :: js, _ :: Nc => frOk N ns js Nc
  | some j :: js, x :: Nc => decide (N[j]? = some x) && decide (ns.lookup x = some .free) && frOk N ns js Nc
  | [], [] => true
  | _, _ => false
theorem frOk_len {N : List Str} {ns : List (Str × NameKind)} : ∀ {js : List (Option Nat)} {Nc : List Str}, frOk N ns js Nc = true → js.length = Nc.length
  | [], [], _ => rfl
  | [], _ :: _, h => nof h
  | none :: _, [], h => nof h
  | some _ :: _, [], h => nof h
  | none :: js, _ :: Nc, h => congrArg (· + 1) (frOk_len (js := js) (Nc := Nc) h)
  | some j :: js, x :: Nc, h => congrArg (· + 1) (frOk_len (js := js) (Nc := Nc) (Bool.and_eq_true_iff.mp h).2)
theorem frOk_get {N : List Str} {ns : List (Str × NameKind)} : ∀ {js : List (Option Nat)} {Nc : List Str} {i j : Nat} {x : Str}, frOk N ns js Nc = true → js[i]? = some (some j) → Nc[i]? = some x → N[j]? = some x ∧ ns.lookup x = some .free
  | [], _, _, _, _, _, e, _ => (nomatch e)
  | _ :: _, [], _, _, _, _, _, e => (nomatch e)
  | none :: js, _ :: Nc, 0, _, _, _, e, _ => (nomatch e)
  | none :: js, _ :: Nc, i + 1, j, x, h, e1, e2 => frOk_get (js := js) (Nc := Nc) (i := i) h e1 e2
  | some j' :: js, y :: Nc, 0, j, x, h, e1, e2 => by
    cases e1
    cases e2
    have h := Bool.and_eq_true_iff.mp (Bool.and_eq_true_iff.mp h).1
    exact ⟨of_decide_eq_true h.1, of_decide_eq_true h.2⟩
  | some j' :: js, y :: Nc, i + 1, j, x, h, e1, e2 => by
    exact frOk_get (js := js) (Nc := Nc) (i := i) (Bool.and_eq_true_iff.mp h).2 e1 e2
section
variable {X : Cx}
theorem comp_okF {Nc : List Str} {js : List (Option Nat)} {scope : Scope} {n : Nat} (N : List Str) (ns : List (Str × NameKind)) (hN : X.N = N) (hS : X.env.scope.names = ns) (hE : X.env.cells = cellsFrom n X.env.scope.names []) (hK : X.env.scope.kind = .function)
    (hfr : ∀ y ∈ scope.names, y.2 = .free → ns.lookup y.1 = some .cell) (hc : ∀ y ∈ scope.names, y.2 ≠ .cell) (hn : ∀ y ∈ scope.names, y.2 = .local → scope.names.lookup y.1 = some .local)
    (hk : scope.kind = .function) (hj : frOk N scope.names js Nc = true) : CompOk X Nc js scope (cloF X.env.cells scope.names []) := by
  have hcell : ∀ y ∈ scope.names, y.2 = .free → ∃ c, X.env.cells.lookup y.1 = some c := fun y hy hf => by
    rw [hE, hS]; exact L2.cell_has (sc := { X.env.scope with names := ns }) (hfr y hy hf)
  refine ⟨hk, clos_of hcell, hc, hn, fun p hp => ?_, ?_, frOk_len hj, fun i j x e1 e2 => ?_⟩
  · rcases cloF_mem _ _ p hcell hp with h | h
    · cases h
    · exact h
  · unfold relabel
    rw [List.all_map, List.all_eq_true]
    rintro ⟨y, k⟩ hp
    by_cases hf : k = .free
    · subst hf
      have z := cloF_some (cells := X.env.cells) (x := y) scope.names [] (.inl hp)
      simp only [Function.comp]
      split <;> (rw [z]; simp)
    · have h1 : (k == NameKind.free) = false := by simpa using hf
      have h2 : k ≠ .cell := hc _ hp
      simp [h1, h2, hf]
  · obtain ⟨h1, h2⟩ := frOk_get hj e1 e2
    have hx : X.env.kindOf x = some .cell := by
      show X.env.scope.names.lookup x = _
      rw [hS]; exact hfr (x, .free) (PySem.mem_of_lookup h2) rfl
    exact ⟨by rw [hN]; exact h1, .inl hx, .inl (relabel_free hK h2 hx), rfl⟩
end
end DL
namespace DL
open PySem PySem.Spec PyProof.Rows L2
noncomputable def keyD : Key → D
  | .inl i => .int i
  | .inr x => .str x
noncomputable def keyOf : D → Option Key
  | .int i => some (.inl i)
  | .str x => some (.inr x)
  | _ => none
noncomputable def valD (kvs : List (Key × D)) (k : Key) : Option D := (kvs.find? fun kv => decide (kv.1 = k)).map (·.2)
noncomputable def putD (kvs : List (Key × D)) (k : Key) (d : D) : List (Key × D) :=
  if (kvs.any fun kv => decide (kv.1 = k)) = true then kvs.map (fun kv => if kv.1 = k then (kv.1, d) else kv) else kvs ++ [(k, d)]
theorem valD_nil {k : Key} : valD [] k = none := rfl
theorem valD_pos {p : Key × D} {r : List (Key × D)} {k : Key} (e : p.1 = k) : valD (p :: r) k = some p.2 := by simp [valD, List.find?_cons, e]
theorem valD_neg {p : Key × D} {r : List (Key × D)} {k : Key} (e : ¬ p.1 = k) : valD (p :: r) k = valD r k := by simp [valD, List.find?_cons, e]
theorem valD_any (k : Key) : ∀ kvs : List (Key × D), (kvs.any fun kv => decide (kv.1 = k)) = (valD kvs k).isSome
  | [] => rfl
  | p :: r => by
    rw [List.any_cons]
    by_cases e : p.1 = k
    · rw [valD_pos e, decide_eq_true e]; rfl
    · rw [valD_neg e, decide_eq_false e, Bool.false_or]; exact valD_any k r
theorem putD_new {kvs : List (Key × D)} {k : Key} (d : D) (h : valD kvs k = none) : putD kvs k d = kvs ++ [(k, d)] := by
  unfold putD; rw [valD_any, h]; exact if_neg (by decide)
theorem putD_old {kvs : List (Key × D)} {k : Key} (d : D) (h : (valD kvs k).isSome = true) : putD kvs k d = kvs.map fun kv => if kv.1 = k then (kv.1, d) else kv := by
  unfold putD; rw [valD_any, h]; exact if_pos rfl
noncomputable abbrev PKD (K : PySem.W.Frag) (H : Hp) : List (Key × V) → List (Key × D) → Prop := Paired fun (p : Key × V) (q : Key × D) => p.1 = q.1 ∧ Is K H p.2 q.2
section
variable {K : PySem.W.Frag} {M : DH} {H H' : Hp} {kx : List (Key × V)} {kvs : List (Key × D)} {k : Key} {p : Addr}
theorem key_is {v : V} {d : D} (i : Is K H v d) (e : keyOf d = some k) : v = kV k := by
  cases i with
  | int j => cases e; rfl
  | str x => cases e; rfl
  | _ => cases e
theorem pkd_some (r : PKD K H kx kvs) {d : D} (e : valD kvs k = some d) : ∃ v, valV kx k = some v ∧ Is K H v d := by
  induction r with
  | nil => rw [valD_nil] at e; cases e
  | @cons a b as bs h t ih =>
    by_cases hk : b.1 = k
    · rw [valD_pos hk] at e
      cases e
      exact ⟨a.2, valV_pos (h.1.trans hk), h.2⟩
    · rw [valD_neg hk] at e
      obtain ⟨v, h1, h2⟩ := ih e
      exact ⟨v, by rw [valV_neg fun z => hk (h.1.symm.trans z)]; exact h1, h2⟩
theorem pkd_none (r : PKD K H kx kvs) (e : valD kvs k = none) : valV kx k = none := by
  induction r with
  | nil => rfl
  | @cons a b as bs h t ih =>
    have hk : ¬ b.1 = k := fun z => by rw [valD_pos z] at e; cases e
    rw [valD_neg hk] at e
    rw [valV_neg fun z => hk (h.1.symm.trans z)]
    exact ih e
theorem pkd_isSome (r : PKD K H kx kvs) : (valV kx k).isSome = (valD kvs k).isSome := by
  cases e : valD kvs k with
  | none => rw [pkd_none r e]; rfl
  | some d => obtain ⟨v, h1, _⟩ := pkd_some r e; rw [h1]; rfl
theorem pkd_length (r : PKD K H kx kvs) : kx.length = kvs.length := Paired.length r
theorem pkd_mono0 (e : Ext0 K H H') (r : PKD K H kx kvs) : PKD K H' kx kvs := r.impP fun _ _ ⟨r1, r2⟩ => ⟨r1, r2.mono0 e⟩
theorem pkd_mono (e : Ext K H H') (r : PKD K H kx kvs) : PKD K H' kx kvs := r.impP fun _ _ ⟨r1, r2⟩ => ⟨r1, r2.mono e⟩
theorem pkd_put (r : PKD K H kx kvs) {v : V} {d : D} (i : Is K H v d) : PKD K H (putK kx k v) (putD kvs k d) := by
  have e : (kx.any fun kv => decide (kv.1 = k)) = kvs.any fun kv => decide (kv.1 = k) := by rw [valV_any, valD_any, pkd_isSome r]
  unfold putK putD
  rw [e]
  by_cases q : (kvs.any fun kv => decide (kv.1 = k)) = true
  · rw [if_pos q, if_pos q]
    clear e q
    induction r with
    | nil => exact .nil
    | @cons a b as bs h t ih =>
      rw [List.map_cons, List.map_cons]
      refine .cons ?_ ih
      by_cases z : b.1 = k
      · rw [if_pos z, if_pos (h.1.trans z)]; exact ⟨h.1, i⟩
      · rw [if_neg z, if_neg fun y => z (h.1.symm.trans y)]; exact h
  · rw [if_neg q, if_neg q]; exact Paired.snoc r ⟨rfl, i⟩
noncomputable abbrev DicAt (M : DH) (a : Addr) (kvs : List (Key × D)) : Prop := M a = some (.dic kvs) ∨ M a = some (.fdc kvs)
theorem HAbs.dic {kvs : List (Key × D)} {a : Addr} (h : HAbs K M H) (e : DicAt M a kvs) : ∃ kx, Rd H a (.dK kx) ∧ PKD K H kx kvs := by
  rcases e with e | e
  · obtain ⟨kx, h1, h2⟩ := h a _ e; exact ⟨kx, .inl h1, h2⟩
  · obtain ⟨o, kx, h1, h2⟩ := h a _ e; exact ⟨kx, .inr ⟨o, h1⟩, h2⟩
theorem HAbs.newK (h : HAbs K M H) (e : H p = none) : HAbs K (updM M p (.dic [])) (upd H p (.dK [])) := h.newM e (show MOk K _ p (.dic []) from ⟨[], upd_same, .nil⟩)
theorem HAbs.setK {es : List (Key × D)} {ys : List (Key × V)} (h : HAbs K M H) (hx : H p = some (.dK kx)) (hy : PKD K H ys es) : HAbs K (updM M p (.dic es)) (upd H p (.dK ys)) ∧ Ext K H (upd H p (.dK ys)) := by
  have ex : Ext K H (upd H p (.dK ys)) := ext_upd (fun zs s => by rcases s with s | ⟨u, s⟩ <;> rw [hx] at s <;> cases s) (fun u xs s => by rw [hx] at s; cases s)
  refine ⟨fun a u q => ?_, ex⟩
  by_cases z : a = p
  · subst z; rw [updM_same] at q; cases q; exact ⟨ys, upd_same, pkd_mono ex hy⟩
  · rw [updM_ne z] at q
    exact (h a u q).mono ex.e0 (fun v w => by rw [upd_ne z]; exact w) (fun dx w => by rw [upd_ne (ne_of w hx (by intro k; cases k))]; exact w)
end
section
variable {X : Cx} {e a b c o f : Expr} {es : List Expr} {pos apos cpos : Pos} {ta tb tc te td ty tx : TEd} {n : Nat}
noncomputable def eDict0 : TEd := fun _ M Q => ∀ p, M p = none → Q (.ref p) (updM M p (.dic []))
theorem d_dict0 : PE X (.Dict [] [] pos) (low X.K eDict0) :=
  pe_dnewK.imp fun σ H Q ⟨τ, M, Q', hs, hm, h, hq⟩ p hp => hq _ _ _ _ (hm.newK hp) (ext_new hp) (.ref p) (h p (hm.free hp))
noncomputable def D.flat : D → Bool
  | .non => true
  | .bl _ => true
  | .int _ => true
  | .str _ => true
  | _ => false
theorem flat_of {K : PySem.W.Frag} {H : Hp} {v : V} {d : D} (i : Is K H v d) (h : D.flat d = true) : flatV v = true := by
  cases i <;> first | rfl | (cases h; done)
theorem flat_all {K : PySem.W.Frag} {H : Hp} : ∀ {ds : List D} {vs : List V}, Iss K H vs ds → ds.all D.flat = true → vs.all flatV = true
  | [], _, i, _ => by cases i; rfl
  | _ :: _, _, i, h => by
    cases i with
    | cons i t =>
      rw [List.all_cons, Bool.and_eq_true] at h
      rw [List.all_cons, flat_of i h.1, flat_all t h.2]
      rfl
theorem flat_eqV {K : PySem.W.Frag} {H : Hp} {v v' : V} {d d' : D} (i : Is K H v d) (i' : Is K H v' d') (h : D.flat d = true) (h' : D.flat d' = true) : eqV v v' = D.eq d d' :=
  (flat_eq i i' (by cases d <;> cases d' <;> first | rfl | (cases h; done) | (cases h'; done)) (by cases d <;> first | rfl | (cases h; done))).2.2
theorem flat_any {K : PySem.W.Frag} {H : Hp} {v : V} {d : D} (i : Is K H v d) (h : D.flat d = true) : ∀ {vs : List V} {ds : List D}, Iss K H vs ds → ds.all D.flat = true → inV v vs = ds.any fun y => D.eq y d
  | _, _, .nil, _ => rfl
  | _, _, .cons j t, hh => by
    rw [List.all_cons, Bool.and_eq_true] at hh
    have ih := flat_any i h t hh.2
    unfold inV at ih ⊢
    rw [List.any_cons, List.any_cons, ih, flat_eqV j i hh.1 h]
noncomputable def inXD (neg : Bool) : D → D → DH → KD → Prop
  | .str i, .str j, M, Q => ∃ k, i.cps.toList = [k] ∧ Q (.bl (if neg then !decide (k ∈ j.cps.toList) else decide (k ∈ j.cps.toList))) M
  | d, .ref l, M, Q => (∃ k kvs, keyOf d = some k ∧ DicAt M l kvs ∧ Q (.bl (if neg then !(valD kvs k).isSome else (valD kvs k).isSome)) M) ∨
      ∃ xs, M l = some (.lst xs) ∧ D.flat d = true ∧ xs.all D.flat = true ∧ Q (.bl (if neg then !(xs.any fun y => D.eq y d) else xs.any fun y => D.eq y d)) M
  | _, _, _, _ => False
theorem inXD_ref {neg : Bool} {x : D} {l : Addr} {M : DH} {Q : KD} (h : inXD neg x (.ref l) M Q) : (∃ k kvs, keyOf x = some k ∧ DicAt M l kvs ∧ Q (.bl (if neg then !(valD kvs k).isSome else (valD kvs k).isSome)) M) ∨
      ∃ xs, M l = some (.lst xs) ∧ D.flat x = true ∧ xs.all D.flat = true ∧ Q (.bl (if neg then !(xs.any fun y => D.eq y x) else xs.any fun y => D.eq y x)) M := by
  cases x <;> exact h
theorem inXD_str {neg : Bool} {x : D} {j : Str} {M : DH} {Q : KD} (h : inXD neg x (.str j) M Q) : ∃ i k, x = .str i ∧ i.cps.toList = [k] ∧ Q (.bl (if neg then !decide (k ∈ j.cps.toList) else decide (k ∈ j.cps.toList))) M := by
  cases x with
  | str i => obtain ⟨k, h1, h2⟩ := h; exact ⟨i, k, rfl, h1, h2⟩
  | _ => exact h.elim
theorem inXD_no {b : Bool} {x y : D} {M : DH} {Q : KD} (q : inXD b x y M Q) (h1 : ∀ j, y ≠ .str j) (h2 : ∀ l, y ≠ .ref l) : False := by
  cases y with
  | str j => exact h1 _ rfl
  | ref l => exact h2 _ rfl
  | _ => cases x <;> exact q
theorem od_inX (hr : Room n X.A) : OpD X (compareOp .In) (inXD false) := by
  rintro pins s σ H vx vy v u Q I rx ry ⟨x, y, M, Q', ix, iy, hm, q, hq⟩
  cases iy with
  | str j =>
    obtain ⟨i, k, rfl, hk, q⟩ := inXD_str q
    (first | cases ix.inv | cases ix)
    refine op_in_str pins s σ H _ _ v u Q I rx ry ⟨_, _, rfl, rfl, ?_⟩
    rw [one_sign hk, PySem.StrLaws.found_one]
    exact hq.here hm (.bl _) (by simpa using q)
  | ref l =>
    cases ry
    rcases inXD_ref q with ⟨k, kvs, hk, hl, q⟩ | ⟨xs, hl, h1, h2, q⟩
    · obtain ⟨kx, hx, hp⟩ := hm.dic hl
      have hv := key_is ix hk
      subst hv
      refine d_in (hu_of hr) I (.inl ⟨kx, k, hx, rfl, rfl⟩) rx fun s' I' => ⟨.bl _, H, I', rfl, ?_⟩
      rw [pkd_isSome hp]
      exact hq.here hm (.bl _) q
    · obtain ⟨ys, hy, iy⟩ := hm.lst hl
      refine op_in_seq pins s σ H _ (.ref l) v _ Q I rx rfl ⟨l, ys, rfl, .inl hy, flat_of ix h1, flat_all iy h2, ?_⟩
      rw [flat_any ix h1 iy h2]
      exact hq.here hm (.bl _) q
  | _ => exact (inXD_no q (fun _ z => D.noConfusion z) fun _ z => D.noConfusion z).elim
theorem od_notinX (hr : Room n X.A) : OpD X (compareOp .NotIn) (inXD true) := by
  rintro pins s σ H vx vy v u Q I rx ry ⟨x, y, M, Q', ix, iy, hm, q, hq⟩
  cases iy with
  | str j =>
    obtain ⟨i, k, rfl, hk, q⟩ := inXD_str q
    (first | cases ix.inv | cases ix)
    refine op_notin_str pins s σ H _ _ v u Q I rx ry ⟨_, _, rfl, rfl, ?_⟩
    rw [one_sign hk, PySem.StrLaws.found_one]
    exact hq.here hm (.bl _) (by simpa using q)
  | ref l =>
    cases ry
    rcases inXD_ref q with ⟨k, kvs, hk, hl, q⟩ | ⟨xs, hl, h1, h2, q⟩
    · obtain ⟨kx, hx, hp⟩ := hm.dic hl
      have hv := key_is ix hk
      subst hv
      refine d_notIn (hu_of hr) I (.inl ⟨kx, k, hx, rfl, rfl⟩) rx fun s' I' => ⟨.bl _, H, I', rfl, ?_⟩
      rw [pkd_isSome hp]
      exact hq.here hm (.bl _) q
    · obtain ⟨ys, hy, iy⟩ := hm.lst hl
      refine op_notIn_seq pins s σ H _ (.ref l) v _ Q I rx rfl ⟨l, ys, rfl, .inl hy, flat_of ix h1, flat_all iy h2, ?_⟩
      rw [flat_any ix h1 iy h2]
      exact hq.here hm (.bl _) q
  | _ => exact (inXD_no q (fun _ z => D.noConfusion z) fun _ z => D.noConfusion z).elim
noncomputable def ixKD : D → D → DH → KD → Prop
  | .ref l, y, M, Q => ∃ k kvs d, keyOf y = some k ∧ DicAt M l kvs ∧ valD kvs k = some d ∧ Q d M
  | _, _, _, _ => False
theorem d_ixK (hr : Room n X.A) (ha : PE X a (low X.K ta)) (hb : PE X b (low X.K tb)) (hs : NoSl b := by intro _ _; rfl) : PE X (.Subscript a b pos) (low X.K (eOp ixKD ta tb)) :=
  (pe_dget (hu_of hr) ha hb hs).imp fun σ H Q ⟨τ, M, Q', hs, hm, h, hq⟩ =>
    ⟨τ, M, _, hs, hm, h, fun x M1 vx H1 m1 e1 i1 h1 => ⟨τ, M1, _, hs.mono e1, m1, h1, fun y M2 vy H2 m2 e2 i2 h2 => by
      cases i1 with
      | ref l =>
        obtain ⟨k, kvs, d, hk, hl, hd, q⟩ := h2
        obtain ⟨kx, hx, hp⟩ := m2.dic hl
        obtain ⟨v, hv, iv⟩ := pkd_some hp hd
        have hy := key_is i2 hk
        subst hy
        exact ⟨l, v, rfl, .inl ⟨kx, k, hx, rfl, hv.symm⟩, hq d M2 v H2 m2 (e1.trans e2) iv q⟩
      | _ => exact h2.elim⟩⟩
noncomputable def setKD : D → D → D → DH → (DH → Prop) → Prop
  | .ref l, y, d, M, Q => ∃ k kvs, keyOf y = some k ∧ M l = some (.dic kvs) ∧ kvs.length < sizeLine ∧ Q (updM M l (.dic (putD kvs k d)))
  | _, _, _, _, _ => False
noncomputable def hSubK (to ti : TEd) : TGd := fun d τ M Q => to τ M fun x M1 => ti τ M1 fun y M2 => setKD x y d M2 fun M3 => Q τ M3
noncomputable def rSetK : TSet := fun x y v H R => ∃ l H', x = .ref l ∧ DPut H l y v H' ∧ R H'
theorem set_dict (hr : Room n X.A) : PSet X rSetK := by
  rintro pins s σ H o i v ov iv u Q I ro ri rv ⟨l, H', e, g, q⟩
  subst e
  cases ro
  exact d_setItem (hu_of hr) I g ri rv fun s' I' => ⟨H', I', q⟩
theorem g_subK {i : Expr} {to ti : TEd} (hr : Room n X.A) (ho : PE X o (low X.K to)) (hi : PE X i (low X.K ti))
    (ha : ∀ v, assign (.Subscript o i pos) X.env v = (do
      let ov ← holding [v] (eval o X.env)
      let iv ← holding [v, ov] (eval i X.env)
      standAt pos
      holding [v, ov, iv] (setItem ov iv v)
      release [v, ov, iv] []) := by intro _; rfl) : PG X (.Subscript o i pos) (lowG X.K (hSubK to ti)) :=
  (pg_sub ho hi (set_dict hr) ha).imp fun v σ H Q ⟨d, τ, M, Q', i, hs, hm, h, hq⟩ =>
    ⟨τ, M, _, hs, hm, h, fun x M1 vx H1 m1 e1 i1 h1 => ⟨τ, M1, _, hs.mono e1, m1, h1, fun y M2 vy H2 m2 e2 i2 h2 => by
      cases i1 with
      | ref l =>
        obtain ⟨k, kvs, hk, hl, hz, q⟩ := h2
        obtain ⟨kx, hx, hp⟩ := m2 l _ hl
        have hy := key_is i2 hk
        subst hy
        have e12 := e1.trans e2
        obtain ⟨m3, e3⟩ := m2.setK hx (pkd_put (k := k) hp (i.mono e12))
        exact ⟨l, _, rfl, DPut.k (k := k) hx (by rw [pkd_length hp]; exact hz), hq τ _ σ _ (hs.mono (e12.trans e3)) m3 (e12.trans e3) q⟩
      | _ => exact h2.elim⟩⟩
noncomputable def isDic : D → DH → Prop
  | .ref l, M => ∃ kvs, DicAt M l kvs
  | _, _ => False
noncomputable def getKD : D → D → D → DH → KD → Prop
  | .ref l, y, z, M, Q => ∃ k kvs, keyOf y = some k ∧ DicAt M l kvs ∧ Q ((valD kvs k).getD z) M
  | _, _, _, _, _ => False
noncomputable def eGet2 (td ty tx : TEd) : TEd := fun τ M Q => td τ M fun x M1 => isDic x M1 ∧ ty τ M1 fun y M2 => tx τ M2 fun z M3 => getKD x y z M3 Q
noncomputable def lenKD : List D → DH → KD → Prop
  | [.ref l], M, Q => ∃ kvs, DicAt M l kvs ∧ Q (.int kvs.length) M
  | _, _, _ => False
theorem cd_lenK : CallD X (.builtin "len") lenKD := by
  rintro pins s σ H vs us Q I r ⟨ds, M, Q', iss, hm, q, hq⟩
  match ds, q, iss with
  | [.ref l], q, iss =>
    obtain ⟨v, rfl, i⟩ := iss1 iss
    (first | cases i.inv | cases i)
    obtain ⟨kvs, hl, q⟩ := q
    obtain ⟨kx, hx, hp⟩ := hm.dic hl
    obtain ⟨u, rfl, rx⟩ := vals1 r
    cases rx
    exact d_len I hx fun t s' I' => ⟨.int kx.length, H, I', ⟨t, rfl⟩, hq.here hm (.int _) (by rw [pkd_length hp]; exact q)⟩
noncomputable def listKD : List D → DH → KD → Prop
  | [.ref l], M, Q => ∃ kvs, DicAt M l kvs ∧ ∀ p, M p = none → Q (.ref p) (updM M p (.lst (kvs.map fun kv => keyD kv.1)))
  | _, _, _ => False
theorem vals_by : ∀ {xs : List V} {us : List Value}, us.length = xs.length → (∀ (j : Nat) x u, xs[j]? = some x → us[j]? = some u → RelV x u) → Vals xs us
  | [], [], _, _ => .nil
  | [], _ :: _, h, _ => by simp at h
  | _ :: _, [], h, _ => by simp at h
  | x :: xs, u :: us, h, r => .cons (r 0 x u rfl rfl) (vals_by (by simpa using h) fun j y w e1 e2 => r (j + 1) y w (by simpa using e1) (by simpa using e2))
theorem keys_is {K : PySem.W.Frag} {H H' : Hp} : ∀ {kx : List (Key × V)} {kvs : List (Key × D)}, PKD K H kx kvs → Iss K H' (kx.map fun kv => kV kv.1) (kvs.map fun kv => keyD kv.1)
  | _, _, .nil => .nil
  | (k, v) :: _, (k', d) :: _, .cons h t => by
    have e : k = k' := h.1
    subst e
    refine .cons ?_ (keys_is t)
    cases k with
    | inl i => exact .int i
    | inr x => exact .str x
theorem cd_listK (hc : X.calm = true) : CallD X (.type "list") listKD := by
  rintro pins s σ H vs us Q I r ⟨ds, M, Q', iss, hm, q, hq⟩
  match ds, q, iss with
  | [.ref l], q, iss =>
    obtain ⟨v, rfl, i⟩ := iss1 iss
    (first | cases i.inv | cases i)
    obtain ⟨kvs, hl, q⟩ := q
    obtain ⟨kx, hx, hp⟩ := hm.dic hl
    obtain ⟨u, rfl, rx⟩ := vals1 r
    cases rx
    obtain ⟨z, hd, vs, rel, dd⟩ := dk_rd I.hok hx
    obtain ⟨ep, hat⟩ := dd.dictAt
    have hf : H s.heap.objs.size = none := I.fresh
    refine PySem.W.kdl_call (PySem.W.kdl_dict hd) (I.ok.hd hc) hat (by rw [← rel.length]; exact z) fun h' tk acc' c' kp e hacc => ?_
    have hv : Vals (kx.map fun kv => kV kv.1) acc'.toList := by
      refine vals_by (by rw [Array.length_toList, hacc.1, List.length_map, rel.length]) fun j x w e1 e2 => ?_
      obtain ⟨k, y, h1, h2⟩ := hacc.2 j w (by rw [← Array.getElem?_toList]; exact e2)
      rw [List.getElem?_map] at e1
      cases e3 : kx[j]? with
      | none => rw [e3] at e1; cases e1
      | some pr =>
        rw [e3] at e1
        cases e1
        have e4 : (kx.map (·.1))[j]? = some pr.1 := by rw [List.getElem?_map, e3]; rfl
        rw [rel.keys, List.getElem?_map, h1] at e4
        have e5 : k = pr.1 := Option.some.inj e4
        subst e5
        show RelV (kV pr.1) w
        rcases keyIs_shape h2 with ⟨i, t, e6, rfl⟩ | ⟨i, t, e6, rfl⟩
        · rw [e6]; exact ⟨t, rfl⟩
        · rw [e6]; exact ⟨t, rfl⟩
    refine ⟨.ref s.heap.objs.size, _, I.laid (t' := tk) kp (Nat.le_refl _) (show ObjOk X.prog X.w _ h' _ (.lst (kx.map fun kv => kV kv.1)) from ⟨by rw [List.length_map]; exact z, acc'.toList, c', hv, by rw [Array.toArray_toList]; exact e⟩), rfl, ?_⟩
    exact hq _ _ _ _ (hm.newL hf (keys_is hp)) (ext_new hf) (.ref _) (q _ (hm.free hf))
end
end DL
namespace DL
open PySem PySem.Spec PyProof.Rows L2
section
variable {prog : Program} {w : World} {A : Around} {E : Value → Shared → Prop} {z : Shared}
theorem nextOf_tup {j u : Addr} {i : Nat} {ys : Array Value} {x : Value} {Q : Value → Shared → Prop} (hj : z.heap.IsTupleIter j u i) (hu : z.heap.IsTuple u ys) (hx : ys[i]? = some x)
    (hQ : ∀ g, g.IsTupleIter j u (i + 1) → Heap.SameBut j z.heap g → Q x { z with heap := g }) : wpAny (model prog w) A (Builtin.SmallTypes.nextOf (.ref j)) Q E z := by
  obtain ⟨o, ho, hc, hd⟩ := id hj
  obtain ⟨o2, ho2, _, n2, hd2⟩ := hu
  unfold Builtin.SmallTypes.nextOf
  refine wpAny_bind (wpAny_callSpecial?_slot (name := Str.ofString "__next__") hj.typeIs PySem.F.slot_tuple_iterator_next (wpAny_call_entry PySem.F.slot_tuple_iterator_next hj.typeIs PySem.F.entry_tuple_iterator_next ?_ (PySem.F.args_tuple_iterator_next_1 _)))
  show wpAny _ _ (field (.ref j) 0 >>= _) _ _ z
  refine wpAny_bind (wpAny_field ho hd (x := .ref u) rfl ?_)
  show wpAny _ _ (if (Value.ref u == Value.none) = true then _ else _) _ _ z
  rw [if_neg (show ¬ ((Value.ref u == Value.none) = true) from Bool.false_ne_true)]
  show wpAny _ _ (field (.ref j) 1 >>= _) _ _ z
  refine wpAny_bind (wpAny_field ho hd (x := .int i 0) rfl ?_); show wpAny _ _ (seqItems? (.ref u) >>= _) _ _ z
  refine wpAny_bind (wpAny_seqItems ho2 hd2 ?_)
  simp only [Int.toNat_natCast, hx]
  refine wpAny_bind (wpAny_setField ho hd (by simp) (wpAny_pure ⟨x, rfl, wpAny_pure (hQ _ ⟨_, Heap.get?_update_self _ ho (Obj.isFreed_of_fields (Obj.data_mapFields hd _)), (Obj.cls_mapFields ..).trans hc, ?_⟩ (Heap.SameBut.update ..))⟩))
  rw [Obj.data_mapFields hd]; simp [rawInt]
theorem nextOf_tup_end {j u : Addr} {i : Nat} {ys : Array Value} {Q : Value → Shared → Prop} (hh : A.handled = none) (hj : z.heap.IsTupleIter j u i) (hu : z.heap.IsTuple u ys) (hx : ys[i]? = none)
    (hE : ∀ g e, Heap.ExtBut j z.heap g → (∃ o, g.get? e = some o ∧ o.cls = .type "StopIteration") → E (.ref e) { z with heap := g }) : wpAny (model prog w) A (Builtin.SmallTypes.nextOf (.ref j)) Q E z := by
  obtain ⟨o, ho, hc, hd⟩ := id hj
  obtain ⟨o2, ho2, _, n2, hd2⟩ := hu
  unfold Builtin.SmallTypes.nextOf
  refine wpAny_bind (wpAny_callSpecial?_slot (name := Str.ofString "__next__") hj.typeIs PySem.F.slot_tuple_iterator_next (wpAny_call_entry PySem.F.slot_tuple_iterator_next hj.typeIs PySem.F.entry_tuple_iterator_next ?_ (PySem.F.args_tuple_iterator_next_1 _)))
  show wpAny _ _ (field (.ref j) 0 >>= _) _ _ z
  refine wpAny_bind (wpAny_field ho hd (x := .ref u) rfl ?_)
  show wpAny _ _ (if (Value.ref u == Value.none) = true then _ else _) _ _ z
  rw [if_neg (show ¬ ((Value.ref u == Value.none) = true) from Bool.false_ne_true)]
  show wpAny _ _ (field (.ref j) 1 >>= _) _ _ z
  refine wpAny_bind (wpAny_field ho hd (x := .int i 0) rfl ?_); show wpAny _ _ (seqItems? (.ref u) >>= _) _ _ z
  refine wpAny_bind (wpAny_seqItems ho2 hd2 ?_)
  simp only [Int.toNat_natCast, hx]
  refine wpAny_bind (wpAny_rule (wpAny_bind (wpAny_setField ho hd (by simp) ?_))); show wpAny _ _ (newExc (.type "StopIteration") [] >>= _) _ _ _
  refine wpAny_bind ?_; simp only [newExc, newTuple]
  refine wpAny_bind (wpAny_newObj_type ?_ (by size_fits)); refine wpAny_bind (m := firstArgMember _ _) (wpAny_of_eq (a := Value.none) (by first | rfl | (simp only [firstArgMember]; rfl)) ?_)
  refine wpAny_newObj_type ?_ (by size_fits); simp only [raiseNew]; refine wpAny_bind (wpAny_handled ?_)
  first | rw [show A.in1.handled = none from hh]; skip | rw [hh]; skip
  refine wpAny_bind (wpAny_pure (wpAny_throw (hE _ _ (((Heap.SameBut.update ..).extBut.push _).push _) ⟨_, Heap.get?_push_size _ rfl, rfl⟩)))
noncomputable def SeqB : Bool → Heap → Addr → Array Value → Prop
  | true, h, a, ys => h.IsTuple a ys
  | false, h, a, ys => h.IsList a ys
noncomputable def IterB : Bool → Heap → Addr → Addr → Nat → Prop
  | true, h, j, a, i => h.IsTupleIter j a i
  | false, h, j, a, i => h.IsListIter j a i
noncomputable def SqB (K : PySem.W.Frag) (H : Hp) (a : Addr) (xs : List V) : Bool → Prop
  | true => SqT K H a xs
  | false => SqL K H a xs
theorem IterB.keep {b : Bool} {h h' : Heap} {j a : Addr} {i : Nat} (x : IterB b h j a i) (k : ∀ o, h.get? j = some o → h'.get? j = some o) : IterB b h' j a i := by
  cases b with
  | true => obtain ⟨o, e, r⟩ := x; exact ⟨o, k o e, r⟩
  | false => obtain ⟨o, e, r⟩ := x; exact ⟨o, k o e, r⟩
theorem IterB.obj {b : Bool} {h : Heap} {j a : Addr} {i : Nat} (x : IterB b h j a i) : ∃ o, h.get? j = some o ∧ ∃ vs, o.data = .fields vs := by
  cases b with
  | true => obtain ⟨o, e, _, d⟩ := x; exact ⟨o, e, _, d⟩
  | false => obtain ⟨o, e, _, d⟩ := x; exact ⟨o, e, _, d⟩
theorem SeqB.keep {b : Bool} {h h' : Heap} {a : Addr} {ys : Array Value} (x : SeqB b h a ys) (k : ∀ o, h.get? a = some o → h'.get? a = some o) : SeqB b h' a ys := by
  cases b with
  | true => obtain ⟨o, e, r⟩ := x; exact ⟨o, k o e, r⟩
  | false => obtain ⟨o, e, r⟩ := x; exact ⟨o, k o e, r⟩
theorem SeqB.obj {b : Bool} {h : Heap} {a : Addr} {ys : Array Value} (x : SeqB b h a ys) : ∃ o, h.get? a = some o ∧ ∃ n, o.data = .seq ys n := by
  cases b with
  | true => obtain ⟨o, e, _, n, d⟩ := x; exact ⟨o, e, n, d⟩
  | false => obtain ⟨o, e, _, n, d⟩ := x; exact ⟨o, e, n, d⟩
theorem drawsB (b : Bool) (hh : A.handled = none) (j a : Addr) (hne : a ≠ j) (ys : Array Value) : Draws prog w A j [j, a] ys.size (fun i v => ys[i]? = some v) (fun i h => IterB b h j a i ∧ SeqB b h a ys) where
  live := fun _ _ st => let ⟨o, e, _⟩ := st.1.obj; ⟨o, e⟩
  frame := fun _ _ _ st k => ⟨st.1.keep fun o e => k j (by simp) o e, st.2.keep fun o e => k a (by simp) o e⟩
  item := fun i s Q E hi st hQ => by
    have hx : ys[i]? = some ys[i] := by simp [hi]
    cases b with
    | true => exact nextOf_tup st.1 st.2 hx fun g hg hs => hQ _ g s.toks hx ⟨hg, SeqB.keep (b := true) st.2 fun o e => (hs.2 a hne).trans e⟩ hs
    | false => exact wpAny_nextOf_list_item st.1 st.2 hx fun g hg hs => hQ _ g s.toks hx ⟨hg, SeqB.keep (b := false) st.2 fun o e => (hs.2 a hne).trans e⟩ hs
  done := fun s Q E st hE => by
    cases b with
    | true => exact nextOf_tup_end hh st.1 st.2 (by simp) hE
    | false => exact wpAny_nextOf_list_end hh st.1 st.2 (by simp) hE
theorem drawsC {it : Addr} {fp : List Addr} {n : Nat} {P : Nat → Value → Prop} {St : Nat → Heap → Prop} (D : Draws prog w A it fp n P St) (c : Nat) : Draws prog w A it fp (n + c) (fun i v => P (i - c) v) (fun i h => c ≤ i ∧ St (i - c) h) where
  live := fun i h st => D.live _ h st.2
  frame := fun i h h' st k => ⟨st.1, D.frame _ h h' st.2 k⟩
  item := fun i s Q E hi st hQ => D.item (i - c) s Q E (by (first | lia | omega)) st.2 fun x h' tk p st' sb => hQ x h' tk p ⟨by (first | lia | omega), by rw [show i + 1 - c = i - c + 1 by (first | lia | omega)]; exact st'⟩ sb
  done := fun s Q E st hE => D.done s Q E (by have z := st.2; rw [Nat.add_sub_cancel] at z; exact z) hE
theorem enum_newT (l : Addr) (ys : Array Value) (n : Nat) (dx : Option Addr) (sx : Array (Option Value)) :
    Meets (Builtin.«enumerate.__new__» ⟨[.type "enumerate", .ref l], []⟩) (fun _ R s => s.heap.get? l = some { cls := .type "tuple", dict := dx, data := .seq ys n, slots := sx } ∧
      R (.ok (.ret (.ref (s.heap.push { cls := .type "tuple_iterator", data := .fields #[.ref l, .int 0 0] }).objs.size)))
        { s with heap := (s.heap.push { cls := .type "tuple_iterator", data := .fields #[.ref l, .int 0 0] }).push { cls := .type "enumerate", data := .fields #[.none, .bool false, .ref s.heap.objs.size, rawInt 0, .none, .none] } }) :=
  .of_wp fun prog w A R s h => by
    obtain ⟨hp, g, d, tk, os⟩ := s
    obtain ⟨hl, h⟩ := h
    have hsub := sub_enumerate
    have hT : Heap.IsTuple (Shared.heap ⟨hp, g, d, tk, os⟩) l ys := ⟨_, hl, rfl, n, rfl⟩
    wp_walk using AutoSeq1.wpAny_loadPart' hl
    refine wpAny_stack_any fun st => wpAny_pure ?_; split
    · rename_i c _ _ _ _ _
      cases (c == Value.type "enumerate")
      · wp_walk using AutoSeq1.wpAny_loadPart' hl, wpAny_pyIter_tuple hT
        exact ⟨_, rfl, h⟩
      · wp_walk using AutoSeq1.wpAny_loadPart' hl, wpAny_pyIter_tuple hT
        exact ⟨_, rfl, h⟩
    · wp_walk using AutoSeq1.wpAny_loadPart' hl, wpAny_pyIter_tuple hT
      exact ⟨_, rfl, h⟩
theorem enum_call {b : Bool} {l : Addr} {ys : Array Value} {Q : Value → Shared → Prop} (hL : SeqB b z.heap l ys)
    (h : ∀ g, IsEnum g (z.heap.objs.size + 1) z.heap.objs.size 0 .none → IterB b g z.heap.objs.size l 0 → (∀ b o, z.heap.get? b = some o → g.get? b = some o) → Q (.ref (z.heap.objs.size + 1)) { z with heap := g }) :
    wpAny (model prog w) A (call (.type "enumerate") [.ref l]) Q E z := by
  cases b with
  | false => exact call_enumerate_list hL fun g h1 h2 _ h4 => h g h1 h2 h4
  | true =>
    obtain ⟨⟨c, dx, dt, sx⟩, hl, hc, n, hd⟩ := hL
    replace hc : c = .type "tuple" := hc
    replace hd : dt = .seq ys n := hd
    subst hc hd
    refine callType_new PySem.F.called_enumerate (by decide) (PySem.F.typeCall_enumerate_1 _) (PySem.F.newCall_enumerate_1 _) (fun obj => PySem.F.args_object_init_2 obj _) PySem.F.entry_enumerate_new (enum_newT l ys n dx sx) ⟨hl, ?_⟩
    have hz : (z.heap.push { cls := .type "tuple_iterator", data := .fields #[.ref l, .int 0 0] }).objs.size = z.heap.objs.size + 1 := Heap.size_push ..
    show _ ∧ _
    rw [hz]
    have he : IsEnum ((z.heap.push { cls := .type "tuple_iterator", data := .fields #[.ref l, .int 0 0] }).push { cls := .type "enumerate", data := .fields #[.none, .bool false, .ref z.heap.objs.size, rawInt 0, .none, .none] }) (z.heap.objs.size + 1) z.heap.objs.size 0 .none := by
      have q := Heap.get?_push_size (z.heap.push { cls := .type "tuple_iterator", data := .fields #[.ref l, .int 0 0] }) (o := { cls := .type "enumerate", data := .fields #[.none, .bool false, .ref z.heap.objs.size, rawInt 0, .none, .none] }) rfl
      rw [hz] at q
      exact q
    exact ⟨⟨_, he, rfl⟩, h _ he (show Heap.IsTupleIter _ _ _ _ from ⟨_, Heap.get?_push_of_some _ (Heap.get?_push_size _ rfl), rfl, rfl⟩) fun b o x => Heap.get?_push_of_some _ (Heap.get?_push_of_some _ x)⟩
end
noncomputable def Ite (K : PySem.W.Frag) (b : Bool) (c : Nat) (a : Addr) : It :=
  ⟨fun i H => ∃ xs x, SqB K H a xs b ∧ xs[i]? = some x, fun i H x H' => ∃ T, H T = none ∧ x = .ref T ∧ ∀ xs, SqB K H a xs b → ∃ y, xs[i]? = some y ∧ H' = upd H T (.tup [.int ((c + i : Nat) : Int), y]), fun i H => ∃ xs, SqB K H a xs b ∧ xs.length = i⟩
theorem seqB_at {X : Cx} {pins : List (Addr × Obj)} {σ : St} {H : Hp} {s : Shared} {b : Bool} {a : Addr} {xs : List V} (I : Inv X pins σ H s) (h : SqB X.K H a xs b) : ∃ its, Vals xs its ∧ SeqB b s.heap a its.toArray := by
  cases b with
  | true => obtain ⟨its, r, p, _⟩ := I.tuple h; exact ⟨its, r, p⟩
  | false => obtain ⟨its, r, p, _⟩ := I.list h; exact ⟨its, r, p.isList⟩
theorem sqB_inj {X : Cx} {pins : List (Addr × Obj)} {σ : St} {H : Hp} {s : Shared} {b : Bool} {a : Addr} {xs ys : List V} (I : Inv X pins σ H s) (h : SqB X.K H a xs b) (h' : SqB X.K H a ys b) : xs = ys := by
  cases b with
  | true => exact I.tuple_inj h h'
  | false => exact I.list_inj h h'
theorem turn_enum {P : Program} {w : World} {K : PySem.W.Frag} {elts : List Expr} {k : Nat} {tpos : Pos} (b : Bool) (c : Nat) (a e j : Addr) (hej : e ≠ j) : Turn P w K (.Tuple elts k tpos) (Ite K b c a) [e, j] e (fun i h => (∃ old, IsEnum h e j ((i + c : Nat) : Int) old) ∧ IterB b h j a i) where
  mem := by simp
  obj := fun i h st x hx => by
    obtain ⟨⟨old, he⟩, hi⟩ := st
    rcases List.mem_cons.mp hx with rfl | hx
    · exact ⟨_, he, fun v z => by
        have z' : Data.fields _ = Data.cell v := z
        cases z'⟩
    · cases List.mem_singleton.mp hx
      obtain ⟨o, e1, vs, e2⟩ := hi.obj
      exact ⟨o, e1, fun v z => by rw [e2] at z; cases z⟩
  keep := fun i h h' st kp => ⟨let ⟨old, he⟩ := st.1; ⟨old, kp e (by simp) _ he⟩, st.2.keep fun o q => kp j (by simp) o q⟩
  item := by
    intro X hP hw hK hc i pins s σ H E I hf st hg
    subst hP hw hK
    obtain ⟨xs, x, hq, hx⟩ := hg
    obtain ⟨its, rv, p⟩ := seqB_at I hq
    obtain ⟨u, hu, ru⟩ := rv.get hx
    obtain ⟨⟨old, he⟩, hi⟩ := st
    obtain ⟨f0, f1, f2, f3, f4, f5⟩ := hf e (by simp)
    obtain ⟨g0, g1, g2, g3, g4, g5⟩ := hf j (by simp)
    obtain ⟨oa, ha1, na, ha2⟩ := p.obj
    have hea : e ≠ a := fun z => by
      subst z
      have he' := Option.some.inj (ha1.symm.trans he)
      subst he'
      cases ha2
    have haj : a ≠ j := fun z => by
      subst z
      obtain ⟨o, e1, vs, e2⟩ := hi.obj
      rw [ha1] at e1
      cases e1
      rw [ha2] at e2
      cases e2
    have hlt : i < its.toArray.size := by
      rw [List.size_toArray]
      exact (List.getElem?_eq_some_iff.mp hu).1
    refine wpAny_pyNext_enum_itemD (drawsC (drawsB (A := X.A.in1) b (I.ok.hd hc) j a haj its.toArray) c) he ⟨Nat.le_add_left _ _, by rw [Nat.add_sub_cancel]; exact ⟨hi, p⟩⟩ (by (first | lia | omega)) hej (by simp [hej, hea]) fun y h1 tk hy ho hst hT hsz hk => ?_
    rw [Nat.add_sub_cancel] at hy
    have hyu : y = u := by
      have : its.toArray[i]? = some u := by simpa using hu
      rw [this] at hy
      exact (Option.some.inj hy).symm
    subst hyu
    refine ⟨_, rfl, wpAny_letOwnedTupleGo_enum (s := { s with heap := h1, toks := tk + 1 }) ho fun h2 he2 hs2 => ?_⟩
    have hi2 : IterB b h1 j a (i + 1) := by have z := hst.2.1; rw [show i + c + 1 - c = i + 1 by (first | lia | omega)] at z; exact z
    have hj2 : IterB b h2 j a (i + 1) := hi2.keep fun o q => (hs2.2 j (Ne.symm hej)).trans q
    obtain ⟨oj, hoj, vj, dj⟩ := hj2.obj
    obtain ⟨oj0, hoj0, vj0, dj0⟩ := hi.obj
    have he' : h2.get? e = some { cls := .type "enumerate", dict := none, data := .fields #[.none, .bool false, .ref j, rawInt (((i + c : Nat) : Int) + 1), .none, y], slots := #[] } := he2
    let oe : Obj := { cls := .type "enumerate", dict := none, data := .fields #[.none, .bool false, .ref j, rawInt (((i + c : Nat) : Int) + 1), .none, y], slots := #[] }
    have s1 : Heap.SameBut e s.heap (s.heap.update e fun _ => oe) := Heap.SameBut.update ..
    have s2 : Heap.SameBut j (s.heap.update e fun _ => oe) ((s.heap.update e fun _ => oe).update j fun _ => oj) := Heap.SameBut.update ..
    have q1 : (s.heap.update e fun _ => oe).get? e = some oe := Heap.get?_update_self _ he (Obj.isFreed_of_fields rfl)
    have q2 : ((s.heap.update e fun _ => oe).update j fun _ => oj).get? j = some oj := Heap.get?_update_self _ ((s1.2 j (Ne.symm hej)).trans hoj0) (Obj.isFreed_of_fields dj)
    have I1 : Inv X pins σ H { s with heap := s.heap.update e fun _ => oe, toks := s.toks } := I.turned (fun b o hb q => (s1.2 b hb).trans q) f0 f1 f3 f4 f5
    have I2 : Inv X pins σ H { s with heap := (s.heap.update e fun _ => oe).update j fun _ => oj, toks := s.toks } := I1.turned (fun b o hb q => (s2.2 b hb).trans q) g0 g1 g3 g4 g5
    have hT2 : h2.get? s.heap.objs.size = some { cls := .type "tuple", data := .seq #[.int ((i + c : Nat) : Int) tk, y] } := (hs2.2 _ (Nat.ne_of_gt (Heap.lt_size he))).trans hT
    have I3 : Inv X pins σ (upd H s.heap.objs.size (.tup [.int ((c + i : Nat) : Int), x])) { s with heap := h2, toks := tk + 1 } := by
      refine I2.laid (t' := tk + 1) (fun b o q => ?_) (by show _ ≤ _; rw [s2.1, s1.1]; exact Nat.le_refl _) (show ObjOk X.prog X.w _ h2 _ (.tup [.int ((c + i : Nat) : Int), x]) from ⟨by show 2 ≤ sizeLine; decide, [.int ((i + c : Nat) : Int) tk, y], .cons ⟨tk, by rw [Nat.add_comm]⟩ (.cons ru .nil), _, hT2, rfl, _, rfl⟩)
      by_cases hbj : b = j
      · subst hbj
        rw [q2] at q
        cases q
        exact hoj
      · rw [s2.2 b hbj] at q
        by_cases hbe : b = e
        · subst hbe
          rw [q1] at q
          cases q
          exact he'
        · rw [s1.2 b hbe] at q
          exact (hs2.2 b hbe).trans (hk b o hbe hbj q)
    have hfr : H s.heap.objs.size = none := I.fresh
    refine ⟨.ref s.heap.objs.size, _, I3, rfl, ⟨_, hfr, rfl, fun ys hy => ⟨x, by rw [sqB_inj I hy hq]; exact hx, rfl⟩⟩, ⟨⟨y, ?_⟩, hj2⟩, fun b hb => ?_⟩
    · have en : ((i + 1 + c : Nat) : Int) = ((i + c : Nat) : Int) + 1 := by (first | lia | omega)
      rw [en]
      exact he2
    · rcases List.mem_cons.mp hb with rfl | hb
      · rw [upd_ne (Nat.ne_of_lt (Heap.lt_size he))]; exact f0
      · cases List.mem_singleton.mp hb
        rw [upd_ne (Nat.ne_of_lt (Heap.lt_size hoj0))]; exact g0
  done := by
    intro X hP hw hK hc i pins s σ H E I hf st hg
    subst hP hw hK
    obtain ⟨xs, hq, hx⟩ := hg
    subst hx
    obtain ⟨its, rv, p⟩ := seqB_at I hq
    obtain ⟨⟨old, he⟩, hi⟩ := st
    obtain ⟨g0, g1, g2, g3, g4, g5⟩ := hf j (by simp)
    obtain ⟨oa, ha1, na, ha2⟩ := p.obj
    have haj : a ≠ j := fun z => by
      subst z
      obtain ⟨o, e1, vs, e2⟩ := hi.obj
      rw [ha1] at e1
      cases e1
      rw [ha2] at e2
      cases e2
    have hn : its.toArray.size = xs.length := by rw [List.size_toArray, rv.length]
    exact wpAny_pyNext_enum_endD (drawsC (drawsB (A := X.A.in1) b (I.ok.hd hc) j a haj its.toArray) c) he ⟨Nat.le_add_left _ _, by rw [Nat.add_sub_cancel, hn]; exact ⟨hi, p⟩⟩ fun h' eb => ⟨rfl, I.turned (t' := s.toks) (fun b o hb q => eb b o hb q) g0 g1 g3 g4 g5⟩
  self := fun A i s Q E st h => by
    obtain ⟨⟨old, he⟩, _⟩ := st
    exact wpAny_pyIter_enum he h
section
variable {X : Cx} {elts : List Expr} {k : Nat} {tpos pos : Pos} {g : TGd} {tb : TSd}
noncomputable def iEnum (K : PySem.W.Frag) (ta : TA) : TI := fun σ H R => ta σ H fun vs H1 => ∃ a b, vs = [.ref a] ∧ (∃ xs, SqB K H1 a xs b) ∧ R (Ite K b 0 a) H1
theorem pi_enum {a : Expr} {ta : TA} {p cpos : Pos} (hg : Gl X "enumerate") (hm : X.mg "enumerate" = none) (ha : PA X [a] ta) (hs : starEach [a] X.env = [(false, eval a X.env)] := by rfl) : PI X (.Tuple elts k tpos) (.Call (.Name "enumerate" p) [a] [] cpos) (iEnum X.K ta) := by
  intro pins s σ H R I h
  refine Call_ (ld_blt I hg hm boot_enumerate (PyProof.Rows.callWith_type1 (thn (ha cpos pins s σ H _ I h) fun us s1 zz0 => ?_) hs rfl))
  obtain ⟨vs, H1, I1, r1, q1⟩ := zz0
  obtain ⟨l, b, e, ⟨xs, hq⟩, q⟩ := q1
  subst e
  cases r1 with
  | cons r rr =>
    cases rr
    cases r
    obtain ⟨its, rv, p⟩ := seqB_at I1 hq
    refine enum_call p fun g he hi hk => wpAny_pyIter_enum (s := { s1 with heap := g }) he ?_
    refine ⟨s1.heap.objs.size + 1, [s1.heap.objs.size + 1, s1.heap.objs.size], _, _, H1, rfl, I1.kept (t' := s1.toks) hk, turn_enum b 0 l _ _ (Nat.succ_ne_self _), ⟨⟨_, by simpa using he⟩, hi⟩, fun x hx => ?_, q⟩
    rcases List.mem_cons.mp hx with rfl | hx
    · exact I1.fpOk (Nat.le_succ _) (I1.hok.fresh (Nat.le_succ _))
    · cases List.mem_singleton.mp hx
      exact I1.fpOk (Nat.le_refl _) (I1.hok.fresh (Nat.le_refl _))
noncomputable def enumL : Nat → List D → List D
  | _, [] => []
  | c, d :: ds => .tup [.int (c : Int), d] :: enumL (c + 1) ds
theorem enumL_len : ∀ (ds : List D) (c : Nat), (enumL c ds).length = ds.length
  | [], _ => rfl
  | d :: ds, c => by rw [enumL, List.length_cons, enumL_len ds (c + 1), List.length_cons]
theorem enumL_get : ∀ {ds : List D} {c i : Nat} {d : D}, ds[i]? = some d → (enumL c ds)[i]? = some (.tup [.int ((c + i : Nat) : Int), d])
  | [], _, _, _, e => by simp at e
  | d :: ds, c, 0, _, e => by simp at e; subst e; rfl
  | d :: ds, c, i + 1, _, e => by
    have := enumL_get (ds := ds) (c := c + 1) (i := i) (by simpa using e)
    rw [enumL, List.getElem?_cons_succ, this, show c + 1 + i = c + (i + 1) by (first | lia | omega)]
noncomputable def forED (c : Nat) (g : TGd) (tb : TSd) (E : EndsD) (τ : DSt) : List D → DH → Prop
  | [.tup ds], M => walkD (enumL c ds) (fun _ => True) g tb E τ M
  | [.ref l], M => ∃ ds, M l = some (.lst ds) ∧ walkD (enumL c ds) (fun M => M l = some (.lst ds)) g tb E τ M
  | _, _ => False
noncomputable def sForE (c : Nat) (ta : TAd) (g : TGd) (tb : TSd) : TSd := fun E τ M => ta τ M fun vs M1 => forED c g tb E τ vs M1
theorem enum_walk {K : PySem.W.Frag} {b : Bool} {c : Nat} {a : Addr} {ds : List D} {st : DH → Prop} {D' : EndsD} {E : Ends} {τ : DSt} {σ : St} {M : DH} {H H1 : Hp} (hd : LowD K H D' E) (e1 : Ext K H H1) (s1 : SAbs K τ σ H1) (m1 : HAbs K M H1)
    (hg : ∀ M2 H2, HAbs K M2 H2 → Ext K H1 H2 → st M2 → ∃ xs, SqB K H2 a xs b ∧ Iss K H2 xs ds) (h : walkD (enumL c ds) st g tb D' τ M) :
    ∃ W : Nat → Nat → St → Hp → Prop, (∃ m, W 0 m σ H1) ∧ ∀ i m σ H, W i m σ H →
      ((Ite K b c a).stop i H ∧ E.nx σ H) ∨ ((Ite K b c a).go i H ∧ ∃ N : St → Hp → Prop, (∀ σ' H', N σ' H' → ∃ m', m' < m ∧ W (i + 1) m' σ' H') ∧ ∀ x H', (Ite K b c a).yld i H x H' → lowG K g x σ H' fun σ2 H2 => lowS K tb { E with nx := N, ct := N, bk := E.nx } σ2 H2) := by
  obtain ⟨W, w0, stay, turn, done⟩ := h
  rw [enumL_len] at done
  refine ⟨fun i m σ2 H2 => m = ds.length - i ∧ i ≤ ds.length ∧ ∃ τ2 M2, SAbs K τ2 σ2 H2 ∧ HAbs K M2 H2 ∧ Ext K H1 H2 ∧ W i τ2 M2, ⟨ds.length, by simp, Nat.zero_le _, τ, M, s1, m1, Ext.refl H1, w0⟩, ?_⟩
  rintro i m σ2 H2 ⟨rfl, hi, τ2, M2, s2, m2, e2, w2⟩
  obtain ⟨xs, hq, iss⟩ := hg M2 H2 m2 e2 (stay i τ2 M2 (by rw [enumL_len]; exact hi) w2)
  by_cases hlt : i < ds.length
  · obtain ⟨v, ev, iv⟩ := iss.get (List.getElem?_eq_getElem hlt)
    refine .inr ⟨⟨xs, v, hq, ev⟩, fun σ3 H3 => ∃ τ3 M3, SAbs K τ3 σ3 H3 ∧ HAbs K M3 H3 ∧ Ext K H1 H3 ∧ W (i + 1) τ3 M3, fun σ3 H3 p => ⟨ds.length - (i + 1), by (first | lia | omega), rfl, hlt, p⟩, fun x H' y => ?_⟩
    obtain ⟨T, hT, rfl, hall⟩ := y
    obtain ⟨y, ey, rfl⟩ := hall xs hq
    rw [ev] at ey
    cases ey
    exact low_turn (hd.ext e1) (e2.trans (ext_new hT)) (.tup (SqT.of upd_same) (.cons (.int _) (.cons (iv.mono (ext_new hT)) .nil))) (s2.mono (ext_new hT)) (m2.new hT) (turn i _ τ2 M2 (enumL_get (List.getElem?_eq_getElem hlt)) w2)
  · have e : i = ds.length := by (first | lia | omega)
    subst e
    exact .inl ⟨⟨xs, hq, iss.length⟩, hd.nx τ2 M2 σ2 H2 s2 m2 (e1.trans e2) (done τ2 M2 w2)⟩
theorem s_forE {a : Expr} {ta : TAd} {body : List Stmt} {p cpos : Pos} (hp : PassesOwn (model X.prog X.w) X.A X.env X.xe) (hc : X.calm = true) (hm : X.mg "enumerate" = none) (ha : PA X [a] (lowA X.K ta)) (hg : PG X (.Tuple elts k tpos) (lowG X.K g)) (hb : PSs X body (lowS X.K tb)) (hgl : Gl X "enumerate" := by rfl)
    (hst : starEach [a] X.env = [(false, eval a X.env)] := by rfl) (hs : ∀ x, foldedSetIterable (.Call (.Name "enumerate" p) [a] [] cpos) X.env x = pure x := by intro _; rfl) : PS X (.For (.Tuple elts k tpos) (.Call (.Name "enumerate" p) [a] [] cpos) body [] pos) (lowS X.K (sForE 0 ta g tb)) :=
  (ps_for hp hc (pi_enum hgl hm ha hst) hg hb hs).imp fun D σ H ⟨τ, M, D', hs, hm, h, hd⟩ => ⟨τ, M, _, hs, hm, h, fun ds M1 vs H1 m1 e1 i1 h1 => by
    match ds, h1, i1 with
    | [.tup ds], h1, i1 =>
      obtain ⟨v, rfl, i⟩ := iss1 i1
      cases i with
      | @tup l xs _ hx hxs => exact ⟨l, true, rfl, ⟨xs, hx⟩, enum_walk hd e1 (hs.mono e1) m1 (fun M2 H2 m2 e2 _ => ⟨xs, e2.t _ _ hx, hxs.mono e2⟩) h1⟩
    | [.ref l], h1, i1 =>
      obtain ⟨v, rfl, i⟩ := iss1 i1
      cases i with
      | ref =>
        obtain ⟨ds, hl, w⟩ := h1
        obtain ⟨xs, hx, hxs⟩ := m1.lst hl
        exact ⟨l, false, rfl, ⟨xs, hx⟩, enum_walk hd e1 (hs.mono e1) m1 (fun M2 H2 m2 e2 hl2 => m2.lst hl2) w⟩⟩
end
end DL
namespace DL
open PySem PySem.Spec PyProof.Rows L2
section
variable {X : Cx} {pins : List (Addr × Obj)} {σ : St} {H : Hp} {s : Shared}
theorem inv_swap {d : Addr} {u v : HO} (I : Inv X pins σ H s) (hd : H d = some u) (n1 : ∀ xs, X.H₀ d ≠ some (.tup xs)) (n2 : ∀ o x, X.H₀ d ≠ some (.frz o x)) (n3 : ∀ ps, X.H₀ d ≠ some (.tbl ps)) (n4 : ∀ xs, u ≠ .tup xs) (n5 : ∀ a, u ≠ .own a)
    (new : ObjOk X.prog X.w (upd H d v) s.heap d v) : Inv X pins σ (upd H d v) s := by
  have hne : ∀ b, H b = none → b ≠ d := fun b e z => by subst z; rw [hd] at e; cases e
  refine ⟨I.ok, I.os, I.bare, ⟨I.base.keep, I.base.slot, fun b o e n hx => ?_, I.base.there, fun b xs e => ?_, fun b o x e => ?_, fun b ps e => ?_⟩, I.loc, I.cell, ?_, fun x c e => ?_, fun p hp => ?_, fun b o e => ?_, I.len⟩
  · have z := I.base.free b o e n hx
    rw [upd_ne (hne b z)]; exact z
  · rw [upd_ne (by intro z; subst z; exact n1 xs e)]; exact I.base.tups b xs e
  · rw [upd_ne (by intro z; subst z; exact n2 o x e)]; exact I.base.frzs b o x e
  · obtain ⟨more, q⟩ := I.base.tbls b ps e
    exact ⟨more, by rw [upd_ne (by intro z; subst z; exact n3 ps e)]; exact q⟩
  · rw [upd_ne (hne _ I.free)]; exact I.free
  · rw [upd_ne (hne _ (I.freeC x c e))]; exact I.freeC x c e
  · obtain ⟨h1, h2, h3⟩ := I.pin p hp
    exact ⟨h1, by rw [upd_ne (hne _ h2)]; exact h2, h3⟩
  · by_cases z : b = d
    · subst z; rw [upd_same] at e; cases e; exact new
    · rw [upd_ne z] at e
      exact (I.hok b o e).stay (fun c w _ q => q) (fun c q => by rw [upd_ne (by intro y; subst y; rw [hd] at q; cases q; exact n5 _ rfl)]; exact q) fun c xs q => by rw [upd_ne (by intro y; subst y; rw [hd] at q; cases q; exact n4 _ rfl)]; exact q
theorem inv_freeze {d : Addr} {kx : List (Key × V)} (I : Inv X pins σ H s) (hd : H d = some (.dK kx)) : ∃ (o : Obj) (vs : List (Key × Value)) (ep : Nat), s.heap.get? d = some o ∧ KV kx vs ∧ s.heap.DictAt (mixKind X.prog X.w) d vs ep ∧ (∃ es, o.data = .dict es ep) ∧ (d == sysModules) = false ∧
    (∀ o x, X.H₀ d ≠ some (.frz o x)) ∧ Inv X pins σ (upd H d (.frz o (.dK kx))) s := by
  obtain ⟨z, y, vs, r, o, es, ep, h1, h2⟩ := dk_of I.hok hd
  have n2 : ∀ o x, X.H₀ d ≠ some (.frz o x) := fun o x e => by have := I.base.frzs d o x e; rw [hd] at this; cases this
  refine ⟨o, vs, ep, h1, r, ⟨o, es, h1, h2⟩, ⟨es, h2.2.1⟩, y, n2, inv_swap I hd (fun xs e => ?_) n2 (fun ps e => ?_) (fun xs e => nomatch e) (fun a e => nomatch e) ?_⟩
  · have := I.base.tups d xs e; rw [hd] at this; cases this
  · obtain ⟨more, this⟩ := I.base.tbls d ps e; rw [hd] at this; cases this
  · exact ⟨h1, z, y, vs, r, o, es, ep, h1, h2⟩
theorem inv_thaw {d : Addr} {o : Obj} {kx : List (Key × V)} (I : Inv X pins σ H s) (hd : H d = some (.frz o (.dK kx))) (n2 : ∀ o x, X.H₀ d ≠ some (.frz o x)) : Inv X pins σ (upd H d (.dK kx)) s := by
  obtain ⟨h1, h2⟩ := I.hok d _ hd
  refine inv_swap I hd (fun xs e => ?_) n2 (fun ps e => ?_) (fun xs e => nomatch e) (fun a e => nomatch e) h2
  · have := I.base.tups d xs e; rw [hd] at this; cases this
  · obtain ⟨more, this⟩ := I.base.tbls d ps e; rw [hd] at this; cases this
end
noncomputable def Itk (d : Addr) (o : Obj) (kx : List (Key × V)) : It :=
  ⟨fun i H => H d = some (.frz o (.dK kx)) ∧ i < kx.length, fun i H x H' => H' = H ∧ ∃ k v, kx[i]? = some (k, v) ∧ x = kV k, fun i H => H d = some (.frz o (.dK kx)) ∧ i = kx.length⟩
theorem frz_at {X : Cx} {pins : List (Addr × Obj)} {σ : St} {H : Hp} {s : Shared} {d : Addr} {o : Obj} {kx : List (Key × V)} {es : Array DictEntry} {ep : Nat} (I : Inv X pins σ H s) (hd : H d = some (.frz o (.dK kx))) (ho : o.data = .dict es ep) : ∃ vs, KV kx vs ∧ s.heap.DictAt (mixKind X.prog X.w) d vs ep := by
  obtain ⟨h1, z, y, vs, r, o', es', ep', h2, h3, h4, h5⟩ := I.hok d _ hd
  rw [h1] at h2
  (first | cases h2.inv | cases h2)
  rw [ho] at h4
  cases h4
  exact ⟨vs, r, o, es, h1, h3, ho, h5⟩
theorem key_rel {P : Program} {w : World} {k : Key} {v : Value} (h : (mixKind P w).is k v = true) : RelV (kV k) v := by
  rcases keyIs_shape h with ⟨i, t, e, rfl⟩ | ⟨i, t, e, rfl⟩
  · rw [e]; exact ⟨t, rfl⟩
  · rw [e]; exact ⟨t, rfl⟩
theorem turn_dict {P : Program} {w : World} {K : PySem.W.Frag} {tg : Expr} {d it : Addr} {o : Obj} {kx : List (Key × V)} {es : Array DictEntry} {ep : Nat} (ho : o.data = .dict es ep) : Turn P w K tg (Itk d o kx) [it] it (fun i h => h.IsKeyIter it d i kx.length ep) where
  mem := by simp
  obj := fun i h st b hb => by
    have e : b = it := by simpa using hb
    subst e
    obtain ⟨ob, e, c, dd⟩ := st
    exact ⟨ob, e, fun v z => by rw [dd] at z; cases z⟩
  keep := fun i h h' st k => st.at fun ob e => k it (by simp) ob e
  item := by
    intro X hP hw hK hc i pins s σ H E I hf st hg
    subst hP hw hK
    obtain ⟨hd, hi⟩ := hg
    obtain ⟨vs, rel, hat⟩ := frz_at I hd ho
    obtain ⟨f0, f1, f2, f3, f4, f5⟩ := hf it (by simp)
    have hne : d ≠ it := by intro z; subst z; rw [hd] at f0; cases f0
    have hlen : kx.length = vs.length := rel.length
    rw [hlen] at st hi
    refine (Walks.dictKeys (I.ok.hd hc) it d hne vs ep).item i s _ _ hi ⟨st, hat⟩ fun v h' tk hv st' kk => ?_
    obtain ⟨k, x, h1, h2⟩ := hv
    have I1 : Inv X pins σ H { s with heap := h', toks := tk } := I.turned (fun b ob hb e => kk b ob (by simpa using hb) e) f0 f1 f3 f4 f5
    obtain ⟨ob, e2, c2, d2⟩ := id st'.1
    have hk : (kx.map (·.1))[i]? = some k := by rw [rel.keys, List.getElem?_map, h1]; rfl
    rw [List.getElem?_map] at hk
    cases e3 : kx[i]? with
    | none => rw [e3] at hk; cases hk
    | some pr =>
      rw [e3] at hk
      cases hk
      exact ⟨v, rfl, go_of (s := { s with heap := h', toks := tk }) e2 c2 d2 (by decide) ⟨kV pr.1, H, I1, key_rel h2, ⟨rfl, pr.1, pr.2, e3, rfl⟩, by rw [hlen]; exact st'.1, fun b hb => (hf b hb).1⟩⟩
  done := by
    intro X hP hw hK hc i pins s σ H E I hf st hg
    subst hP hw hK
    obtain ⟨hd, hi⟩ := hg
    obtain ⟨vs, rel, hat⟩ := frz_at I hd ho
    obtain ⟨f0, f1, f2, f3, f4, f5⟩ := hf it (by simp)
    have hne : d ≠ it := by intro z; subst z; rw [hd] at f0; cases f0
    have hlen : kx.length = vs.length := rel.length
    rw [hlen] at st hi
    subst hi
    exact (Walks.dictKeys (I.ok.hd hc) it d hne vs ep).done s _ _ ⟨st, hat⟩ fun h' tk kk => ⟨rfl, I.turned (fun b ob hb e => kk b ob (by simpa using hb) e) f0 f1 f3 f4 f5⟩
  self := fun _ _ _ _ _ st h => wpAny_pyIter_keyiter st h
section
variable {X : Cx} {tg : Expr} {pos : Pos} {g : TGd} {tb : TSd} {te : TEd}
noncomputable def iDict (X : Cx) (tl : TE) : TI := fun σ H R => tl σ H fun x H1 => ∃ d kx, x = .ref d ∧ H1 d = some (.dK kx) ∧ ∀ o, (∀ o x, X.H₀ d ≠ some (.frz o x)) → R (Itk d o kx) (upd H1 d (.frz o (.dK kx)))
theorem pi_dict {l : Expr} {tl : TE} (hl : PE X l tl) : PI X tg l (iDict X tl) := by
  intro pins s σ H R I h
  refine thn (hl pins s σ H _ I h) fun v s1 zz0 => ?_
  obtain ⟨x, H1, I1, r1, q1⟩ := zz0
  obtain ⟨d, kx, e, hd, q⟩ := q1
  subst e
  cases r1
  obtain ⟨o, vs, ep, h1, rel, hat, ⟨es, ho⟩, lo, nf, I2⟩ := inv_freeze I1 hd
  refine wpAny_pyIter_dict lo hat ?_
  refine ⟨s1.heap.objs.size, [s1.heap.objs.size], _, _, _, rfl, I2.kept (t' := s1.toks) fun b ob e => Heap.get?_push_of_some _ e, turn_dict ho, ⟨_, Heap.get?_push_size _ rfl, rfl, by rw [rel.length]; rfl⟩, fun b hb => ?_, q o nf⟩
  have e : b = s1.heap.objs.size := by simpa using hb
  subst e
  exact I2.fpOk (Nat.le_refl _) (I2.hok.fresh (Nat.le_refl _))
noncomputable def thawed (X : Cx) (D : Ends) : Ends where
  nx := fun σ H => ∃ d o kx, H d = some (.frz o (.dK kx)) ∧ (∀ o x, X.H₀ d ≠ some (.frz o x)) ∧ D.nx σ (upd H d (.dK kx))
  rt := fun v H => ∃ d o kx, H d = some (.frz o (.dK kx)) ∧ (∀ o x, X.H₀ d ≠ some (.frz o x)) ∧ D.rt v (upd H d (.dK kx))
  bk := fun σ H => ∃ d o kx, H d = some (.frz o (.dK kx)) ∧ (∀ o x, X.H₀ d ≠ some (.frz o x)) ∧ D.bk σ (upd H d (.dK kx))
  ct := fun σ H => ∃ d o kx, H d = some (.frz o (.dK kx)) ∧ (∀ o x, X.H₀ d ≠ some (.frz o x)) ∧ D.ct σ (upd H d (.dK kx))
theorem ps_forK {iter : Expr} {body : List Stmt} {tl : TE} {gv : TG} {tbv : TS} (hp : PassesOwn (model X.prog X.w) X.A X.env X.xe) (hc : X.calm = true) (hl : PE X iter tl) (hg : PG X tg gv) (hb : PSs X body tbv)
    (hs : ∀ x, foldedSetIterable iter X.env x = pure x := by intro _; rfl) : PS X (.For tg iter body [] pos) (fun D σ H => tFor (iDict X tl) gv tbv (thawed X D) σ H) := by
  intro pins s σ H D I h
  refine thn (ps_for hp hc (pi_dict hl) hg hb hs pins s σ H (thawed X D) I h) fun f s1 q => ?_
  cases f with
  | next => obtain ⟨σ1, H1, I1, d, o, kx, hd, nf, q⟩ := q; exact ⟨σ1, _, inv_thaw I1 hd nf, q⟩
  | cont => obtain ⟨σ1, H1, I1, d, o, kx, hd, nf, q⟩ := q; exact ⟨σ1, _, inv_thaw I1 hd nf, q⟩
  | brk => obtain ⟨σ1, H1, I1, d, o, kx, hd, nf, q⟩ := q; exact ⟨σ1, _, inv_thaw I1 hd nf, q⟩
  | ret v => obtain ⟨x, σ1, H1, I1, r, d, o, kx, hd, nf, q⟩ := q; exact ⟨x, σ1, _, inv_thaw I1 hd nf, r, q⟩
theorem pkd_keys {K : PySem.W.Frag} {H : Hp} {kx : List (Key × V)} {kvs : List (Key × D)} (r : PKD K H kx kvs) : kx.map (·.1) = kvs.map (·.1) := by
  induction r with
  | nil => rfl
  | cons h t ih => rw [List.map_cons, List.map_cons, ih, h.1]
section
variable {K : PySem.W.Frag} {M : DH} {H : Hp} {l : Addr} {o : Obj} {kx : List (Key × V)} {kvs : List (Key × D)}
theorem ext_freeze (hx : H l = some (.dK kx)) : Ext K H (upd H l (.frz o (.dK kx))) := ext_upd (fun zs s => by rcases s with s | ⟨u, s⟩ <;> rw [hx] at s <;> cases s) (fun u x s => by rw [hx] at s; cases s)
theorem HAbs.freeze (h : HAbs K M H) (hx : H l = some (.dK kx)) (hp : PKD K H kx kvs) : HAbs K (updM M l (.fdc kvs)) (upd H l (.frz o (.dK kx))) := fun a u q => by
  by_cases z : a = l
  · subst z; rw [updM_same] at q; cases q; exact ⟨o, kx, upd_same, pkd_mono (ext_freeze hx) hp⟩
  · rw [updM_ne z] at q
    exact (h a u q).mono (ext_freeze hx).e0 (fun v w => by rw [upd_ne z]; exact w) (fun dx w => by rw [upd_ne (ne_of w hx (by intro k; cases k))]; exact w)
theorem ext_thaw (hx : H l = some (.frz o (.dK kx))) : Ext0 K H (upd H l (.dK kx)) := ⟨fun a xs s => by
  rcases s with s | s
  · have hne : a ≠ l := by intro z; subst z; rcases s with s | ⟨u, s⟩ <;> rw [hx] at s <;> cases s
    rcases s with s | ⟨u, s⟩
    · exact .inl (.inl (by rw [upd_ne hne]; exact s))
    · exact .inl (.inr ⟨u, by rw [upd_ne hne]; exact s⟩)
  · exact .inr s, fun a xs s => by
  rcases s with ⟨u, s⟩ | s
  · exact .inl ⟨u, by rw [upd_ne (by intro z; subst z; rw [hx] at s; cases s)]; exact s⟩
  · exact .inr s⟩
theorem HAbs.thaw (h : HAbs K M H) (hx : H l = some (.frz o (.dK kx))) (hl : M l = some (.fdc kvs)) : HAbs K (updM M l (.dic kvs)) (upd H l (.dK kx)) := fun a u q => by
  obtain ⟨o', kx', h1, hp⟩ := h l _ hl
  rw [hx] at h1
  (first | cases h1.inv | cases h1)
  by_cases z : a = l
  · subst z; rw [updM_same] at q; cases q; exact ⟨kx, upd_same, pkd_mono0 (ext_thaw hx) hp⟩
  · rw [updM_ne z] at q
    exact (h a u q).mono (ext_thaw hx) (fun v w => by rw [upd_ne z]; exact w) (fun dx w => by rw [upd_ne (ne_of w hx (by intro k; cases k))]; exact w)
theorem ext_loop {H1 H2 : Hp} (h1 : H1 l = some (.dK kx)) (e : Ext K (upd H1 l (.frz o (.dK kx))) H2) : Ext K H1 (upd H2 l (.dK kx)) := by
  have h2 : H2 l = some (.frz o (.dK kx)) := e.z _ _ _ upd_same
  refine ⟨fun a xs s => (ext_thaw h2).t a xs (e.t a xs ((ext_freeze h1).t a xs s)), fun a u x s => ?_⟩
  have hne : a ≠ l := by intro z; subst z; rw [h1] at s; cases s
  rw [upd_ne hne]
  exact e.z a u x (by rw [upd_ne hne]; exact s)
end
noncomputable def forKD (g : TGd) (tb : TSd) (E : EndsD) (τ : DSt) : D → DH → Prop
  | .ref l, M => ∃ kvs, M l = some (.dic kvs) ∧ ∃ W : Nat → DSt → DH → Prop, W 0 τ (updM M l (.fdc kvs)) ∧ (∀ i τ M, i ≤ kvs.length → W i τ M → M l = some (.fdc kvs)) ∧
      (∀ i k d τ M, kvs[i]? = some (k, d) → W i τ M → g (keyD k) τ M fun τ2 M2 => tb { nx := W (i + 1), ct := W (i + 1), bk := fun τ M => M l = some (.fdc kvs) ∧ E.nx τ (updM M l (.dic kvs)), rt := fun d M => M l = some (.fdc kvs) ∧ E.rt d (updM M l (.dic kvs)) } τ2 M2) ∧
      ∀ τ M, W kvs.length τ M → E.nx τ (updM M l (.dic kvs))
  | _, _ => False
noncomputable def sForK (te : TEd) (g : TGd) (tb : TSd) : TSd := fun E τ M => te τ M fun x M1 => forKD g tb E τ x M1
theorem s_forK {iter : Expr} {body : List Stmt} (hp : PassesOwn (model X.prog X.w) X.A X.env X.xe) (hc : X.calm = true) (hi : PE X iter (low X.K te)) (hg : PG X tg (lowG X.K g)) (hb : PSs X body (lowS X.K tb))
    (hs : ∀ x, foldedSetIterable iter X.env x = pure x := by intro _; rfl) : PS X (.For tg iter body [] pos) (lowS X.K (sForK te g tb)) :=
  (ps_forK hp hc hi hg hb hs).imp fun D σ H ⟨τ, M, D', hs, hm, h, hd⟩ => ⟨τ, M, _, hs, hm, h, fun x M1 v H1 m1 e1 i1 h1 => by
    cases i1 with
    | ref l =>
      obtain ⟨kvs, hl, W, w0, stay, turn, done⟩ := h1
      obtain ⟨kx, hx, hpk⟩ := m1 l _ hl
      have hlen := pkd_length hpk
      refine ⟨l, kx, rfl, hx, fun o nf => ?_⟩
      refine ⟨fun i m σ2 H2 => m = kvs.length - i ∧ i ≤ kvs.length ∧ ∃ τ2 M2, SAbs X.K τ2 σ2 H2 ∧ HAbs X.K M2 H2 ∧ Ext X.K (upd H1 l (.frz o (.dK kx))) H2 ∧ W i τ2 M2, ⟨kvs.length, by simp, Nat.zero_le _, τ, _, (hs.mono e1).mono (ext_freeze hx), m1.freeze hx hpk, Ext.refl _, w0⟩, ?_⟩
      rintro i m σ2 H2 ⟨rfl, hi, τ2, M2, s2, m2, e2, w2⟩
      have hz : H2 l = some (.frz o (.dK kx)) := e2.z _ _ _ upd_same
      by_cases hlt : i < kvs.length
      · refine .inr ⟨⟨hz, by (first | lia | omega)⟩, fun σ3 H3 => ∃ τ3 M3, SAbs X.K τ3 σ3 H3 ∧ HAbs X.K M3 H3 ∧ Ext X.K (upd H1 l (.frz o (.dK kx))) H3 ∧ W (i + 1) τ3 M3, fun σ3 H3 p => ⟨kvs.length - (i + 1), by (first | lia | omega), rfl, hlt, p⟩, fun x H' y => ?_⟩
        obtain ⟨rfl, k, vv, ek, rfl⟩ := y
        obtain ⟨q, hq⟩ : ∃ q, kvs[i]? = some q := ⟨_, List.getElem?_eq_getElem hlt⟩
        have ekk : q.1 = k := by
          have h1 : (kx.map (·.1))[i]? = (kvs.map (·.1))[i]? := by
            rw [pkd_keys hpk]
          rw [List.getElem?_map, List.getElem?_map, ek, hq] at h1
          exact (Option.some.inj h1).symm
        subst ekk
        refine ⟨keyD q.1, τ2, M2, _, by cases q.1 with | inl n => exact .int n | inr z => exact .str z, s2, m2, turn i q.1 q.2 τ2 M2 hq w2, fun τ3 M3 σ3 H3 s3 m3 e3 q3 => ⟨τ3, M3, _, s3, m3, q3, ⟨?_, ?_, ?_, ?_⟩⟩⟩
        · intro τ4 M4 σ4 H4 s4 m4 e4 q4
          exact ⟨τ4, M4, s4, m4, e2.trans (e3.trans e4), q4⟩
        · rintro d4 M4 v4 H4 m4 e4 i4 ⟨hf4, q4⟩
          have e5 := e2.trans (e3.trans e4)
          have hz4 : H4 l = some (.frz o (.dK kx)) := e5.z _ _ _ upd_same
          exact ⟨l, o, kx, hz4, nf, hd.rt _ _ _ _ (m4.thaw hz4 hf4) (e1.trans (ext_loop hx e5)) (i4.mono0 (ext_thaw hz4)) q4⟩
        · rintro τ4 M4 σ4 H4 s4 m4 e4 ⟨hf4, q4⟩
          have e5 := e2.trans (e3.trans e4)
          have hz4 : H4 l = some (.frz o (.dK kx)) := e5.z _ _ _ upd_same
          exact ⟨l, o, kx, hz4, nf, hd.nx _ _ _ _ (s4.mono0 (ext_thaw hz4)) (m4.thaw hz4 hf4) (e1.trans (ext_loop hx e5)) q4⟩
        · intro τ4 M4 σ4 H4 s4 m4 e4 q4
          exact ⟨τ4, M4, s4, m4, e2.trans (e3.trans e4), q4⟩
      · have e : i = kvs.length := by (first | lia | omega)
        subst e
        have hf := stay _ τ2 M2 (Nat.le_refl _) w2
        exact .inl ⟨⟨hz, hlen.symm⟩, l, o, kx, hz, nf, hd.nx _ _ _ _ (s2.mono0 (ext_thaw hz)) (m2.thaw hz hf) (e1.trans (ext_loop hx e2)) (done τ2 M2 w2)⟩
    | _ => exact h1.elim⟩
end
end DL
namespace DL
open PySem PySem.Spec PyProof.Rows L2
section
variable {prog : Program} {w : World} {A : Around} {E : Value → Shared → Prop} {z : Shared}
end
end DL
namespace DL
open PySem PySem.Spec PyProof.Rows L2
section
variable {X : Cx} {elts : List Expr} {k : Nat} {tpos pos : Pos} {g : TGd} {tb : TSd}
noncomputable def forE1 (g : TGd) (tb : TSd) (E : EndsD) (τ : DSt) : List D → DH → Prop
  | [.ref l], M => ∃ ds, M l = some (.lst ds) ∧ walkD (enumL 1 ds) (fun M => M l = some (.lst ds)) g tb E τ M
  | _, _ => False
noncomputable def sForE1 (ta : TAd) (g : TGd) (tb : TSd) : TSd := fun E τ M => ta τ M fun vs M1 => forE1 g tb E τ vs M1
end
end DL
namespace DL
open PySem PySem.Spec PyProof.Rows L2
section
variable {X : Cx} {k : Nat}
noncomputable def D.isNon : D → Bool
  | .non => true
  | _ => false
noncomputable def isD (neg : Bool) : D → D → DH → KD → Prop
  | .bl a, .bl b, M, Q => Q (.bl (if neg then !(a == b) else a == b)) M
  | x, .non, M, Q => Q (.bl (if neg then !x.isNon else x.isNon)) M
  | _, _, _, _ => False
theorem isD_non {neg : Bool} {x : D} {M : DH} {Q : KD} (h : isD neg x .non M Q) : Q (.bl (if neg then !x.isNon else x.isNon)) M := by cases x <;> exact h
theorem isNon_of {K : PySem.W.Frag} {H : Hp} {v : V} {d : D} (i : Is K H v d) : decide (v = .non) = d.isNon := by cases i <;> rfl
theorem od_is : OpD X (compareOp .Is) (isD false) := by
  rintro pins s σ H vx vy v u Q I rx ry ⟨x, y, M, Q', ix, iy, hm, q, hq⟩
  cases iy with
  | non =>
    have q' := isD_non q
    exact op_isN pins s σ H _ _ v u Q I rx ry ⟨rfl, hq.here hm (.bl _) (by rw [isNon_of ix]; exact q')⟩
  | bl b => cases ix with
    | bl a =>
      cases rx
      cases ry
      exact is_bool ⟨.bl _, H, I, rfl, hq.here hm (.bl _) q⟩
    | _ => exact q.elim
  | _ => first | exact q.elim | (cases ix <;> exact q.elim)
theorem od_isnot : OpD X (compareOp .IsNot) (isD true) := by
  rintro pins s σ H vx vy v u Q I rx ry ⟨x, y, M, Q', ix, iy, hm, q, hq⟩
  cases iy with
  | non =>
    have q' := isD_non q
    exact op_notN pins s σ H _ _ v u Q I rx ry ⟨rfl, hq.here hm (.bl _) (by rw [isNon_of ix]; exact q')⟩
  | bl b => cases ix with
    | bl a =>
      cases rx
      cases ry
      exact isnot_bool ⟨.bl _, H, I, rfl, hq.here hm (.bl _) q⟩
    | _ => exact q.elim
  | _ => first | exact q.elim | (cases ix <;> exact q.elim)
theorem lists_at {pins : List (Addr × Obj)} {σ : St} {H : Hp} {s : Shared} {us ws : List V} {xs ys : List D} {its its2 : List Value} (I : Inv X pins σ H s) (i1 : Iss X.K H us xs) (i2 : Iss X.K H ws ys) (r1 : Vals us its) (r2 : Vals ws its2) (ok : D.eqOks xs ys = true) (dp : D.deps xs ≤ 150) {A : Around} (hu : A.units + 200 < cLine) :
    ∀ j (h1 : j < its.toArray.size) (h2 : j < its2.toArray.size), SeqAt.EqAt A s its.toArray[j] its2.toArray[j] (pairEq xs ys j) := by
  intro j h1 h2
  have n1 : its.toArray.size = xs.length := by rw [List.size_toArray, ← r1.length, i1.length]
  have n2 : its2.toArray.size = ys.length := by rw [List.size_toArray, ← r2.length, i2.length]
  have q1 : xs[j]? = some xs[j] := List.getElem?_eq_getElem (by (first | lia | omega))
  have q2 : ys[j]? = some ys[j] := List.getElem?_eq_getElem (by (first | lia | omega))
  obtain ⟨x, ex, ix⟩ := i1.get q1
  obtain ⟨y, ey, iy⟩ := i2.get q2
  obtain ⟨ux, eu, ru⟩ := r1.get ex
  obtain ⟨uy, ew, rw'⟩ := r2.get ey
  have g1 : its.toArray[j] = ux := by
    have : its[j]? = some its[j] := List.getElem?_eq_getElem (by simpa using h1)
    rw [this] at eu; simpa using eu
  have g2 : its2.toArray[j] = uy := by
    have : its2[j]? = some its2[j] := List.getElem?_eq_getElem (by simpa using h2)
    rw [this] at ew; simpa using ew
  rw [g1, g2]
  have pe : pairEq xs ys j = D.eq xs[j] ys[j] := by unfold pairEq; rw [q1, q2]
  rw [pe]
  have dg := deps_get q1
  exact (eqAt_D I 150 _ _ A x y ux uy (by (first | lia | omega)) (by (first | lia | omega)) (eqOks_get ok q1 q2) ix iy ru rw').1
theorem eqs_len : ∀ {xs ys : List D}, D.eqs xs ys = true → xs.length = ys.length
  | [], [], _ => rfl
  | [], _ :: _, h => nof h
  | _ :: _, [], h => nof h
  | x :: xs, y :: ys, h => by
    rw [List.length_cons, List.length_cons, eqs_len (Bool.and_eq_true_iff.mp h).2]
noncomputable def neXD : D → D → DH → KD → Prop
  | .ref l, .ref r, M, Q => ∃ xs ys, LstAt M l xs ∧ LstAt M r ys ∧ D.eqOks xs ys = true ∧ D.deps xs ≤ 150 ∧ Q (.bl (!D.eqs xs ys)) M
  | .tup xs, .tup ys, M, Q => D.eqOks xs ys = true ∧ D.deps xs ≤ 150 ∧ Q (.bl (!D.eqs xs ys)) M
  | .int i, .int j, M, Q => Q (.bl (!decide (i = j))) M
  | .str i, .str j, M, Q => Q (.bl (!decide (i = j))) M
  | .bl i, .bl j, M, Q => Q (.bl (!decide (i = j))) M
  | _, _, _, _ => False
theorem od_neX (hk1 : Room (k + 1) X.A) : OpD X (compareOp .NotEq) neXD := by
  rintro pins s σ H vx vy v u Q I rx ry ⟨x, y, M, Q', ix, iy, hm, q, hq⟩
  have hr := hk1.mono (Nat.le_succ k)
  have hu : X.A.units + 200 < cLine := by have := hr.un; (first | lia | omega)
  by_cases hrr : ∃ l r, x = .ref l ∧ y = .ref r
  · obtain ⟨l, r, rfl, rfl⟩ := hrr
    obtain ⟨xs, ys, hl, hr', ok, dp, q⟩ := q
    (first | cases ix.inv | cases ix)
    (first | cases iy.inv | cases iy)
    cases rx
    cases ry
    obtain ⟨us, hu1, i1⟩ := hm.lst hl
    obtain ⟨ws, hw, i2⟩ := hm.lst hr'
    obtain ⟨its, r1, p1, _⟩ := I.list hu1
    obtain ⟨its2, r2, p2, _⟩ := I.list hw
    have n1 : its.toArray.size = xs.length := by rw [List.size_toArray, ← r1.length, i1.length]
    have n2 : its2.toArray.size = ys.length := by rw [List.size_toArray, ← r2.length, i2.length]
    by_cases hlen : xs.length = ys.length
    · refine SeqAt.RcNeAt.lists (e := pairEq xs ys) p1.isList p2.isList (by rw [n1, n2, hlen]) (by (first | lia | omega)) (lists_at I i1 i2 r1 r2 ok dp (A := X.A.in1) (by rw [in1_units]; have := hk1.un; (first | lia | omega))) _ _ _ _ ⟨.bl _, H, I, rfl, hq.here hm (.bl _) ?_⟩
      have e := eqs_all xs ys
      rw [show min xs.length ys.length = xs.length by (first | lia | omega), show (xs.length == ys.length) = true by simpa using hlen, Bool.and_true] at e
      rw [n1, e]
      exact q
    · have hf : D.eqs xs ys = false := by
        cases h : D.eqs xs ys with
        | false => rfl
        | true => exact absurd (eqs_len h) hlen
      rw [hf] at q
      exact SeqAt.RcNeAt.lists_lengths p1.isList p2.isList (by rw [n1, n2]; simpa using hlen) (by (first | lia | omega)) _ _ _ _ ⟨.bl _, H, I, rfl, hq.here hm (.bl _) q⟩
  · refine od_ne hr pins s σ H vx vy v u Q I rx ry ⟨x, y, M, Q', ix, iy, hm, ?_, hq⟩
    cases x <;> cases y <;> first | exact q | exact q.elim | exact absurd ⟨_, _, rfl, rfl⟩ hrr
end
section
variable {X : Cx} {tg elt a : Expr} {ifs : List Expr} {scope : Scope} {pos p cpos : Pos} {js : List (Option Nat)} {Nc : List Str} {cl : List (Str × Addr)}
noncomputable def compR (g : TGd) (tt : TTd) (te : TEd) (js : List (Option Nat)) (τ : DSt) : List D → DH → KD → Prop
  | [.int j], M, Q => (-(2 ^ 62) ≤ j ∧ j < 2 ^ 62) ∧ compD ((List.range j.toNat).map fun i : Nat => D.int (i : Int)) g tt te js τ M Q
  | _, _, _ => False
noncomputable def eCompR (ta : TAd) (g : TGd) (tt : TTd) (te : TEd) (js : List (Option Nat)) : TEd := fun τ M Q => ta τ M fun vs M1 => compR g tt te js τ vs M1 Q
theorem gives_r {K : PySem.W.Frag} {H : Hp} (n : Nat) : Gives K (Itr 0 n) ((List.range n).map fun i : Nat => D.int (i : Int)) H :=
  ⟨fun j hj => by rw [List.length_map, List.length_range] at hj; exact hj, fun j x H' hj ⟨e, y⟩ => by
    rw [List.length_map, List.length_range] at hj
    refine ⟨e, .int (j : Int), by rw [List.getElem?_map, List.getElem?_range hj]; rfl, ?_⟩
    rw [y, Int.zero_add]
    exact .int _, by rw [List.length_map, List.length_range]; exact Nat.le_refl n⟩
theorem d_compR {ta : TAd} {ted : TEd} {gd : TGd} {ttd : TTd} (O : CompOk X Nc js scope cl) (hc : X.calm = true) (hmr : X.mg "range" = none) (ha : PA X [a] (lowA X.K ta)) (hg : ∀ C s H fp, PG (compCx X Nc scope cl C s H fp) tg (lowG X.K gd)) (hif : ∀ C s H fp, DIfs (compCx X Nc scope cl C s H fp) ifs ttd) (he : ∀ C s H fp, PE (compCx X Nc scope cl C s H fp) elt (low X.K ted))
    (hgl : Gl X "range" := by rfl) (hst : starEach [a] X.env = [(false, eval a X.env)] := by rfl) (hs : ∀ x, foldedSetIterable (.Call (.Name "range" p) [a] [] cpos) X.env x = pure x := by intro _; rfl) : PE X (.ListComp elt [⟨tg, .Call (.Name "range" p) [a] [] cpos, ifs, 0⟩] scope pos) (low X.K (eCompR ta gd ttd ted js)) := by
  intro pins s0 σ0 H0 Q0 I0 hw
  obtain ⟨ttv, hif', htt⟩ : ∃ ttv : TT, (∀ C s H fp, PIfs (compCx X Nc scope cl C s H fp) ifs ttv) ∧ ∀ σ H R, lowT X.K ttd σ H R → ttv σ H R := by
    rcases hif 0 s0 H0 [] with ⟨e1, e2⟩ | ⟨c, e1, _⟩
    · subst e1 e2
      refine ⟨_, fun _ _ _ _ => .inl ⟨rfl, rfl⟩, fun σ H R zz0 => ?_⟩
      obtain ⟨τ, M, Q', _, hm, h, hq⟩ := zz0
      exact hq true M H hm (Ext.refl H) h
    · subst e1
      refine ⟨lowT X.K ttd, fun C s H fp => ?_, fun σ H R h => h⟩
      rcases hif C s H fp with ⟨e1, _⟩ | ⟨c', e1, h⟩
      · cases e1
      · cases e1
        exact .inr ⟨c, rfl, h⟩
  refine ((pe_comp O hc (pi_range1 hgl hmr ha hst) hg hif' he hs).imp (t' := low X.K (eCompR ta gd ttd ted js)) fun σ H Q zz0 => ?_) pins s0 σ0 H0 Q0 I0 hw
  obtain ⟨τ, M, Q', hs, hm, h, hq⟩ := zz0
  refine ⟨τ, M, _, hs, hm, h, fun ds M1 vs H1 m1 e1 i1 h1 => ?_⟩
  match ds, h1, i1 with
  | [.int j], h1, i1 =>
    obtain ⟨v, rfl, i⟩ := iss1 i1
    (first | cases i.inv | cases i)
    obtain ⟨⟨q1, q2⟩, w⟩ := h1
    exact ⟨j, rfl, q1, q2, low_comp (hs.mono e1) e1 m1 hq htt (fun l M2 H2 m2 e2 _ _ => gives_r j.toNat) w⟩
end
end DL
namespace DL
open PySem PySem.Spec PyProof.Rows L2
section
variable {X : Cx}
noncomputable def isiKD : List D → DH → KD → Prop
  | [.ref l, .ty T], M, Q => T = "dict" ∧ (∃ kvs, DicAt M l kvs) ∧ Q (.bl true) M
  | _, _, _ => False
end
end DL
namespace DL
open PySem PySem.Spec PyProof.Rows L2
theorem _root_.L2.ObjOk.got {P : Program} {w : World} {H : Hp} {h : Heap} {a : Addr} {o : HO} (x : ObjOk P w H h a o) : ∃ u, h.get? a = some u := by
  cases o with
  | lst xs => obtain ⟨_, _, _, _, e⟩ := x; exact ⟨_, e⟩
  | tup xs => obtain ⟨_, _, _, o, e, _⟩ := x; exact ⟨_, e⟩
  | dK kvs => obtain ⟨_, _, _, _, o, _, _, e, _⟩ := x; exact ⟨_, e⟩
  | dT kvs => obtain ⟨_, _, _, _, o, _, _, e, _⟩ := x; exact ⟨_, e⟩
  | set S n => obtain ⟨o, _, _, _, e, _⟩ := x; exact ⟨_, e⟩
  | ins C dx fs => obtain ⟨_, _, _, e, _⟩ := x; exact ⟨_, e⟩
  | own y => obtain ⟨_, e⟩ := x; exact ⟨_, e⟩
  | xd fs => obtain ⟨_, ⟨_, _, _, e, _⟩, _⟩ := x; exact ⟨_, e⟩
  | rng lo hi => obtain ⟨_, _, _, e⟩ := x; exact ⟨_, e⟩
  | frz ob u => obtain ⟨e, _⟩ := x; exact ⟨_, e⟩
  | tbl ps => exact ⟨_, (show h.get? a = some _ from x)⟩
  | met f y => exact ⟨_, (show h.get? a = some _ from x)⟩
  | ext φ => obtain ⟨_, ⟨_, e⟩, _⟩ := x; exact ⟨_, e⟩
noncomputable def Tr (h : Heap) (a T : Addr) (cls : Value) : Prop :=
  ∃ oe vs a0 oT ts, h.get? a = some oe ∧ (oe.cls = cls ∧ vs[0]? = some a0) ∧ oe.data = .fields vs ∧ vs[1]? = some (.ref T) ∧ T ≠ a ∧ h.get? T = some oT ∧ oT.data = .fields ts ∧ ts[3]? = some .none
noncomputable def CXE (P : Program) (w : World) : CXT := fun outer H s E e s' => ∃ (a T : Addr) (cls : Value) (H' : Hp), e = .ref a ∧ s'.os = s.os ∧ AllBare s'.gens ∧ Un (frs outer) [] H H' s.heap s'.heap ∧ HOk P w H' s'.heap ∧
  s.heap.get? a = none ∧ s.heap.get? T = none ∧ H' a = none ∧ H' T = none ∧ Tr s'.heap a T cls ∧ E cls none H'
theorem cxe_of {X : Cx} {pins : List (Addr × Obj)} {σ : St} {H : Hp} {s : Shared} {E : XK} {h' : Heap} {xs : List Addr} {a : Addr} {cls a0 : Value} {t' : Nat} (I : Inv X pins σ H s) (hex : X.ex = []) (hst : X.stack = X.env :: X.outer)
    (hxs : ∀ b ∈ xs, X.s₀.heap.get? b = none ∧ H b = none) (stay : (PySem.W.hideAll s.heap (xs ++ frs X.stack)).StaysIn h') (up : s.heap.UpToSlots h') (tr : h'.TracedW (PySem.W.hideAll s.heap (xs ++ frs X.stack)) a cls a0)
    (ha : X.s₀.heap.get? a = none ∧ H a = none) (hE : E cls none H) : CXE X.prog X.w X.outer X.H₀ X.s₀ E (.ref a) { s with heap := h', toks := t' } := by
  obtain ⟨oe, vs, T, oT, ts, h1, h2, h3, h4, h5, h6, h7, h8, h9⟩ := tr
  have hexb : ∀ b : Addr, b ∉ X.ex := fun b z => by rw [hex] at z; cases z
  have hL : X.s₀.heap.get? X.env.locals = none := Heap.get?_none_of_le I.ok.above
  have kept : ∀ b o, s.heap.get? b = some o → b ∉ xs → b ∉ frs X.stack → h'.get? b = some o := fun b o e n1 n2 => stay b o (PySem.W.hideAll_get _ e fun z => (List.mem_append.mp z).elim n1 n2)
  have nx : ∀ b o, X.s₀.heap.get? b = some o → b ∉ xs := fun b o e z => by rw [(hxs b z).1] at e; cases e
  have ns : ∀ b o, X.s₀.heap.get? b = some o → b ∉ X.fs → b ∉ frs X.stack := fun b o e n z => by
    rcases List.mem_cons.mp (I.stkSub b z) with z | z
    · subst z; rw [hL] at e; cases e
    · exact n z
  have frm : ∀ b ∈ frs X.stack, ∃ o, h'.get? b = some o ∧ ∀ ws, o.data ≠ .fields ws := fun b z => by
    obtain ⟨_, o, e, d⟩ := I.stack.mem z
    obtain ⟨sl, e'⟩ := up b o e d
    exact ⟨_, e', d⟩
  have trk : ∀ b u, H b = some u → b ∉ xs ∧ b ∉ frs X.stack := fun b u e => ⟨fun z => (by rw [(hxs b z).2] at e; cases e), fun z => (by rw [I.stkFree b z] at e; cases e)⟩
  have hT : T ∉ frs X.stack := fun z => by
    obtain ⟨o, e, d⟩ := frm T z
    rw [h7] at e; cases e
    exact d ts h8
  have sT : s.heap.get? T = none ∨ T ∈ xs := by
    cases e : s.heap.get? T with
    | none => exact .inl rfl
    | some o =>
      refine .inr (Classical.byContradiction fun n => ?_)
      have z := PySem.W.hideAll_get (xs ++ frs X.stack) e fun z => (List.mem_append.mp z).elim n hT
      rw [h5] at z; cases z
  refine ⟨a, T, cls, H, rfl, I.os, I.bare, ⟨fun b o e n hb _ => ?_, fun b o e n hb _ => ?_, fun b o e n _ => I.base.free b o e n (hexb b), fun b o e _ => ?_, I.base.tups, I.base.frzs, I.base.tbls⟩, fun b u e => ?_, ha.1, ?_, ha.2, ?_, ⟨oe, vs, a0, oT, ts, h1, h2, h3, h4, h6, h7, h8, h9⟩, hE⟩
  · exact kept b o (I.base.keep b o e n hb (hexb b)) (nx b o e) (ns b o e hb)
  · obtain ⟨sl, e1⟩ := I.base.slot b o e n hb (hexb b)
    obtain ⟨_, o', e2, d⟩ := I.funs.mem hb
    rw [e1] at e2; cases e2
    obtain ⟨sl', e3⟩ := up b _ e1 d
    exact ⟨sl', e3⟩
  · obtain ⟨o', e1⟩ := I.base.there b o e (hexb b)
    by_cases hb : b ∈ frs X.stack
    · obtain ⟨o2, e2, _⟩ := frm b hb; exact ⟨o2, e2⟩
    · exact ⟨o', kept b o' e1 (nx b o e) hb⟩
  · refine (I.hok b u e).stay (fun c v hc q => ?_) (fun _ q => q) fun _ _ q => q
    rcases hc with rfl | hc
    · exact kept _ v q (trk _ u e).1 (trk _ u e).2
    · exact kept c v q (trk c _ hc).1 (trk c _ hc).2
  · rcases sT with z | z
    · cases e : X.s₀.heap.get? T with
      | none => rfl
      | some o =>
        obtain ⟨o', e1⟩ := I.base.there T o e (hexb T)
        rw [z] at e1; cases e1
    · exact (hxs T z).1
  · rcases sT with z | z
    · cases e : H T with
      | none => rfl
      | some u =>
        obtain ⟨o, e1⟩ := (I.hok T u e).got
        rw [z] at e1; cases e1
    · exact (hxs T z).2
structure XCame (X : Cx) (EX : DSt → Value → DH → Prop) : Prop where
  came : ∀ (pins : List (Addr × Obj)) (τ : DSt) (σ : St) (H : Hp) (s : Shared) (E1 : XK) (e : Value) (s' : Shared), Inv X pins σ H s → SAbs X.K τ σ H → CXE X.prog X.w X.stack H s E1 e s' → (∀ cls H1, E1 cls none H1 → ∃ M1, HAbs X.K M1 H1 ∧ EX τ cls M1) → X.xe e s'
structure XOk (X : Cx) (EX : DSt → Value → DH → Prop) : Prop extends XCame X EX where
  made : ∀ (pins : List (Addr × Obj)) (τ : DSt) (σ : St) (H : Hp) (s : Shared) (C a : Addr) (h1 : Heap) (args : List Value) (M : DH), Inv X pins σ H s → SAbs X.K τ σ H → Heap.MadeExcOf s.heap h1 a (.ref C) args → HAbs X.K M H → EX τ (.ref C) M → X.xe (.ref a) { s with heap := h1 }
theorem inv_ext {X : Cx} {pins : List (Addr × Obj)} {σ : St} {H : Hp} {s : Shared} (I : Inv X pins σ H s) : Ext X.K X.H₀ H := ⟨fun a xs h => by
  rcases h with (h | ⟨o, h⟩) | h
  · exact .inl (.inl (I.base.tups a xs h))
  · exact .inl (.inr ⟨o, I.base.frzs a o _ h⟩)
  · exact .inr h, fun a o u h => I.base.frzs a o u h⟩
section
variable {P : Program} {w : World} {K : PySem.W.Frag} {mg : Str → Option Value} {base : Heap} {N : List Str} {qual : Str} {scope : Scope} {f : Addr} {cd : Value} {A : Around} {outer : List Env} {s₀ : Shared} {H₀ : Hp} {E : XK} {EX : Value → DH → Prop}
theorem xok_body (hE : ∀ cls M1 H1, HAbs K M1 H1 → Ext K H₀ H1 → EX cls M1 → E cls none H1) : XOk (cxOf (CXE P w) P w K mg base N qual scope f cd A outer s₀ H₀ E) (fun _ => EX) where
  came := fun pins τ σ H s E1 e s' I _ ⟨a, T, cls, H', he, ho, hb, un, hok, na, nT, ta, tT, tr, hE1⟩ hq => by
    subst he
    obtain ⟨M1, hm, q⟩ := hq cls H' hE1
    have I' : Inv (cxOf (CXE P w) P w K mg base N qual scope f cd A outer s₀ H₀ E) pins σ H' s' := I.call' ho un hok hb fun b z => nomatch z
    have s0n : ∀ b, s.heap.get? b = none → s₀.heap.get? b = none := fun b z => by
      cases e : s₀.heap.get? b with
      | none => rfl
      | some o =>
        obtain ⟨o', e1⟩ := I.base.there b o e (fun z => nomatch z)
        rw [z] at e1; cases e1
    have hxs : ∀ b ∈ [a, T], s₀.heap.get? b = none ∧ H' b = none := fun b z => by
      simp only [List.mem_cons, List.not_mem_nil, or_false] at z
      rcases z with rfl | rfl
      · exact ⟨s0n _ na, ta⟩
      · exact ⟨s0n _ nT, tT⟩
    obtain ⟨oe, vs, a0, oT, ts, t1, t2, t3, t4, t5, t6, t7, t8⟩ := tr
    have hin : ∀ env ∈ (cxOf (CXE P w) P w K mg base N qual scope f cd A outer s₀ H₀ E).stack, ∀ b, env.frame = some b → b ∈ [a, T] ++ frs (cxOf (CXE P w) P w K mg base N qual scope f cd A outer s₀ H₀ E).stack := fun env he b hb => List.mem_append_right _ (List.mem_filterMap.mpr ⟨env, he, hb⟩)
    refine wpAny_leaving_nextW (base := PySem.W.hideAll s'.heap ([a, T] ++ frs (cxOf (CXE P w) P w K mg base N qual scope f cd A outer s₀ H₀ E).stack)) (cls := cls) (a0 := a0) I'.ok.frames (PySem.W.funFrames_hide I'.stack hin) rfl ?_ (fun b o z => PySem.W.of_hideAll _ z) (PySem.W.hideAll_none _ (by simp)) fun h' hL => ?_
    · exact ⟨oe, vs, T, oT, ts, t1, t2, t3, t4, PySem.W.hideAll_none _ (by simp), t5, t6, t7, t8⟩
    · obtain ⟨k1, _, k3, k4⟩ := hL
      exact cxe_of (t' := s'.toks) I' rfl rfl hxs k1 k4 k3 (hxs a (by simp)) (hE cls M1 H' hm (inv_ext I') q)
  made := fun pins τ σ H s C a h1 args M I _ mk hm q => by
    have s0n : ∀ b, s.heap.get? b = none → s₀.heap.get? b = none := fun b z => by
      cases e : s₀.heap.get? b with
      | none => rfl
      | some o =>
        obtain ⟨o', e1⟩ := I.base.there b o e (fun z => nomatch z)
        rw [z] at e1; cases e1
    have hin : ∀ env ∈ (cxOf (CXE P w) P w K mg base N qual scope f cd A outer s₀ H₀ E).stack, ∀ b, env.frame = some b → b ∈ [] ++ frs (cxOf (CXE P w) P w K mg base N qual scope f cd A outer s₀ H₀ E).stack := fun env he b hb => List.mem_filterMap.mpr ⟨env, he, hb⟩
    refine wpAny_leaves_madeW (base := PySem.W.hideAll s.heap ([] ++ frs (cxOf (CXE P w) P w K mg base N qual scope f cd A outer s₀ H₀ E).stack)) (h := s.heap) I.ok.frames rfl (fun b o z => PySem.W.of_hideAll _ z) (PySem.W.funFrames_hide I.stack hin) mk fun h' t fl _ _ up => ?_
    obtain ⟨k1, k2, _, k4⟩ := fl
    have hta : H a = none := by
      cases e : H a with
      | none => rfl
      | some u =>
        obtain ⟨o, e1⟩ := (I.hok a u e).got
        rw [mk.new] at e1; cases e1
    exact cxe_of (t' := s.toks) (xs := []) I rfl rfl (fun b z => absurd z (by simp)) k1 ((Heap.UpToSlots.of_keeps mk.keeps).trans up) k4 ⟨s0n a mk.new, hta⟩ (hE _ M H hm (inv_ext I) q)
theorem passes_body : PassesOwn (model P w) (A.deeper (envOfC qual scope s₀.heap.objs.size f cd)) (envOfC qual scope s₀.heap.objs.size f cd) (cxOf (CXE P w) P w K mg base N qual scope f cd A outer s₀ H₀ E).xe := PassesOwn.leaving
end
noncomputable abbrev SpE := List D → DH → KD → (Value → DH → Prop) → Prop
noncomputable def lowSpE (K : PySem.W.Frag) (sp : SpE) : Sp := fun vs H Q E => ∃ ds M Q' E', Iss K H vs ds ∧ HAbs K M H ∧ sp ds M Q' E' ∧ lowQ K H Q' Q ∧ ∀ cls M1 H1, HAbs K M1 H1 → Ext K H H1 → E' cls M1 → E cls none H1
structure FnE (P : Program) (w : World) (K : PySem.W.Frag) (mg : Str → Option Value) (base : Heap) (k : Nat) (x : Str) (ps : List Str) (sp : SpE) : Prop where
  ex : ∃ f fd, FnOk P w K mg base (CXE P w) k f fd ps (lowSpE K sp) ∧ mg x = some (.ref f) ∧ PySem.W.keepIn K (.ref f) = true ∧ Binds K fd ps []
theorem FnE.mono {P : Program} {w : World} {K : PySem.W.Frag} {mg : Str → Option Value} {base : Heap} {j k : Nat} {x : Str} {ps : List Str} {sp : SpE} (F : FnE P w K mg base j x ps sp) (h : j ≤ k) : FnE P w K mg base k x ps sp :=
  let ⟨f, fd, a, b, c, d⟩ := F.ex; ⟨f, fd, a.mono h, b, c, d⟩
section
variable {P : Program} {w : World} {K : PySem.W.Frag} {mg : Str → Option Value} {base : Heap}
theorem fnE_none {x : Str} {ps : List Str} {sp : SpE} {st : Stmt} (T : Stands K mg x st ps) (no : ∀ ds M Q E, ¬ sp ds M Q E) : FnE P w K mg base 0 x ps sp := by
  obtain ⟨f, fd, F, hb, hm⟩ := T
  have no' : ∀ vs H Q E, ¬ lowSpE K sp vs H Q E := fun vs H Q E ⟨ds, M, Q', E', _, _, h, _⟩ => no ds M Q' E' h
  exact ⟨f, fd, ⟨fun vs H Q E h => absurd h (no' vs H Q E), fun A outer s H args us vs Q E _ _ _ _ h => absurd h (no' vs H Q E)⟩, hm, F.kp, hb⟩
theorem def_okE {x : Str} {st : Stmt} {N ps : List Str} {k : Nat} {sp : SpE} (T : Stands K mg x st ps) (S : FnScope N ps (defScope st)) (len : ∀ ds M Q E, sp ds M Q E → ds.length = ps.length)
    (hbody : ∀ (f : Addr) (cdv : Value) (A : Around) (outer : List Env) (s : Shared) (H : Hp) (E : XK) (EX : Value → DH → Prop), Room k (A.deeper (envOfC x (defScope st) s.heap.objs.size f cdv)) →
      XOk (cxOf (CXE P w) P w K mg base N x (defScope st) f cdv A outer s H E) (fun _ => EX) →
      PassesOwn (model P w) (A.deeper (envOfC x (defScope st) s.heap.objs.size f cdv)) (envOfC x (defScope st) s.heap.objs.size f cdv) (cxOf (CXE P w) P w K mg base N x (defScope st) f cdv A outer s H E).xe →
      ∃ t : TSd, PSs (cxOf (CXE P w) P w K mg base N x (defScope st) f cdv A outer s H E) (defBody st) (lowS K t) ∧ ∀ ds M Q, sp ds M Q EX → t (endsOf Q) (startD N ds) M) : FnE P w K mg base (k + 1) x ps sp := by
  obtain ⟨f, fd, F, hb, hm⟩ := T
  refine ⟨f, fd, ?_, hm, F.kp, hb⟩
  obtain ⟨oc, od, kV, doc, pm, an, cdv, ct, osl, rfl, lk, hcd⟩ := F.ex
  refine fn_of lk hcd S (fun vs H Q E h => ?_) fun A outer s H vs Q E hr h => ?_
  · obtain ⟨ds, M, Q', E', i, _, q, _⟩ := h
    rw [i.length]
    exact len _ _ _ _ q
  · obtain ⟨ds, M, Q', E', i, hm, q, hq, hE⟩ := h
    obtain ⟨t, h1, h2⟩ := hbody f cdv A outer s H E E' hr (xok_body hE) passes_body
    refine ⟨_, h1, startD N ds, M, endsOf Q', start_abs i, hm, h2 _ _ _ q, ⟨?_, ?_, ?_, ?_⟩⟩
    · rintro τ M1 σ H1 s1 m1 e1 ⟨M0, sub, q0⟩
      exact hq _ M0 _ H1 (m1.sub sub) e1 .non q0
    · rintro d M1 v H1 m1 e1 i1 ⟨M0, sub, q0⟩
      exact hq d M0 v H1 (m1.sub sub) e1 i1 q0
    · intro τ M1 σ H1 _ _ _ q0; exact q0.elim
    · intro τ M1 σ H1 _ _ _ q0; exact q0.elim
end
section
variable {X : Cx} {e : Expr} {es : List Expr} {pos : Pos} {t : TAd} {EX : DSt → Value → DH → Prop}
noncomputable def eCallE (sp : SpE) (EX : DSt → Value → DH → Prop) (t : TAd) : TEd := fun τ M Q => t τ M fun ds M1 => sp ds M1 Q fun cls M2 => ∃ M0, Sub M0 M2 ∧ EX τ cls M0
theorem d_callE {k : Nat} {x : Str} {ps : List Str} {sp : SpE} {p : Pos} (F : FnE X.prog X.w X.K X.mg X.base k x ps sp) (hx : XCame X EX) (hr : Room k X.A) (ha : PA X (e :: es) (lowA X.K t)) (hg : Gl X x := by rfl) (hdb : (x == ("__debug__" : Str)) = false := by decide)
    (he : starEach (e :: es) X.env = (false, eval e X.env) :: starEach es X.env := by rfl) (hpl : (backTo pos (starEach es X.env)).any (·.1) = false := by rfl) : PE X (.Call (.Name x p) (e :: es) [] pos) (low X.K (eCallE sp EX t)) := by
  obtain ⟨f, fd, F, hmg, hk, hb⟩ := F.ex
  rintro pins s σ H Q I ⟨τ, M, Q', hs, hm, h, hq⟩
  refine wpAny_Call_Name_kw (ld_glob I hg hmg ?_ hdb)
  have hA := ha pos pins s σ H (fun vs H1 => ∃ ds M1, HAbs X.K M1 H1 ∧ Ext X.K H H1 ∧ Iss X.K H1 vs ds ∧ sp ds M1 Q' fun cls M2 => ∃ M0, Sub M0 M2 ∧ EX τ cls M0) I ⟨τ, M, _, hs, hm, h, fun ds M1 vs H1 m1 e1 i1 h1 => ⟨ds, M1, m1, e1, i1, h1⟩⟩
  refine PySem.W.callWith_K (h₀ := X.base) I.ok.mod.kin hk (thn hA fun us s1 zz0 => ?_) he hpl
  obtain ⟨vs, H1, I1, r, ⟨ds, M1, m1, e1, i1, h1⟩⟩ := zz0
  refine ⟨I1.kIn, ?_⟩
  have h2 : lowSpE X.K sp vs H1 Q fun cls _ H2 => ∃ M2, HAbs X.K M2 H2 ∧ EX τ cls M2 := ⟨ds, M1, Q', _, i1, m1, h1, hq.ext e1, fun cls M2 H2 m2 _ ⟨M0, sub, q⟩ => ⟨M0, m2.sub sub, q⟩⟩
  have hl : us.length = ps.length := by rw [← r.length]; exact F.len _ _ _ _ h2
  have hbn := hb s1 us I1.kIn (by rw [List.append_nil]; exact hl)
  rw [List.append_nil] at hbn
  refine wpAny_call (codeAny_mono (F.run X.A X.stack s1 H1 ⟨us, []⟩ us vs Q _ hr I1.env0 hbn r h2) fun rr s' hq' => ?_)
  cases rr with
  | error e => exact hx.came pins τ σ H1 s1 (fun cls _ H2 => ∃ M2, HAbs X.K M2 H2 ∧ EX τ cls M2) e s' I1 (hs.mono e1) hq' fun cls H2 z => z
  | ok fl =>
    cases fl with
    | ret u => exact I1.after hq'
    | next => exact False.elim hq'
    | brk => exact False.elim hq'
    | cont => exact False.elim hq'
structure XC (K : PySem.W.Frag) (mg : Str → Option Value) (x : Str) (C : Addr) : Prop where
  nm : mg x = some (.ref C)
  ow : PySem.W.excIn K C [.type "ValueError", .type "Exception", .type "BaseException", .type "object"] "ValueError.__new__" = true
theorem exc_obj {K : PySem.W.Frag} {h : Heap} {C : Addr} {bmB : List Value} {newId : String} (X : K.In h) (q : PySem.W.excIn K C bmB newId = true) :
    ∃ (bm : List Value) (N : Addr) (nm qn : Str) (bs : List Value) (hd : Bool) (sn : List Str) (sub : List Value) (ab : Bool) (col : Option Bool) (dd : Option Addr) (k0 k1 k2 k3 k5 : Option Value) (mN : Str → Option Value),
      h.get? C = some (excClassObj nm qn C N bs bm hd sn sub ab col dd k0 k1 k2 k3 k5 newId) ∧ h.Ns N mN ∧ mN "__init__" = none ∧ OwnTail h bmB bm := by
  unfold PySem.W.excIn at q
  split at q
  · rename_i dd cd sl ho
    split at q
    · rename_i C' bm k0 k1 k2 k3 n k5 hm hs
      simp only [Bool.and_eq_true, beq_iff_eq, Bool.not_eq_true'] at q
      obtain ⟨⟨⟨⟨⟨rfl, rfl⟩, hdel⟩, ht⟩, hok⟩, hni⟩ := q
      obtain ⟨nm, bs, mro, ns, qn, hd, sn, sub, ab, col, del⟩ := cd
      dsimp only at hm hdel hok hni
      subst hm hdel
      have hsl : sl = #[k0, k1, k2, k3, some (.builtin n), k5] := by
        obtain ⟨l⟩ := sl
        simp only at hs
        rw [hs]
      subst hsl
      exact ⟨bm, ns, nm, qn, bs, hd, sn, sub, ab, col, dd, k0, k1, k2, k3, k5, _, X _ _ ho, .of_isNs (PySem.W.isNs_of_in X hok), PySem.W.nsMap_none_of_in X hok hni, PySem.W.tail_of_in X ht⟩
    · cases q
  · cases q
noncomputable def sRaise (C : Addr) (EX : DSt → Value → DH → Prop) (t : TAd) : TSd := fun _ τ M => t τ M fun ds M1 => ds.length ≤ 1000 ∧ EX τ (.ref C) M1
theorem s_raise {x : Str} {C : Addr} {np cpos : Pos} (hx : XOk X EX) (hc : X.calm = true) (xc : XC X.K X.mg x C) (ha : PA X (e :: es) (lowA X.K t)) (hg : Gl X x := by rfl) (hd : (x == ("__debug__" : Str)) = false := by decide)
    (he : starEach (e :: es) X.env = (false, eval e X.env) :: starEach es X.env := by rfl) (hpl : (backTo cpos (starEach (e :: es) X.env)).any (·.1) = false := by rfl) :
    PS X (.Raise (some (.Call (.Name x np) (e :: es) [] cpos)) none pos) (lowS X.K (sRaise C EX t)) := by
  rintro pins s σ H D I ⟨τ, M, D', hs, hm, h, hd'⟩
  obtain ⟨bm, N, nm, qn, bs, hdct, sn, sub, ab, col, dd, k0, k1, k2, k3, k5, mN, hC, hN, hni, TL⟩ := exc_obj I.mod.kin xc.ow
  refine wpAny_Raise_call_subT (C := C) (nm := nm) (q := qn) (N := N) (bs := bs) (bm := bm) (hdct := hdct) (sn := sn) (sub := sub) (ab := ab) (col := col) (dd := dd) (k0 := k0) (k1 := k1) (k2 := k2) (k3 := k3) (k5 := k5) PySem.F.excBase_ValueError (TL.hasType rfl) (I.ok.hd hc) hpl hni (ld_glob I hg xc.nm ⟨rfl, ?_⟩ hd)
  have hsp := ha cpos pins s σ H _ I ⟨τ, M, _, hs, hm, h, fun ds M1 vs H1 m1 e1 i1 h1 => (show ∃ M1 : DH, HAbs X.K M1 H1 ∧ Ext X.K H H1 ∧ vs.length ≤ 1000 ∧ EX τ (.ref C) M1 from ⟨M1, m1, e1, by rw [i1.length]; exact h1.1, h1.2⟩)⟩
  have e0 : backTo cpos (starEach (e :: es) X.env) = (false, eval e X.env) :: backTo cpos (starEach es X.env) := by rw [he]; rfl
  rw [e0] at hsp ⊢
  refine Calls.evalArgs_plain (thn hsp fun us s2 zz0 => ?_)
  obtain ⟨vs, H2, I2, r2, M2, m2, e2, hl, q2⟩ := zz0
  refine ⟨rfl, by rw [← r2.length]; exact line1000 hl, I2.bk _ _ hC, hN.keeps I2.bk, TL.keeps I2.bk, fun h' a mk => ?_⟩
  exact hx.made pins τ σ H2 s2 C a h' us M2 I2 (hs.mono e2) mk m2 q2
end
end DL
namespace DL
open PySem PySem.Spec PyProof.Rows L2
theorem un_ext {K : PySem.W.Frag} {fs ex : List Addr} {H H' : Hp} {h h' : Heap} (u : Un fs ex H H' h h') : Ext K H H' := ⟨fun a xs h => by
  rcases h with (h | ⟨o, h⟩) | h
  · exact .inl (.inl (u.tups a xs h))
  · exact .inl (.inr ⟨o, u.frzs a o _ h⟩)
  · exact .inr h, fun a o v h => u.frzs a o v h⟩
structure Fly (X : Cx) (pins : List (Addr × Obj)) (σ : St) (H : Hp) (s : Shared) (a T : Addr) (cls : Value) : Prop where
  inv : Inv X pins σ H s
  new : ∀ b ∈ [a, T], X.s₀.heap.get? b = none ∧ H b = none ∧ b ≠ X.env.locals ∧ (∀ x c, X.env.cells.lookup x = some c → c ≠ b) ∧ ∀ p ∈ X.pn ++ pins, p.1 ≠ b
  tr : Tr s.heap a T cls
section
variable {X : Cx} {pins : List (Addr × Obj)} {σ : St} {H : Hp} {s : Shared}
theorem Inv.nowhere (I : Inv X pins σ H s) (hex : X.ex = []) {b : Addr} (e : s.heap.get? b = none) : X.s₀.heap.get? b = none ∧ b ≠ X.env.locals ∧ (∀ x c, X.env.cells.lookup x = some c → c ≠ b) ∧ ∀ p ∈ X.pn ++ pins, p.1 ≠ b := by
  refine ⟨?_, ?_, ?_, ?_⟩
  · cases q : X.s₀.heap.get? b with
    | none => rfl
    | some o =>
      obtain ⟨o', e1⟩ := I.base.there b o q (by rw [hex]; simp)
      rw [e] at e1; cases e1
  · intro z
    obtain ⟨m, ⟨o, es, ep, ho, _⟩, _⟩ := I.loc
    rw [← z, e] at ho; cases ho
  · intro x c hc z
    obtain ⟨v, o, ho, _⟩ := I.cell x c hc
    rw [z, e] at ho; cases ho
  · intro p hp z
    have ho := (I.pin p hp).1
    rw [z, e] at ho; cases ho
theorem fly_of {E1 : XK} {e : Value} {s' : Shared} (I : Inv X pins σ H s) (hex : X.ex = []) (c : CXE X.prog X.w X.stack H s E1 e s') : ∃ a T cls H', e = .ref a ∧ Fly X pins σ H' s' a T cls ∧ Ext X.K H H' ∧ E1 cls none H' := by
  obtain ⟨a, T, cls, H', he, ho, hb, un, hok, na, nT, ta, tT, tr, hE1⟩ := c
  refine ⟨a, T, cls, H', he, ⟨I.call' ho un hok hb (fun b z => absurd z (by simp)), fun b z => ?_, tr⟩, un_ext un, hE1⟩
  simp only [List.mem_cons, List.not_mem_nil, or_false] at z
  rcases z with rfl | rfl
  · have := Inv.nowhere I hex na; exact ⟨this.1, ta, this.2⟩
  · have := Inv.nowhere I hex nT; exact ⟨this.1, tT, this.2⟩
theorem Inv.flown {h' : Heap} {t' : Nat} {xs : List Addr} (I : Inv X pins σ H s) (hex : X.ex = []) (hst : X.stack = X.env :: X.outer) (new : ∀ b ∈ xs, X.s₀.heap.get? b = none ∧ H b = none ∧ b ≠ X.env.locals ∧ (∀ x c, X.env.cells.lookup x = some c → c ≠ b) ∧ ∀ p ∈ X.pn ++ pins, p.1 ≠ b)
    (stay : (PySem.W.hideAll s.heap (xs ++ frs X.stack)).StaysIn h') (up : s.heap.UpToSlots h') : Inv X pins σ H { s with heap := h', toks := t' } := by
  have hexb : ∀ b : Addr, b ∉ X.ex := fun b z => by rw [hex] at z; cases z
  have hL : X.s₀.heap.get? X.env.locals = none := Heap.get?_none_of_le I.ok.above
  have kept : ∀ b o, s.heap.get? b = some o → b ∉ xs → b ∉ frs X.stack → h'.get? b = some o := fun b o e n1 n2 => stay b o (PySem.W.hideAll_get _ e fun z => (List.mem_append.mp z).elim n1 n2)
  have nx : ∀ b o, X.s₀.heap.get? b = some o → b ∉ xs := fun b o e z => by rw [(new b z).1] at e; cases e
  have ns : ∀ b o, X.s₀.heap.get? b = some o → b ∉ X.fs → b ∉ frs X.stack := fun b o e n z => by
    rcases List.mem_cons.mp (I.stkSub b z) with z | z
    · subst z; rw [hL] at e; cases e
    · exact n z
  have frm : ∀ b ∈ frs X.stack, ∃ o, h'.get? b = some o := fun b z => by
    obtain ⟨_, o, e, d⟩ := I.stack.mem z
    obtain ⟨sl, e'⟩ := up b o e d
    exact ⟨_, e'⟩
  have trk : ∀ b u, H b = some u → b ∉ xs ∧ b ∉ frs X.stack := fun b u e => ⟨fun z => (by rw [(new b z).2.1] at e; cases e), fun z => (by rw [I.stkFree b z] at e; cases e)⟩
  have cel : ∀ x c v, X.env.cells.lookup x = some c → s.heap.IsCell c v → h'.IsCell c v := fun x c v hc ⟨o, ho, hd⟩ => by
    obtain ⟨sl, e⟩ := up c o ho (fun ws q => by rw [hd] at q; cases q)
    exact ⟨_, e, hd⟩
  refine ⟨I.ok, I.os, I.bare, ⟨fun b o e n hb hx => ?_, fun b o e n hb hx => ?_, I.base.free, fun b o e hx => ?_, I.base.tups, I.base.frzs, I.base.tbls⟩, ?_, fun x c hc => ?_, I.free, I.freeC, fun p hp => ?_, fun b u e => ?_, I.len⟩
  · exact kept b o (I.base.keep b o e n hb hx) (nx b o e) (ns b o e hb)
  · obtain ⟨sl, e1⟩ := I.base.slot b o e n hb hx
    obtain ⟨_, o', e2, d⟩ := I.funs.mem hb
    rw [e1] at e2; cases e2
    obtain ⟨sl', e3⟩ := up b _ e1 d
    exact ⟨sl', e3⟩
  · obtain ⟨o', e1⟩ := I.base.there b o e hx
    by_cases hb : b ∈ frs X.stack
    · exact frm b hb
    · exact ⟨o', kept b o' e1 (nx b o e) hb⟩
  · obtain ⟨m, hn, hl⟩ := I.loc
    refine ⟨m, up.ns hn, fun i x v e1 e2 e3 => ?_⟩
    obtain ⟨u, r, l⟩ := hl i x v e1 e2 e3
    refine ⟨u, r, ?_⟩
    rcases l with l | ⟨k, c, hc, z⟩
    · exact .inl l
    · exact .inr ⟨k, c, hc, cel x c _ hc z⟩
  · obtain ⟨v, z⟩ := I.cell x c hc
    exact ⟨v, cel x c v hc z⟩
  · obtain ⟨e, n, ne, nf, d⟩ := I.pin p hp
    refine ⟨kept p.1 p.2 e (fun z => (new p.1 z).2.2.2.2 p hp rfl) (fun z => ?_), n, ne, nf, d⟩
    rcases List.mem_cons.mp (I.stkSub p.1 z) with z | z
    · exact ne z
    · exact nf z
  · refine (I.hok b u e).stay (fun c v hc q => ?_) (fun _ q => q) fun _ _ q => q
    rcases hc with rfl | hc
    · exact kept _ v q (trk _ u e).1 (trk _ u e).2
    · exact kept c v q (trk c _ hc).1 (trk c _ hc).2
theorem Fly.next {h' : Heap} {t' : Nat} {a T : Addr} {cls a0 : Value} (F : Fly X pins σ H s a T cls) (hex : X.ex = []) (hst : X.stack = X.env :: X.outer)
    (stay : (PySem.W.hideAll s.heap ([a, T] ++ frs X.stack)).StaysIn h') (up : s.heap.UpToSlots h') (tr : h'.TracedW (PySem.W.hideAll s.heap ([a, T] ++ frs X.stack)) a cls a0) : ∃ T', Fly X pins σ H { s with heap := h', toks := t' } a T' cls := by
  obtain ⟨oe, vs, T', oT, ts, h1, h2, h3, h4, h5, h6, h7, h8, h9⟩ := tr
  have I' := Inv.flown (t' := t') F.inv hex hst F.new stay up
  refine ⟨T', I', fun b z => ?_, oe, vs, a0, oT, ts, h1, h2, h3, h4, h6, h7, h8, h9⟩
  simp only [List.mem_cons, List.not_mem_nil, or_false] at z
  rcases z with rfl | rfl
  · exact F.new _ (by simp)
  · cases e : s.heap.get? b with
    | none =>
      have q := Inv.nowhere F.inv hex e
      refine ⟨q.1, ?_, q.2⟩
      cases e2 : H b with
      | none => rfl
      | some u =>
        obtain ⟨o, e1⟩ := (F.inv.hok b u e2).got
        rw [e] at e1; cases e1
    | some o =>
      by_cases hb : b ∈ [a, T]
      · exact F.new b hb
      · by_cases hf : b ∈ frs X.stack
        · obtain ⟨_, o', e', d⟩ := F.inv.stack.mem hf
          obtain ⟨sl, e2⟩ := up b o' e' d
          rw [h7] at e2; cases e2
          exact absurd h8 (d ts)
        · have z := PySem.W.hideAll_get ([a, T] ++ frs X.stack) e fun z => (List.mem_append.mp z).elim hb hf
          rw [h5] at z; cases z
end
noncomputable abbrev _root_.L2.Cx.mark (X : Cx) (a : Addr) : Cx := { X with A := X.A.mark (some (.ref a)), calm := false, xe := fun _ _ => False }
section
variable {X : Cx} {pins : List (Addr × Obj)} {σ : St} {H : Hp} {s : Shared}
theorem Cx.Ok.mark {a : Addr} (ok : X.Ok) : (X.mark a).Ok :=
  ⟨ok.mod, ok.kind, ok.glob, ok.blt, ok.above, ok.inj, ok.has, ok.cab, (fun z => (nomatch z)), ok.frames, ok.stk, ok.exf, ok.bs, ok.bsz, ok.noex, ok.exfs, ok.funs, ok.frf⟩
theorem Cx.Ok.unmark {a : Addr} (hd : X.calm = true → X.A.handled = none) (ok : (X.mark a).Ok) : X.Ok :=
  ⟨ok.mod, ok.kind, ok.glob, ok.blt, ok.above, ok.inj, ok.has, ok.cab, hd, ok.frames, ok.stk, ok.exf, ok.bs, ok.bsz, ok.noex, ok.exfs, ok.funs, ok.frf⟩
theorem Inv.mark (a : Addr) (I : Inv X pins σ H s) : Inv (X.mark a) pins σ H s := ⟨Cx.Ok.mark I.ok, I.os, I.bare, I.base, I.loc, I.cell, I.free, I.freeC, I.pin, I.hok, I.len⟩
theorem Inv.unmark {a : Addr} (hd : X.calm = true → X.A.handled = none) (I : Inv (X.mark a) pins σ H s) : Inv X pins σ H s := ⟨Cx.Ok.unmark hd I.ok, I.os, I.bare, I.base, I.loc, I.cell, I.free, I.freeC, I.pin, I.hok, I.len⟩
end
section
variable {X : Cx} {pins : List (Addr × Obj)} {σ : St} {H : Hp} {s : Shared} {a T : Addr} {cls : Value}
theorem Fly.frames (F : Fly X pins σ H s a T cls) (hst : X.stack = X.env :: X.outer) : s.heap.FunFrames (PySem.W.hideAll s.heap ([a, T] ++ frs X.stack)) (X.env :: X.outer) := by
  have h := PySem.W.funFrames_hide (as := [a, T] ++ frs X.stack) F.inv.stack fun env he b hb => List.mem_append_right _ (List.mem_filterMap.mpr ⟨env, he, hb⟩)
  rw [hst] at h ⊢
  exact h
theorem Fly.traced (F : Fly X pins σ H s a T cls) : ∃ a0, s.heap.TracedW (PySem.W.hideAll s.heap ([a, T] ++ frs X.stack)) a cls a0 := by
  obtain ⟨oe, vs, a0, oT, ts, t1, t2, t3, t4, t5, t6, t7, t8⟩ := F.tr
  exact ⟨a0, oe, vs, T, oT, ts, t1, t2, t3, t4, PySem.W.hideAll_none _ (by simp), t5, t6, t7, t8⟩
theorem Fly.look {Q : Flow → Shared → Prop} {E : Value → Shared → Prop} {hs : List ExceptHandler} (F : Fly X pins σ H s a T cls) (hex : X.ex = []) (hst : X.stack = X.env :: X.outer) (hf : X.env.frame = some X.env.locals)
    (k : ∀ h' T', Fly X pins σ H { s with heap := h' } a T' cls → wpAny (model X.prog X.w) X.A (handleBy (.ref a) X.env hs) Q E { s with heap := h' }) :
    wpAny (model X.prog X.w) X.A (noteFrame (.ref a) X.env) (fun _ s₂ => wpAny (model X.prog X.w) X.A (setFlight (.ref a) none) (fun _ s₃ => wpAny (model X.prog X.w) X.A (handleBy (.ref a) X.env hs) Q E s₃) E s₂) E s := by
  obtain ⟨a0, tr⟩ := F.traced
  refine wpAny_noteFrame_onW (outer := X.outer) (by rw [← hst]; exact F.inv.ok.frames) (F.frames hst) hf tr (fun b o z => PySem.W.of_hideAll _ z) (PySem.W.hideAll_none _ (by simp)) fun h1 hN => ?_
  obtain ⟨k1, k2, k3, k4⟩ := hN
  refine wpAny_setFlight_noneW (s := { s with heap := h1 }) k1 k2 k3 fun h2 j1 j2 j3 j4 => ?_
  obtain ⟨T', F'⟩ := F.next (t' := s.toks) hex hst j1 (fun b o e d => let ⟨sl, e1⟩ := k4 b o e d; ⟨sl, j4 b _ e1 d⟩) j3
  exact k h2 T' F'
theorem Fly.again {A : Around} {Q : Unit → Shared → Prop} {E : Value → Shared → Prop} (F : Fly X pins σ H s a T cls) (hex : X.ex = []) (hst : X.stack = X.env :: X.outer) (k : ∀ h' T', Fly X pins σ H { s with heap := h' } a T' cls → Q () { s with heap := h' }) :
    wpAny (model X.prog X.w) A (setFlight (.ref a) none) Q E s := by
  obtain ⟨a0, tr⟩ := F.traced
  refine wpAny_setFlight_noneW (fun b o z => PySem.W.of_hideAll _ z) (F.frames hst) tr.at fun h2 j1 j2 j3 j4 => ?_
  obtain ⟨T', F'⟩ := F.next (t' := s.toks) hex hst j1 (fun b o e d => ⟨o.slots, j4 b _ e d⟩) j3
  exact k h2 T' F'
noncomputable def isaIn (K : PySem.W.Frag) (C : Addr) (v : Value) : Option Bool := match K.lookup C with
  | some ⟨_, _, .cls cd, _⟩ => some (cd.mro.contains v)
  | _ => none
abbrev bmVE : List Value := [.type "ValueError", .type "Exception", .type "BaseException", .type "object"]
structure IsA (K : PySem.W.Frag) (C F : Addr) (b : Bool) : Prop where
  c : PySem.W.excIn K C bmVE "ValueError.__new__" = true
  f : PySem.W.excIn K F bmVE "ValueError.__new__" = true
  m : isaIn K C (.ref F) = some b
theorem wpAny_excMatches_own {M : Model} {A : Around} {E : Value → Shared → Prop} {h : Heap} {g : Array GenState} {d : Drawn} {t : Nat} {os : OsState} {e C F N N' : Addr} {oe : Obj} {Q : Bool → Shared → Prop} {nm q nm' q' : Str} {bs bm bs' bm' : List Value} {hdct hdct' : Bool} {sn sn' : List Str} {sub sub' : List Value} {ab ab' : Bool} {col col' : Option Bool} {dd dd' : Option Addr} {k0 k1 k2 k3 k5 l0 l1 l2 l3 l5 : Option Value} {newId newId' : String} {b : Bool}
    (hC : h.get? C = some (excClassObj nm q C N bs bm hdct sn sub ab col dd k0 k1 k2 k3 k5 newId)) (hF : h.get? F = some (excClassObj nm' q' F N' bs' bm' hdct' sn' sub' ab' col' dd' l0 l1 l2 l3 l5 newId')) (he : h.get? e = some oe) (hcls : oe.cls = .ref C) (hbase : bm'.contains (.type "BaseException") = true)
    (hb : (Value.ref C :: bm).contains (.ref F) = b) (hq : Q b ⟨h, g, d, t, os⟩) : wpAny M A (excMatches (.ref e) (.ref F)) Q E ⟨h, g, d, t, os⟩ := by
  have hcB : (Value.ref F :: bm').contains (.type "BaseException") = true := by rw [List.contains_cons, hbase, Bool.or_true]
  have f := tc_notTuple
  unfold excMatches
  repeat (first | (with_reducible refine wpAny_loadPart_at he ?_; rw [hcls]) | with_reducible refine wpAny_loadPart_at hF ?_ | with_reducible refine wpAny_loadPart_at hC ?_ | (with_reducible refine wpAny_isSubtype_exc hF ?_; rw [hcB]) | (with_reducible refine wpAny_isSubtype_exc hC ?_; rw [hb]) | wp_step)
  cases b <;> (wp_walk; exact hq)
end
end DL
namespace DL
open PySem PySem.Spec PyProof.Rows L2
section
variable {X : Cx} {pins : List (Addr × Obj)} {σ : St} {H : Hp} {s : Shared}
theorem isa_mro {K : PySem.W.Frag} {h : Heap} {C N : Addr} {v : Value} {b : Bool} {nm q : Str} {bs bm : List Value} {hdct : Bool} {sn : List Str} {sub : List Value} {ab : Bool} {col : Option Bool} {dd : Option Addr} {k0 k1 k2 k3 k5 : Option Value} {newId : String} (X : K.In h) (m : isaIn K C v = some b)
    (hC : h.get? C = some (excClassObj nm q C N bs bm hdct sn sub ab col dd k0 k1 k2 k3 k5 newId)) : (Value.ref C :: bm).contains v = b := by
  cases ho : K.lookup C with
  | none => unfold isaIn at m; rw [ho] at m; cases m
  | some o =>
    have e := X _ _ ho
    rw [hC] at e
    cases e
    unfold isaIn at m
    rw [ho] at m
    exact Option.some.inj m
theorem Inv.goes {M : Model} {A : Around} {E : Value → Shared → Prop} {Q : Unit → Shared → Prop} {i : Nat} {n : Str} {pos : Pos} (I : Inv X pins σ H s) (hl : X.env.kindOf n = some .local) (hN : X.N.Nodup) (hi : X.N[i]? = some n)
    (k : ∀ s', Inv X pins (σ.set i none) H s' → Q () s') : wpAny M A (do bindName X.env n .none; unbindBehindTheSuite X.env n pos) Q E s := by
  obtain ⟨m, hn, hlk⟩ := id I.loc
  have hcls : (X.env.scope.kind == .class || (X.env.scope.kind == .module && X.env.locals != X.env.globals)) = false := by rw [I.ok.kind]; rfl
  have hiσ : i < σ.length := by rw [I.len]; exact (List.getElem?_eq_some_iff.mp hi).1
  have cne := I.cne
  refine wpAny_nameGoes_keeps hl hn hcls fun h' v hn' hs => ?_
  have ne0 : ∀ b o, X.s₀.heap.get? b = some o → b ≠ X.env.locals := fun b o e => Nat.ne_of_lt (Nat.lt_of_lt_of_le (Heap.lt_size e) I.ok.above)
  refine k _ ⟨I.ok, I.os, I.bare, ⟨fun b o e n hb hx => ?_, fun b o e n hb hx => ?_, I.base.free, fun b o e hx => ?_, I.base.tups, I.base.frzs, I.base.tbls⟩, ⟨_, hn', fun j y v' e1 e2 e3 => ?_⟩, fun y c e => ?_, I.free, I.freeC, fun p hp => ?_, fun b u e => ?_, by simpa using I.len⟩
  · exact (hs.2 b (ne0 b o e)).trans (I.base.keep b o e n hb hx)
  · obtain ⟨sl, e1⟩ := I.base.slot b o e n hb hx
    exact ⟨sl, (hs.2 b (ne0 b o e)).trans e1⟩
  · obtain ⟨o', e1⟩ := I.base.there b o e hx
    exact ⟨o', (hs.2 b (ne0 b o e)).trans e1⟩
  · by_cases hj : j = i
    · subst hj
      rw [List.getElem?_set_self hiσ] at e2
      cases e2
    · rw [List.getElem?_set_ne (Ne.symm hj)] at e2
      obtain ⟨u', r', q⟩ := hlk j y v' e1 e2 e3
      refine ⟨u', r', ?_⟩
      rcases q with ⟨k, e⟩ | ⟨k, c, e, z⟩
      · refine .inl ⟨k, ?_⟩
        have : y ≠ n := fun e => hj (nodup_ix hN e1 (e ▸ hi))
        simp [this, e]
      · exact .inr ⟨k, c, e, z.sameBut hs (cne y c e)⟩
  · obtain ⟨w', z⟩ := I.cell y c e
    exact ⟨w', z.sameBut hs (cne y c e)⟩
  · obtain ⟨e, n, ne, nf, d⟩ := I.pin p hp
    exact ⟨(hs.2 p.1 ne).trans e, n, ne, nf, d⟩
  · refine (I.hok b u e).stay (fun c w' hc q => (hs.2 c ?_).trans q) (fun _ q => q) fun _ _ q => q
    rintro rfl
    rcases hc with rfl | hc
    · rw [I.free] at e; cases e
    · rw [I.free] at hc; cases hc
theorem Inv.track {a : Addr} {φ : Heap → Prop} (I : Inv X pins σ H s) (new : X.s₀.heap.get? a = none ∧ H a = none ∧ a ≠ X.env.locals ∧ (∀ x c, X.env.cells.lookup x = some c → c ≠ a) ∧ ∀ p ∈ X.pn ++ pins, p.1 ≠ a) (hφ : φ s.heap) (hob : ∃ o, s.heap.get? a = some o) (hst : ∀ h1 h2 : Heap, φ h1 → (∀ o, h1.get? a = some o → h2.get? a = some o) → φ h2) :
    Inv X pins σ (upd H a (.ext φ)) s := by
  obtain ⟨n0, na, nl, nc, np⟩ := new
  have other : ∀ b u, H b = some u → upd H a (.ext φ) b = some u := fun b u e => by rw [upd_ne (ne_of_none e na)]; exact e
  refine ⟨I.ok, I.os, I.bare, ⟨I.base.keep, I.base.slot, fun b o e n hx => ?_, I.base.there, fun b xs e => other b _ (I.base.tups b xs e), fun b o u e => other b _ (I.base.frzs b o u e), fun b ps e => ?_⟩, I.loc, I.cell, ?_, fun x c e => ?_, fun p hp => ?_, fun b u e => ?_, I.len⟩
  · rw [upd_ne (by intro z; subst z; rw [n0] at e; cases e)]; exact I.base.free b o e n hx
  · obtain ⟨more, e1⟩ := I.base.tbls b ps e
    exact ⟨more, other b _ e1⟩
  · rw [upd_ne (Ne.symm nl)]; exact I.free
  · rw [upd_ne (nc x c e)]; exact I.freeC x c e
  · obtain ⟨e, n, r⟩ := I.pin p hp
    exact ⟨e, by rw [upd_ne (np p hp)]; exact n, r⟩
  · by_cases hb : b = a
    · subst hb; rw [upd_same] at e; cases e; exact ⟨hφ, hob, hst⟩
    · rw [upd_ne hb] at e
      exact (I.hok b u e).stay (fun _ _ _ q => q) (fun c q => other c _ q) fun c xs q => other c _ q
theorem SAbs.drop {K : PySem.W.Frag} {τ : DSt} {i : Nat} (h : SAbs K τ σ H) : SAbs K (τ.set i none) (σ.set i none) H := by
  refine ⟨by rw [List.length_set, List.length_set]; exact h.1, fun j e q => ?_⟩
  rw [List.getElem?_set] at q
  by_cases hj : i = j
  · subst hj
    rw [if_pos rfl] at q
    split at q <;> cases q
  · rw [if_neg hj] at q
    obtain ⟨u, h1, h2⟩ := h.2 j e q
    exact ⟨u, by rw [List.getElem?_set, if_neg hj]; exact h1, h2⟩
end
noncomputable def PH (X : Cx) (hs : List ExceptHandler) (th : Value → TSd) : Prop := ∀ (pins : List (Addr × Obj)) (s : Shared) (σ : St) (H : Hp) (D : Ends) (a T : Addr) (cls : Value), Fly X pins σ H s a T cls → lowS X.K (th cls) D σ H → wpAny (model X.prog X.w) X.A (handleBy (.ref a) X.env hs) (SP X pins D) X.xe s
noncomputable def hNone : Value → TSd := fun _ _ _ _ => False
noncomputable def endsAs (i : Nat) (D : EndsD) : EndsD := { nx := fun τ M => D.nx (τ.set i none) M, rt := D.rt, bk := fun τ M => D.bk (τ.set i none) M, ct := fun τ M => D.ct (τ.set i none) M }
noncomputable def hCatchAs (K : PySem.W.Frag) (F : Addr) (i : Nat) (ts : TSd) (tr : Value → TSd) : Value → TSd := fun cls D τ M => ∃ C b, cls = .ref C ∧ IsA K C F b ∧ if b = true then ∀ p, M p = none → ts (endsAs i D) (τ.set i (some (.ref p))) (updM M p (.exc cls)) else tr cls D τ M
section
variable {X : Cx} {y : Str} {F : Addr} {np hpos : Pos} {b₀ : Stmt} {body : List Stmt} {ts : TSd} {rest : List ExceptHandler} {tr : Value → TSd}
theorem h_none : PH X [] hNone := fun _ _ _ _ _ _ _ _ _ ⟨_, _, _, _, _, h, _⟩ => h.elim
theorem h_catchAs {i : Nat} {n : Str} (hex : X.ex = []) (hst : X.stack = X.env :: X.outer) (hc : X.calm = true) (hN : X.N.Nodup) (nm : X.mg y = some (.ref F)) (hsuite : ∀ a, PSs (X.mark a) (b₀ :: body) (lowS X.K ts)) (hrest : PH X rest tr) (hi : X.N[i]? = some n := by rfl) (hl : X.env.scope.names.lookup n = some .local := by rfl) (hl' : X.env.kindOf n = some .local := by rfl) (hg : Gl X y := by rfl) (hdb : (y == ("__debug__" : Str)) = false := by decide) :
    PH X (.ExceptHandler (some (.Name y np)) (some n) (b₀ :: body) hpos :: rest) (hCatchAs X.K F i ts tr) := by
  rintro pins s σ H D a T cls FL ⟨τ, M, D', hs, hm, ⟨C, b, hcl, isa, q⟩, hd'⟩
  subst hcl
  have I := FL.inv
  obtain ⟨bm, N, nmC, qn, bs, hdct, sn, sub, ab, col, dd, k0, k1, k2, k3, k5, mN, hC, _, _, _⟩ := exc_obj I.mod.kin isa.c
  obtain ⟨bm', N', nm', qn', bs', hdct', sn', sub', ab', col', dd', l0, l1, l2, l3, l5, mN', hF, _, _, TL'⟩ := exc_obj I.mod.kin isa.f
  obtain ⟨oe, vs, a0, oT, ts', t1, ⟨hcls, _⟩, _⟩ := id FL.tr
  have hmro := isa_mro I.mod.kin isa.m hC
  refine wpAny_handleBy_cons (codeAny_handlers_test (ld_glob (X := X.mark a) (Inv.mark a I) hg nm ?_ hdb)) (by intro q; cases q)
  refine wpAny_excMatches_own (g := s.gens) (d := s.drawn) (t := s.toks) (os := s.os) (I.bk _ _ hC) (I.bk _ _ hF) t1 hcls (TL'.hasType rfl) hmro ?_
  cases b with
  | false => exact hrest pins _ σ H D a T (.ref C) FL ⟨τ, M, D', hs, hm, q, hd'⟩
  | true =>
    refine codeAny_handlers_suite_as (FL.again hex hst fun h' T' FL' => ?_)
    have hne := FL'.new a (by simp)
    refine store_ok2 (X := X.mark a) (v := .ref a) (Inv.mark a FL'.inv) hN hi (.inl hl) rfl (fun s2 I2 zz0 => ?_) (.inr hl)
    obtain ⟨b, hsb, hb⟩ := zz0
    have hab : a ≠ b := by
      rcases hb with rfl | hb
      · exact hne.2.2.1
      · exact fun z => hne.2.2.2.1 _ _ hb z.symm
    obtain ⟨oe2, _, _, _, _, u1, ⟨u2, _⟩, _⟩ := id FL'.tr
    have hob2 : s2.heap.get? a = some oe2 := (hsb.2 a hab).trans u1
    have I3 := Inv.track (φ := fun h => ∃ ob, h.get? a = some ob ∧ ob.cls = .ref C) I2 hne ⟨oe2, hob2, u2⟩ ⟨oe2, hob2⟩ fun h1 h2 ⟨ob, e1, e2⟩ k => ⟨ob, k ob e1, e2⟩
    have q' : ∀ p, M p = none → ts (endsAs i D') (τ.set i (some (.ref p))) (updM M p (.exc (.ref C))) := q
    have ex : Ext X.K H (upd H a (.ext fun h => ∃ ob, h.get? a = some ob ∧ ob.cls = .ref C)) := ext_new hne.2.1
    have hM3 : HAbs X.K (updM M a (.exc (.ref C))) (upd H a (.ext fun h => ∃ ob, h.get? a = some ob ∧ ob.cls = .ref C)) := hm.newM hne.2.1 (show MOk X.K _ a (.exc (.ref C)) from ⟨_, upd_same, fun h z => z⟩)
    have hs3 : SAbs X.K (τ.set i (some (.ref a))) (σ.set i (some (.ref a))) (upd H a (.ext fun h => ∃ ob, h.get? a = some ob ∧ ob.cls = .ref C)) := (hs.mono ex).set (.ref a)
    have hrun := hsuite a pins s2 _ _ { nx := fun σ' H' => D.nx (σ'.set i none) H', rt := D.rt, bk := fun σ' H' => D.bk (σ'.set i none) H', ct := fun σ' H' => D.ct (σ'.set i none) H' } I3 ⟨_, _, endsAs i D', hs3, hM3, q' a (hm.free hne.2.1), ⟨fun τ1 M1 σ1 H1 a1 a2 a3 a4 => hd'.nx _ M1 _ H1 (SAbs.drop a1) a2 (ex.trans a3) a4, hd'.rt.ext ex, fun τ1 M1 σ1 H1 a1 a2 a3 a4 => hd'.bk _ M1 _ H1 (SAbs.drop a1) a2 (ex.trans a3) a4, fun τ1 M1 σ1 H1 a1 a2 a3 a4 => hd'.ct _ M1 _ H1 (SAbs.drop a1) a2 (ex.trans a3) a4⟩⟩
    refine wpAny_mono hrun (fun f s3 z => ?_) fun _ _ z => False.elim z
    cases f with
    | next => obtain ⟨σ', H', J, z⟩ := z; exact Inv.goes (Inv.unmark I.ok.hd J) hl' hN hi fun s4 J4 => ⟨_, H', J4, z⟩
    | brk => obtain ⟨σ', H', J, z⟩ := z; exact Inv.goes (Inv.unmark I.ok.hd J) hl' hN hi fun s4 J4 => ⟨_, H', J4, z⟩
    | cont => obtain ⟨σ', H', J, z⟩ := z; exact Inv.goes (Inv.unmark I.ok.hd J) hl' hN hi fun s4 J4 => ⟨_, H', J4, z⟩
    | ret u => obtain ⟨v, σ', H', J, r, z⟩ := z; exact Inv.goes (Inv.unmark I.ok.hd J) hl' hN hi fun s4 J4 => ⟨v, _, H', J4, r, z⟩
end
noncomputable def XP (X : Cx) (pins : List (Addr × Obj)) (σ : St) (H : Hp) (EX : Value → DH → Prop) (e : Value) (s' : Shared) : Prop := ∃ a T cls H2 M2, e = .ref a ∧ Fly X pins σ H2 s' a T cls ∧ HAbs X.K M2 H2 ∧ Ext X.K H H2 ∧ EX cls M2
section
variable {X : Cx} {e : Expr} {es : List Expr} {pos : Pos} {t : TAd}
theorem callX {k : Nat} {x : Str} {ps : List Str} {sp : SpE} {p : Pos} {pins : List (Addr × Obj)} {s : Shared} {σ : St} {H : Hp} {Q : VK} {Q' : KD} {τ : DSt} {M : DH} {EX : Value → DH → Prop} (F : FnE X.prog X.w X.K X.mg X.base k x ps sp) (hex : X.ex = []) (hr : Room k X.A) (ha : PA X.nox (e :: es) (lowA X.K t)) (hg : Gl X x) (hdb : (x == ("__debug__" : Str)) = false)
    (he : starEach (e :: es) X.env = (false, eval e X.env) :: starEach es X.env) (hpl : (backTo pos (starEach es X.env)).any (·.1) = false) (I : Inv X pins σ H s) (hs : SAbs X.K τ σ H) (hm : HAbs X.K M H) (h : t τ M fun ds M1 => sp ds M1 Q' EX) (hq : lowQ X.K H Q' Q) :
    wpAny (model X.prog X.w) X.A (eval (.Call (.Name x p) (e :: es) [] pos) X.env) (EP X pins σ Q) (XP X pins σ H EX) s := by
  obtain ⟨f, fd, F, hmg, hk, hb⟩ := F.ex
  refine wpAny_Call_Name_kw (ld_glob I hg hmg ?_ hdb)
  have hA := ha pos pins s σ H (fun vs H1 => ∃ ds M1, HAbs X.K M1 H1 ∧ Ext X.K H H1 ∧ Iss X.K H1 vs ds ∧ sp ds M1 Q' EX) (I.wish _) ⟨τ, M, _, hs, hm, h, fun ds M1 vs H1 m1 e1 i1 h1 => ⟨ds, M1, m1, e1, i1, h1⟩⟩
  refine PySem.W.callWith_K (h₀ := X.base) I.ok.mod.kin hk (wpAny_mono hA (fun us s1 zz0 => ?_) fun _ _ z => False.elim z) he hpl
  obtain ⟨vs, H1, I1, r, ⟨ds, M1, m1, e1, i1, h1⟩⟩ := zz0
  refine ⟨I1.unwish.kIn, ?_⟩
  have J1 := I1.unwish
  have h2 : lowSpE X.K sp vs H1 Q fun cls _ H2 => ∃ M2, HAbs X.K M2 H2 ∧ EX cls M2 := ⟨ds, M1, Q', EX, i1, m1, h1, hq.ext e1, fun cls M2 H2 m2 _ q => ⟨M2, m2, q⟩⟩
  have hl : us.length = ps.length := by rw [← r.length]; exact F.len _ _ _ _ h2
  have hbn := hb s1 us J1.kIn (by rw [List.append_nil]; exact hl)
  rw [List.append_nil] at hbn
  refine wpAny_call (codeAny_mono (F.run X.A X.stack s1 H1 ⟨us, []⟩ us vs Q _ hr J1.env0 hbn r h2) fun rr s' hq' => ?_)
  cases rr with
  | error e =>
    obtain ⟨a, T, cls, H2, ea, FL, ex, M2, m2, q2⟩ := fly_of (E1 := fun cls _ H2 => ∃ M2, HAbs X.K M2 H2 ∧ EX cls M2) J1 hex hq'
    exact ⟨a, T, cls, H2, M2, ea, FL, m2, e1.trans ex, q2⟩
  | ok fl =>
    cases fl with
    | ret u => exact J1.after hq'
    | next => exact False.elim hq'
    | brk => exact False.elim hq'
    | cont => exact False.elim hq'
noncomputable def sTryE (sp : SpE) (t : TAd) (th : Value → TSd) : TSd := fun D τ M => t τ M fun ds M1 => sp ds M1 (fun _ M2 => D.nx τ M2) fun cls M2 => ∃ M0, Sub M0 M2 ∧ th cls D τ M0
theorem came_in {h₀ : ExceptHandler} {hs : List ExceptHandler} {th : Value → TSd} {pins : List (Addr × Obj)} {σ : St} {H : Hp} {D : Ends} {D' : EndsD} {τ : DSt} {v : Value} {s' : Shared} (hex : X.ex = []) (hst : X.stack = X.env :: X.outer) (hf : X.env.frame = some X.env.locals) (hh : PH X (h₀ :: hs) th) (hS : SAbs X.K τ σ H) (hd : LowD X.K H D' D)
    (h : XP X pins σ H (fun cls M2 => ∃ M0, Sub M0 M2 ∧ th cls D' τ M0) v s') : wpAny (model X.prog X.w) X.A (noteFrame v X.env) (fun _ s₂ => wpAny (model X.prog X.w) X.A (setFlight v none) (fun _ s₃ => wpAny (model X.prog X.w) X.A (handleBy v X.env (h₀ :: hs)) (SP X pins D) X.xe s₃) X.xe s₂) X.xe s' := by
  obtain ⟨a, T, cls, H2, M2, rfl, FL, m2, e2, M0, sub, q⟩ := h
  exact FL.look hex hst hf fun h' T' FL' => hh pins _ σ H2 D a T' cls FL' ⟨τ, M0, D', hS.mono e2, m2.sub sub, q, hd.ext e2⟩
theorem s_tryE {k : Nat} {x : Str} {ps : List Str} {sp : SpE} {p ep tpos : Pos} {h₀ : ExceptHandler} {hs : List ExceptHandler} {th : Value → TSd} (F : FnE X.prog X.w X.K X.mg X.base k x ps sp) (hex : X.ex = []) (hst : X.stack = X.env :: X.outer) (hf : X.env.frame = some X.env.locals) (hr : Room k X.A) (ha : PA X.nox (e :: es) (lowA X.K t)) (hh : PH X (h₀ :: hs) th)
    (hg : Gl X x := by rfl) (hdb : (x == ("__debug__" : Str)) = false := by decide) (he : starEach (e :: es) X.env = (false, eval e X.env) :: starEach es X.env := by rfl) (hpl : (backTo pos (starEach es X.env)).any (·.1) = false := by rfl)
    (hsw : swapsWith (.Call (.Name x p) (e :: es) [] pos) none ep.line X.env = pure false := by rfl) : PS X (.Try [.Expr (.Call (.Name x p) (e :: es) [] pos) ep] (h₀ :: hs) [] [] tpos) (lowS X.K (sTryE sp t th)) := by
  rintro pins s σ H D I ⟨τ, M, D', hS, hm, h, hd⟩
  refine wpAny_Try_except (wpAny_mono (E := XP X pins σ H fun cls M2 => ∃ M0, Sub M0 M2 ∧ th cls D' τ M0) (Q := fun f s1 => f = .next ∧ ∃ H1, Inv X pins σ H1 s1 ∧ D.nx σ H1) ?_ (fun f s1 z => ?_) fun v s' z => came_in hex hst hf hh hS hd z)
  · have hc := callX (p := p) (pos := pos) (Q := fun _ H1 => D.nx σ H1) (Q' := fun _ M2 => D'.nx τ M2) F hex hr ha hg hdb he hpl I hS hm h (fun d M1 v H1 m1 e1 i1 q => hd.nx τ M1 σ H1 (hS.mono e1) m1 e1 q)
    refine wpAny_execs_cons (wpAny_Expr_any (wpAny_mono hc (fun v s1 zz0 => ?_) fun _ _ z => z) I.quiet hsw)
    obtain ⟨y, H1, I1, r1, q1⟩ := zz0
    exact wpAny_execs_nil ⟨rfl, H1, I1, q1⟩
  · obtain ⟨rfl, H1, I1, q1⟩ := z
    exact wpAny_execs_nil ⟨σ, H1, I1, q1⟩
end
end DL
namespace DL
open PySem PySem.Spec PyProof.Rows L2
section
variable {prog : Program} {w : World} {A : Around} {E : Value → Shared → Prop} {h : Heap} {g : Array GenState} {d : Drawn} {t : Nat} {os : OsState} {a : Addr} {o : Obj}
  {nm q : Str} {C N : Addr} {bs bm : List Value} {hdct : Bool} {sn : List Str} {sub : List Value} {ab : Bool} {col : Option Bool} {dd : Option Addr} {k0 k1 k2 k3 k5 : Option Value} {newId : String}
theorem class_get_exc {R : Result → Shared → Prop} (hC : h.get? C = some (excClassObj nm q C N bs bm hdct sn sub ab col dd k0 k1 k2 k3 k5 newId)) (ho : bm.contains (.type "object") = true) (hx : h.get? a = some o) (hc : o.cls = .ref C) (hq : R (.ok (.ret (.ref C))) ⟨h, g, d, t, os⟩) :
    codeAny (model prog w) A (.call (.builtin "getset_descriptor.__get__") ⟨[.builtin "object.__class__", .ref a, .ref C], []⟩) R ⟨h, g, d, t, os⟩ := by
  have hT5 : (⟨h, g, d, t, os⟩ : Shared).TypeIs (.builtin "object.__class__") "getset_descriptor" := F.typeOf_object_class
  have hcB : (Value.ref C :: bm).contains (.type (".".intercalate ("object.__class__".cutAt '.').dropLast)) = true := by
    rw [F.owner_object_class, List.contains_cons, ho]; rfl
  refine codeAny_call_builtin F.slot_gs_get.plain F.entry_gs_get (F.slot_gs_get.check _ _ _ _ _ _ _ _ hT5 (F.args_gs_get _ _ _) ?_)
  repeat (any_goals (first | assumption | (with_reducible refine wpAny_loadPart_at hx ?_; rw [hc]) | (with_reducible refine wpAny_isSubtype_exc hC ?_; rw [hcB]) | wp_step))
  refine ⟨Code.quiet_builtin _ (by decide +kernel), codeAny_builtin F.entry_object_class ?_⟩
  repeat (any_goals (first | assumption | (with_reducible refine wpAny_loadPart_at hx ?_; rw [hc]) | wp_step))
theorem class_entry_exc {tk : Tok} {Q : Fin → Shared → Prop} (hC : h.get? C = some (excClassObj nm q C N bs bm hdct sn sub ab col dd k0 k1 k2 k3 k5 newId)) (ho : bm.contains (.type "object") = true) (L : PySem.W.Looks (model prog w) h (typeLookup (.ref C) "__class__") (some (.builtin "object.__class__")))
    (hx : h.get? a = some o) (hc : o.cls = .ref C) (hq : Q (.done (.ret (.ref C))) ⟨h, g, d, t, os⟩) :
    wpAny (model prog w) A (Builtin.«object.__getattribute__» ⟨[.ref a, .str "__class__" tk], []⟩) Q E ⟨h, g, d, t, os⟩ := by
  have hT5 : (⟨h, g, d, t, os⟩ : Shared).TypeIs (.builtin "object.__class__") "getset_descriptor" := F.typeOf_object_class
  have f5 := F.typeOf_object_class
  have f6 := F.slot_gs_get.lookup
  have f7 := F.slot_gs_set.lookup
  repeat (any_goals (first | assumption | (with_reducible refine wpAny_loadPart_at hx ?_; rw [hc]) | with_reducible refine L.at ?_ | wp_step))
  refine class_get_exc hC ho hx hc ?_
  repeat (any_goals (first | assumption | wp_step))
theorem check_ga_exc {M : Model} {nameV : Value} {Q : Unit → Shared → Prop} (hC : h.get? C = some (excClassObj nm q C N bs bm hdct sn sub ab col dd k0 k1 k2 k3 k5 newId)) (hb : bm.contains (.type "BaseException") = true)
    (hx : h.get? a = some o) (hc : o.cls = .ref C) (hq : Q () ⟨h, g, d, t, os⟩) : wpAny M A (checkBuiltinCall "BaseException.__getattribute__" ⟨[.ref a, nameV], []⟩) Q E ⟨h, g, d, t, os⟩ := by
  have hk : builtinKind "BaseException.__getattribute__" = some .slot := by decide +kernel
  have hsplit : splitId "BaseException.__getattribute__" = some ("BaseException", "__getattribute__") := by decide +kernel
  have hcB : (Value.ref C :: bm).contains (.type "BaseException") = true := by rw [List.contains_cons, hb]; rfl
  have ha := F.args_bexc_ga (.ref a) nameV
  simp only [checkBuiltinCall, hk, hsplit]
  refine wpAny_bind ?_
  · unfold isInstance
    repeat (first | (with_reducible refine wpAny_loadPart_at hx ?_; rw [hc]) | (with_reducible refine wpAny_isSubtype_exc hC ?_; rw [hcB]) | wp_step)
    exact hq
theorem class_by_exc {tk : Tok} {fill expr : Bool} {Q : Value → Shared → Prop} (hC : h.get? C = some (excClassObj nm q C N bs bm hdct sn sub ab col dd k0 k1 k2 k3 k5 newId)) (ho : bm.contains (.type "object") = true) (hb : bm.contains (.type "BaseException") = true)
    (L : PySem.W.Looks (model prog w) h (typeLookup (.ref C) "__class__") (some (.builtin "object.__class__"))) (L1 : PySem.W.Looks (model prog w) h (typeLookup (.ref C) "__getattribute__") (some (.builtin "BaseException.__getattribute__"))) (L2 : PySem.W.Looks (model prog w) h (typeLookup (.ref C) "__getattr__") none)
    (hx : h.get? a = some o) (hc : o.cls = .ref C) (hq : Q (.ref C) ⟨h, g, d, t, os⟩) : wpAny (model prog w) A (getAttrBy (.ref a) (.str "__class__" tk) fill expr) Q E ⟨h, g, d, t, os⟩ := by
  have f3 := F.excAttr_ValueError.ga.bind (.ref a)
  have hx0 : (expr && onTheHeap (Value.builtin "BaseException.__getattribute__")) = false := by cases expr <;> rfl
  have hx2 : (Value.builtin "BaseException.__getattribute__" == Value.builtin "object.__getattribute__") = false := by decide +kernel
  have hx1 : (onTheHeap (Value.ref C) && Value.builtin "BaseException.__getattribute__" == Value.builtin "object.__getattribute__") = false := by rw [hx2]; rfl
  repeat (any_goals (first | assumption | (with_reducible refine wpAny_loadPart_at hx ?_; rw [hc]) | with_reducible refine L1.at ?_ | with_reducible refine L2.at ?_ | wp_step))
  refine codeAny_call_builtin F.excAttr_ValueError.ga.plain F.entry_bexc_ga (check_ga_exc hC hb hx hc (class_entry_exc hC ho L hx hc ?_))
  repeat (any_goals (first | assumption | wp_step))
theorem class_attr_exc {Q : Option Value → Shared → Prop} (hC : h.get? C = some (excClassObj nm q C N bs bm hdct sn sub ab col dd k0 k1 k2 k3 k5 newId)) (ho : bm.contains (.type "object") = true) (hb : bm.contains (.type "BaseException") = true)
    (L : PySem.W.Looks (model prog w) h (typeLookup (.ref C) "__class__") (some (.builtin "object.__class__"))) (L1 : PySem.W.Looks (model prog w) h (typeLookup (.ref C) "__getattribute__") (some (.builtin "BaseException.__getattribute__"))) (L2 : PySem.W.Looks (model prog w) h (typeLookup (.ref C) "__getattr__") none)
    (hx : h.get? a = some o) (hc : o.cls = .ref C) (hq : Q (some (.ref C)) ⟨h, g, d, t + 1, os⟩) : wpAny (model prog w) A (getAttr? (.ref a) "__class__") Q E ⟨h, g, d, t, os⟩ := by
  unfold getAttr? getAttrBy?
  repeat (any_goals (first | assumption | with_reducible apply class_by_exc hC ho hb L L1 L2 hx hc | wp_step))
end
structure XCl (K : PySem.W.Frag) (C : Addr) : Prop where
  ow : PySem.W.excIn K C bmVE "ValueError.__new__" = true
  f1 : PySem.W.findIn K (.ref C) "__class__" = some (some (.builtin "object.__class__"))
  f2 : PySem.W.findIn K (.ref C) "__getattribute__" = some (some (.builtin "BaseException.__getattribute__"))
  f3 : PySem.W.findIn K (.ref C) "__getattr__" = some none
theorem kitx_exc {K : PySem.W.Frag} {C a : Addr} (x : XCl K C) : PySem.W.KitX K (.ref a) (.ref C) (fun h => ∃ ob, h.get? a = some ob ∧ ob.cls = .ref C) where
  ty := fun M h _ ⟨o, h1, h2⟩ => h2 ▸ (PySem.W.Looks.ld h1).andThen .now
  it := fun _ _ X _ => by
    obtain ⟨bm, N, nmC, qn, bs, hdct, sn, sub, ab, col, dd, k0, k1, k2, k3, k5, mN, hC, _, _, _⟩ := exc_obj X x.ow
    intro A' Q' E' s' k q
    unfold isType PySem.loadHead
    exact wpAny_bind (wpAny_loadPart (k _ _ hC) (wpAny_pure q))
  ne := fun h tp dd its n sl X htp => by
    obtain ⟨bm, N, nmC, qn, bs, hdct, sn, sub, ab, col, dd', k0, k1, k2, k3, k5, mN, hC, _, _, _⟩ := exc_obj X x.ow
    refine Bool.eq_false_iff.mpr fun q => ?_
    have e : C = tp := Value.ref.inj (beq_iff_eq.mp q)
    subst e
    rw [hC] at htp
    have z := congrArg Obj.data (Option.some.inj htp)
    simp at z
  ca := fun {prog w A E Q s} X ⟨o, h1, h2⟩ k => by
    obtain ⟨bm, N, nmC, qn, bs, hdct, sn, sub, ab, col, dd', k0, k1, k2, k3, k5, mN, hC, _, _, TL⟩ := exc_obj X x.ow
    obtain ⟨h, g, d, t, os⟩ := s
    exact class_attr_exc hC (TL.hasType rfl) (TL.hasType rfl) (PySem.W.looks_findIn X x.f1) (PySem.W.looks_findIn X x.f2) (PySem.W.looks_findIn X x.f3) h1 h2 k
noncomputable def isiED (K : PySem.W.Frag) : List D → DH → KD → Prop
  | [.ref p, .ref F], M, Q => ∃ C b, M p = some (.exc (.ref C)) ∧ XCl K C ∧ PySem.W.kitOne K (.ref C) (.ref F) = some b ∧ Q (.bl b) M
  | [.ref p, .ty T], M, Q => ∃ C b, M p = some (.exc (.ref C)) ∧ XCl K C ∧ PySem.W.kitOne K (.ref C) (.type T) = some b ∧ Q (.bl b) M
  | _, _, _ => False
theorem cd_isiE {X : Cx} {K : PySem.W.Frag} (hK : X.K = K) : CallD X (.builtin "isinstance") (isiED K) := by
  subst hK
  rintro pins s σ H vs us Q I r ⟨ds, M, Q', iss, hm, q, hq⟩
  match ds, q, iss with
  | [.ref p, .ref F], q, iss =>
    obtain ⟨v, v', rfl, h1, h2⟩ := iss2 iss
    (first | cases h1.inv | cases h1); (first | cases h2.inv | cases h2)
    obtain ⟨u, w', rfl, r1, r2⟩ := vals2 r
    cases r1; cases r2
    obtain ⟨C, b, hp, xc, hk, q⟩ := q
    obtain ⟨φ, e1, e2⟩ := hm p _ hp
    exact PySem.W.kia_one (kitx_exc xc) I.kIn (e2 _ (I.hok p _ e1).1) hk (fun z => nomatch z) fun tk => ⟨.bl _, H, I.tok tk, rfl, hq.here hm (.bl _) q⟩
  | [.ref p, .ty T], q, iss =>
    obtain ⟨v, v', rfl, h1, h2⟩ := iss2 iss
    (first | cases h1.inv | cases h1); (first | cases h2.inv | cases h2)
    obtain ⟨u, w', rfl, r1, r2⟩ := vals2 r
    cases r1; cases r2
    obtain ⟨C, b, hp, xc, hk, q⟩ := q
    obtain ⟨φ, e1, e2⟩ := hm p _ hp
    exact PySem.W.kia_one (kitx_exc xc) I.kIn (e2 _ (I.hok p _ e1).1) hk (fun z => nomatch z) fun tk => ⟨.bl _, H, I.tok tk, rfl, hq.here hm (.bl _) q⟩
theorem d_cls {X : Cx} {x : Str} {C : Addr} {pos : Pos} (hg : Gl X x) (hm : X.mg x = some (.ref C)) (hd : (x == ("__debug__" : Str)) = false := by decide) : PE X (.Name x pos) (low X.K (eC (.ref C))) :=
  (pe_glob (v := .ref C) hg hm rfl hd).imp fun _ _ _ h => low_const (fun _ => .ref C) h
theorem bt_ValueError : bootBuiltins "ValueError" = some (.type "ValueError") := by decide +kernel
noncomputable def cl (mg : Str → Option Value) (x : Str) : Addr := match mg x with
  | some (.ref C) => C
  | _ => 0
theorem cl_of {mg : Str → Option Value} {x : Str} {C : Addr} (h : mg x = some (.ref C)) : cl mg x = C := by unfold cl; rw [h]
noncomputable def kitTab (K : PySem.W.Frag) (cs : List Addr) : List (List (Option Bool)) := cs.map fun c => cs.map fun f => PySem.W.kitOne K (.ref c) (.ref f)
noncomputable def isaTab (K : PySem.W.Frag) (cs : List Addr) : List (List (Option Bool)) := cs.map fun c => cs.map fun f => isaIn K c (.ref f)
structure XTab (K : PySem.W.Frag) (cs : List Addr) (tab : List (List Bool)) : Prop where
  ow : ∀ c ∈ cs, PySem.W.excIn K c bmVE "ValueError.__new__" = true
  kt : kitTab K cs = tab.map fun r => r.map some
  ia : isaTab K cs = tab.map fun r => r.map some
  ve : cs.map (fun c => PySem.W.kitOne K (.ref c) (.type "ValueError")) = cs.map fun _ => some true
  f1 : cs.map (fun c => PySem.W.findIn K (.ref c) "__class__") = cs.map fun _ => some (some (.builtin "object.__class__"))
  f2 : cs.map (fun c => PySem.W.findIn K (.ref c) "__getattribute__") = cs.map fun _ => some (some (.builtin "BaseException.__getattribute__"))
  f3 : cs.map (fun c => PySem.W.findIn K (.ref c) "__getattr__") = cs.map fun _ => some none
section
variable {K : PySem.W.Frag} {cs : List Addr} {tab : List (List Bool)} {i j : Nat} {c f : Addr} {r : List Bool} {b : Bool}
theorem map_at {α β : Type} {g g' : α → β} {xs : List α} {i : Nat} {x : α} (h : xs.map g = xs.map g') (e : xs[i]? = some x) : g x = g' x := by
  have h1 := congrArg (fun l => l[i]?) h
  simp only [List.getElem?_map, e, Option.map_some, Option.some.injEq] at h1
  exact h1
theorem tab_at {g : Addr → Addr → Option Bool} (h : (cs.map fun c => cs.map fun f => g c f) = tab.map fun r => r.map some) (hc : cs[i]? = some c) (hf : cs[j]? = some f) (hr : tab[i]? = some r) (hb : r[j]? = some b) : g c f = some b := by
  have h1 := congrArg (fun l => l[i]?) h
  simp only [List.getElem?_map, hc, hr, Option.map_some, Option.some.injEq] at h1
  have h2 := congrArg (fun l => l[j]?) h1
  simp only [List.getElem?_map, hf, hb, Option.map_some, Option.some.injEq] at h2
  exact h2
theorem XTab.kit (X : XTab K cs tab) (i j : Nat) (hc : cs[i]? = some c) (hf : cs[j]? = some f) (hr : tab[i]? = some r) (hb : r[j]? = some b) : PySem.W.kitOne K (.ref c) (.ref f) = some b := tab_at X.kt hc hf hr hb
theorem XTab.isa (X : XTab K cs tab) (i j : Nat) (hc : cs[i]? = some c) (hf : cs[j]? = some f) (hr : tab[i]? = some r) (hb : r[j]? = some b) : IsA K c f b := ⟨X.ow c (List.mem_of_getElem? hc), X.ow f (List.mem_of_getElem? hf), tab_at X.ia hc hf hr hb⟩
theorem XTab.xcl (X : XTab K cs tab) (i : Nat) (hc : cs[i]? = some c) : XCl K c := ⟨X.ow c (List.mem_of_getElem? hc), map_at X.f1 hc, map_at X.f2 hc, map_at X.f3 hc⟩
theorem XTab.vee (X : XTab K cs tab) (i : Nat) (hc : cs[i]? = some c) : PySem.W.kitOne K (.ref c) (.type "ValueError") = some true := map_at X.ve hc
end
theorem FnE.nox {P : Program} {w : World} {K : PySem.W.Frag} {mg : Str → Option Value} {base : Heap} {k : Nat} {x : Str} {ps : List Str} {sp : SpE} (F : FnE P w K mg base k x ps sp) : FnD P w K mg base k x ps (fun ds M Q => sp ds M Q fun _ _ => False) := by
  obtain ⟨f, fd, a, b, c, d⟩ := F.ex
  refine ⟨f, fd, ⟨fun vs H Q E ⟨ds, M, Q', i, m, q, hq⟩ => a.len vs H Q E ⟨ds, M, Q', _, i, m, q, hq, fun _ _ _ _ _ z => z.elim⟩, fun A outer s H args us vs Q E hr he hb hv zz0 => ?_⟩, b, c, d⟩
  obtain ⟨ds, M, Q', i, m, q, hq⟩ := zz0
  refine codeAny_mono (a.run A outer s H args us vs Q (fun _ _ _ => False) hr he hb hv ⟨ds, M, Q', _, i, m, q, hq, fun _ _ _ _ _ z => z.elim⟩) fun r s' h => ?_
  cases r with
  | ok fl => cases fl <;> exact h
  | error e => obtain ⟨_, _, _, _, _, _, _, _, _, _, _, _, _, _, z⟩ := h; exact z.elim
end DL
namespace DL
open PySem PySem.Spec PyProof.Rows L2
section
variable {X : Cx} {k : Nat} {e a b : Expr} {pos : Pos} {ta tb te : TEd}
end
end DL
namespace DL
open PySem PySem.Spec PyProof.Rows L2
section
variable {X : Cx}
end
end DL
namespace DL
open PySem PySem.Spec PyProof.Rows L2
section
open Builtin
set_option maxRecDepth 100000
theorem noFill_tuple_mul : fillsNumberSlot (.type "tuple") "mul" = pure false :=
  PySem.fillsNumberSlot_seq (id := "tuple.__mul__") (r := some (.builtin "tuple.__rmul__")) F.slot_tuple_mul.lookup (by decide +kernel) F.slot_tuple_rmul.lookup (by decide +kernel)
theorem repeat_tuple : seqRepeat? (.type "tuple") = pure (some (.builtin "tuple.__mul__")) := by
  unfold seqRepeat?
  rw [PySem.seqSlot_of (T := "tuple") (name := "__mul__") (id := "tuple.__mul__") F.slot_tuple_mul.lookup (by decide +kernel), PySem.seqSlot_of (T := "tuple") (name := "__rmul__") (id := "tuple.__rmul__") F.slot_tuple_rmul.lookup (by decide +kernel)]
  rfl
theorem int_rmul_tuple (a : Int) (t : Tok) (l : Addr) (items : Array Value) (n : Nat) (d : Option Addr) (sl : Array (Option Value)) :
    Meets (Builtin.«int.__rmul__» ⟨[.int a t, .ref l], []⟩) (fun _ R s => s.heap.get? l = some { cls := .type "tuple", dict := d, data := .seq items n, slots := sl } ∧ R (.ok (.ret Value.notImplemented)) s) :=
  .of_wp fun prog w A R s h => by obtain ⟨hp, g, d, tk, os⟩ := s; obtain ⟨hl, h⟩ := h; wp_walk; exact ⟨_, rfl, h⟩
theorem tuple_mul_1 (l : Addr) (items : Array Value) (n : Nat) (d : Option Addr) (sl : Array (Option Value)) (x : Int) (u : Tok) (hc0 : (decide (x < -2 ^ 63) || decide (x ≥ 2 ^ 63)) = false) (hc1 : (items.isEmpty || x == 1) = true) :
    Meets (Builtin.«tuple.__mul__» ⟨[.ref l, .int x u], []⟩) (fun _ R s => s.heap.get? l = some { cls := .type "tuple", dict := d, data := .seq items n, slots := sl } ∧ R (.ok (.ret (Value.ref l))) s) :=
  .of_wp fun prog w A R s h => by
    obtain ⟨hp, g, d, tk, os⟩ := s; obtain ⟨hl, h⟩ := h
    wp_walk using wpAny_loadPart' hl
    refine wpAny_ite_false (by rw [hc0]; rfl) ?_
    wp_walk using wpAny_loadPart' hl
    exact ⟨_, rfl, h⟩
theorem tuple_mul_0 (l : Addr) (items : Array Value) (n : Nat) (d : Option Addr) (sl : Array (Option Value)) (x : Int) (u : Tok) (hc0 : (decide (x < -2 ^ 63) || decide (x ≥ 2 ^ 63)) = false) (hc1 : (items.isEmpty || x == 1) = false) (hc2 : (decide (x ≤ 0) || items.isEmpty) = true) :
    Meets (Builtin.«tuple.__mul__» ⟨[.ref l, .int x u], []⟩) (fun _ R s => s.heap.get? l = some { cls := .type "tuple", dict := d, data := .seq items n, slots := sl } ∧ R (.ok (.ret (Value.ref s.heap.objs.size))) { s with heap := s.heap.push { cls := Value.type "tuple", data := Data.seq #[] } }) :=
  .of_wp fun prog w A R s h => by
    obtain ⟨hp, g, d, tk, os⟩ := s; obtain ⟨hl, h⟩ := h
    wp_walk using wpAny_loadPart' hl
    refine wpAny_ite_false (by rw [hc0]; rfl) ?_
    wp_walk using wpAny_loadPart' hl
    exact ⟨_, rfl, h⟩
theorem tuple_mul_n (l : Addr) (items : Array Value) (n : Nat) (d : Option Addr) (sl : Array (Option Value)) (x : Int) (u : Tok) (hc0 : (decide (x < -2 ^ 63) || decide (x ≥ 2 ^ 63)) = false) (hc1 : (items.isEmpty || x == 1) = false) (hc2 : (decide (x ≤ 0) || items.isEmpty) = false) (hc3 : ¬ (items.size : Int) * x > (2 ^ 63 - 1) / 8) (hc4 : Tuple.tupleTooMany (items.size * x) = false) (hc5 : ¬ (List.foldl (fun x1 x2 => x1 ++ x2) #[] (List.replicate x.toNat items)).size > sizeLine) :
    Meets (Builtin.«tuple.__mul__» ⟨[.ref l, .int x u], []⟩) (fun _ R s => s.heap.get? l = some { cls := .type "tuple", dict := d, data := .seq items n, slots := sl } ∧ R (.ok (.ret (Value.ref s.heap.objs.size))) { s with heap := s.heap.push { cls := Value.type "tuple", data := Data.seq (List.foldl (fun x1 x2 => x1 ++ x2) #[] (List.replicate x.toNat items)) } }) :=
  .of_wp fun prog w A R s h => by
    obtain ⟨hp, g, d, tk, os⟩ := s; obtain ⟨hl, h⟩ := h
    wp_walk using wpAny_loadPart' hl
    refine wpAny_ite_false (by rw [hc0]; rfl) ?_
    wp_walk using wpAny_loadPart' hl
    refine wpAny_ite_false (decide_eq_false hc3) ?_
    wp_walk using wpAny_loadPart' hl
    exact ⟨_, rfl, h⟩
theorem mul_tup {prog : Program} {w : World} {A : Around} {E : Value → Shared → Prop} {s : Shared} {t : Addr} {vs : List Value} {x : Int} {u : Tok} {Q : Value → Shared → Prop} (ht : IsTup s.heap t vs.toArray) (h0 : 0 ≤ x) (h1 : x ≤ 10) (hl : vs.length ≤ 100)
    (hsame : x = 1 ∨ vs = [] → Q (.ref t) s)
    (hnew : Q (.ref s.heap.objs.size) { s with heap := s.heap.push { cls := .type "tuple", data := .seq (List.replicate x.toNat vs).flatten.toArray } }) :
    wpAny (model prog w) A (binaryOp .Mult (.ref t) (.int x u)) Q E s := by
  obtain ⟨⟨cls, d, data, sl⟩, ho, hcl, k, hd⟩ := id ht
  simp only at hcl hd
  subst hcl hd
  have c0 : (decide (x < -2 ^ 63) || decide (x ≥ 2 ^ 63)) = false := by
    rw [decide_eq_false (by (first | lia | omega)), decide_eq_false (by (first | lia | omega))]; rfl
  refine PySem.wpAny_binaryOp_repeat_ref (T := "tuple") (U := "int") (by decide) ⟨_, ho, rfl⟩ (fun s' => typeIs_int s' x u) noFill_tuple_mul F.fills_int_mul F.slot_int_rmul repeat_tuple F.slot_int_index.lookup
    (call_meets F.slot_int_rmul (typeIs_int s x u) F.entry_int_rmul (F.args_int_rmul_2 _ _) (int_rmul_tuple x u t vs.toArray k d sl) ⟨ho, rfl, ⟨_, ho, rfl⟩, ?_⟩)
  by_cases hc1 : (vs.toArray.isEmpty || x == 1) = true
  · refine call_meets F.slot_tuple_mul ⟨_, ho, rfl⟩ F.entry_tuple_mul (F.args_tuple_mul_2 _ _) (tuple_mul_1 t vs.toArray k d sl x u c0 hc1) ⟨ho, hsame ?_⟩
    rw [Bool.or_eq_true] at hc1
    rcases hc1 with z | z
    · exact .inr (by simpa using z)
    · exact .inl (by simpa using z)
  · have hc1 : (vs.toArray.isEmpty || x == 1) = false := by simpa using hc1
    by_cases hc2 : (decide (x ≤ 0) || vs.toArray.isEmpty) = true
    · have hx : x = 0 := by
        rw [Bool.or_eq_true] at hc2
        rw [Bool.or_eq_false_iff] at hc1
        rcases hc2 with z | z
        · have := of_decide_eq_true z; (first | lia | omega)
        · rw [hc1.1] at z; cases z
      subst hx
      exact call_meets F.slot_tuple_mul ⟨_, ho, rfl⟩ F.entry_tuple_mul (F.args_tuple_mul_2 _ _) (tuple_mul_0 t vs.toArray k d sl 0 u c0 hc1 hc2) ⟨ho, hnew⟩
    · have hc2 : (decide (x ≤ 0) || vs.toArray.isEmpty) = false := by simpa using hc2
      have hsz : (vs.length : Int) * x ≤ 100 * 10 := Int.mul_le_mul (by (first | lia | omega)) h1 h0 (by decide)
      have e : List.foldl (fun x1 x2 => x1 ++ x2) #[] (List.replicate x.toNat vs.toArray) = (List.replicate x.toNat vs).flatten.toArray := by rw [listMul_foldl]; simp
      have hle : (List.replicate x.toNat vs).flatten.length ≤ 1000 := by
        rw [List.length_flatten, List.map_replicate, List.sum_replicate_nat]
        calc x.toNat * vs.length ≤ 10 * 100 := Nat.mul_le_mul (by (first | lia | omega)) hl
          _ ≤ 1000 := by decide
      refine call_meets F.slot_tuple_mul ⟨_, ho, rfl⟩ F.entry_tuple_mul (F.args_tuple_mul_2 _ _) (tuple_mul_n t vs.toArray k d sl x u c0 hc1 hc2 (by rw [List.size_toArray]; (first | lia | omega)) (by unfold Tuple.tupleTooMany; rw [List.size_toArray]; exact decide_eq_false (by rw [sizeLine_eq]; (first | lia | omega))) (by rw [e, List.size_toArray]; have := line1000 hle; (first | lia | omega))) ⟨ho, ?_⟩
      rw [e]
      exact hnew
end
section
variable {X : Cx}
theorem vals_rep {xs : List V} {us : List Value} (h : Vals xs us) : ∀ n : Nat, Vals (List.replicate n xs).flatten (List.replicate n us).flatten
  | 0 => .nil
  | n + 1 => by rw [List.replicate_succ, List.replicate_succ, List.flatten_cons, List.flatten_cons]; exact h.append (vals_rep h n)
theorem iss_rep {K : PySem.W.Frag} {H : Hp} {xs : List V} {us : List D} (h : Iss K H xs us) : ∀ n : Nat, Iss K H (List.replicate n xs).flatten (List.replicate n us).flatten
  | 0 => .nil
  | n + 1 => by rw [List.replicate_succ, List.replicate_succ, List.flatten_cons, List.flatten_cons]; exact h.append (iss_rep h n)
noncomputable def mulTD : D → D → DH → KD → Prop
  | .tup xs, .int n, M, Q => (xs.length ≤ 100 ∧ 0 ≤ n ∧ n ≤ 10) ∧ Q (.tup (List.replicate n.toNat xs).flatten) M
  | _, _, _, _ => False
theorem od_mulT : OpD X (binaryOp .Mult) mulTD := by
  rintro pins s σ H vx vy v u Q I rx ry ⟨x, y, M, Q', ix, iy, hm, q, hq⟩
  cases ix with
  | tup ha hxs => cases iy with
    | int n =>
      rename_i a xs ds
      obtain ⟨⟨h1, h2, h3⟩, q⟩ := q
      cases rx
      obtain ⟨t', rfl⟩ := ry
      obtain ⟨its, r1, p1, _⟩ := I.tuple ha
      have hlen := r1.length
      have hlx := hxs.length
      have hle : (List.replicate n.toNat its).flatten.length ≤ 1000 := by
        rw [List.length_flatten, List.map_replicate, List.sum_replicate_nat]
        calc n.toNat * its.length ≤ 10 * 100 := Nat.mul_le_mul (by (first | lia | omega)) (by (first | lia | omega))
          _ ≤ 1000 := by decide
      refine mul_tup p1 h2 h3 (by (first | lia | omega)) (fun z => ⟨.ref _, H, I, rfl, ?_⟩) ⟨.ref s.heap.objs.size, _, I.laid (t' := s.toks) (o := .tup (List.replicate n.toNat xs).flatten) (fun b ob q => Heap.get?_push_of_some _ q) (Nat.le_refl _) ?_, rfl, ?_⟩
      · refine hq.here hm ?_ q
        have e : (List.replicate n.toNat ds).flatten = ds := by
          rcases z with rfl | rfl
          · simp
          · have : ds = [] := List.length_eq_zero_iff.mp (by rw [← hlx, hlen]; rfl)
            rw [this]; simp
        rw [e]
        exact .tup ha hxs
      · exact ⟨by rw [(vals_rep r1 n.toNat).length]; exact line1000 hle, _, vals_rep r1 n.toNat, IsTup.new _ _⟩
      · have hp := I.hok.fresh (Nat.le_refl s.heap.objs.size)
        exact hq _ M _ _ (hm.new hp) (ext_new hp) (.tup (SqT.of upd_same) ((iss_rep hxs n.toNat).mono (ext_new hp))) q
    | _ => exact q.elim
  | _ => first | exact q.elim | (cases iy <;> exact q.elim)
end
end DL
namespace DL
open PySem PySem.Spec PyProof.Rows L2
section
variable {X : Cx}
theorem bt_sorted : bootBuiltins "sorted" = some (.builtin "sorted") := rfl
end
end DL
namespace DL
open PySem PySem.Spec PyProof.Rows L2
section
variable {X : Cx} {n : Nat} {o e f : Expr} {apos cpos : Pos}
noncomputable def tDSet2 (td ty tx : TE) : TE := fun σ H Q => td σ H fun x H1 => ∃ a, x = .ref a ∧ IsD H1 a ∧ ty σ H1 fun y H2 => tx σ H2 fun z H3 => ∃ kvs k, H3 a = some (.dK kvs) ∧ kvs.length < sizeLine ∧ y = kV k ∧
  (∀ v, valV kvs k = some v → Q v H3) ∧ (valV kvs k = none → Q z (upd H3 a (.dK (putK kvs k z))))
theorem pe_dset2 {td ty tx : TE} (ho : PE X o td) (he : PE X e ty) (hf : PE X f tx) (m : M2 X o "setdefault" apos e f cpos) : PE X (.Call (.Attribute o "setdefault" apos) [e, f] [] cpos) (tDSet2 td ty tx) := by
  intro pins s σ H Q I h
  refine wpAny_Call_method m.base m.few m.line PySem.F.plainAttrs_dict PySem.F.slot_dict_setdefault PySem.F.type_dict_setdefault (thn (ho pins s σ H _ I h) fun u s1 zz0 => ?_)
  obtain ⟨x, H1, I1, rx, a, ex, d, q1⟩ := zz0
  subst ex
  obtain rfl : u = Value.ref a := rx
  obtain ⟨t1, t2, _⟩ := isD_at I1 d
  refine ⟨t1, t2, ?_⟩
  rw [m.trees]
  refine Calls.callWith_builtin rfl (Calls.evalArgs_plain (Calls.spliced_cons (thn (he pins s1 σ H1 _ I1 q1) fun iv s2 ⟨y, H2, I2, ry, q2⟩ =>
    Calls.spliced_cons (thn (hf pins s2 σ H2 _ I2 q2) fun fv s3 ⟨z, H3, I3, rz, kvs, k, e3, l3, ey, q3, q4⟩ => Calls.spliced_nil ?_))))
  subst ey
  obtain ⟨z', hd, vs, rel, dd⟩ := dk_of I3.hok e3
  refine call_meetsIn PySem.F.slot_dict_setdefault dd.typeIs PySem.F.entry_dict_setdefault (PySem.F.args_dict_setdefault_3 _ _ _) (kt_meets_setdefault (mixKind X.prog X.w) a (kV_is ry) hd fv) ⟨vs, dd, by rw [← rel.length]; exact z', fun v hv => ?_, fun hn h' dd' hs => ?_⟩
  · have rv := rel.val k
    rw [hv] at rv
    cases ev : valV kvs k with
    | none => rw [ev] at rv; exact rv.elim
    | some x => rw [ev] at rv; exact ⟨x, H3, I3.tok _, rv, q3 x ev⟩
  · have rv := rel.val k
    rw [hn] at rv
    cases ev : valV kvs k with
    | some x => rw [ev] at rv; exact rv.elim
    | none =>
      have hl : (putK kvs k z).length ≤ sizeLine := by have := length_putK kvs k z; (first | lia | omega)
      have he' : ∃ q, h'.get? a = some q := let ⟨q, _, _, hq, _⟩ := dd'; ⟨q, hq⟩
      exact ⟨z, _, d_write I3 (by rw [e3]; exact True.intro) hs he' (dk_new hl hd (rel.put k rz) dd'), rz, q4 ev⟩
noncomputable def sdKD : D → D → D → DH → KD → Prop
  | .ref l, y, z, M, Q => ∃ k kvs, keyOf y = some k ∧ M l = some (.dic kvs) ∧ kvs.length < sizeLine ∧ (∀ d, valD kvs k = some d → Q d M) ∧ (valD kvs k = none → Q z (updM M l (.dic (putD kvs k z))))
  | _, _, _, _, _ => False
noncomputable def eSd2 (td ty tx : TEd) : TEd := fun τ M Q => td τ M fun x M1 => isDic x M1 ∧ ty τ M1 fun y M2 => tx τ M2 fun z M3 => sdKD x y z M3 Q
theorem d_sd2 {td ty tx : TEd} (ho : PE X o (low X.K td)) (he : PE X e (low X.K ty)) (hf : PE X f (low X.K tx)) (m : M2 X o "setdefault" apos e f cpos := by exact ⟨rfl, rfl, rfl, rfl⟩) : PE X (.Call (.Attribute o "setdefault" apos) [e, f] [] cpos) (low X.K (eSd2 td ty tx)) :=
  (pe_dset2 ho he hf m).imp fun σ H Q ⟨τ, M, Q', hs, hm, h, hq⟩ =>
    ⟨τ, M, _, hs, hm, h, fun x M1 vx H1 m1 e1 i1 ⟨h0, h1⟩ => by
      cases i1 with
      | ref l =>
        obtain ⟨kvs, hl⟩ := h0
        obtain ⟨kx, hx, hp⟩ := m1.dic hl
        refine ⟨l, rfl, .inl ⟨kx, hx⟩, τ, M1, _, hs.mono e1, m1, h1, fun y M2 vy H2 m2 e2 i2 h2 => ⟨τ, M2, _, hs.mono (e1.trans e2), m2, h2, fun z M3 vz H3 m3 e3 i3 h3 => ?_⟩⟩
        obtain ⟨k, kvs', hk, hl', hz, q1, q2⟩ := h3
        obtain ⟨kx', hx', hp'⟩ := m3 l _ hl'
        have hy := key_is i2 hk
        subst hy
        have e13 := e1.trans (e2.trans e3)
        refine ⟨kx', k, hx', by rw [pkd_length hp']; exact hz, rfl, fun v hv => ?_, fun hv => ?_⟩
        · cases ev : valD kvs' k with
          | none => rw [pkd_none hp' ev] at hv; (first | cases hv.inv | cases hv)
          | some d =>
            obtain ⟨v', h4, h5⟩ := pkd_some hp' ev
            rw [h4] at hv; (first | cases hv.inv | cases hv)
            exact hq d M3 _ H3 m3 e13 h5 (q1 d ev)
        · cases ev : valD kvs' k with
          | some d => obtain ⟨v', h4, h5⟩ := pkd_some hp' ev; rw [h4] at hv; (first | cases hv.inv | cases hv)
          | none =>
            obtain ⟨m4, e4⟩ := m3.setK hx' (pkd_put (k := k) hp' i3)
            exact hq z _ _ _ m4 (e13.trans e4) (i3.mono e4) (q2 ev)
      | _ => exact h0.elim⟩
end
end DL
namespace DL
open PySem PySem.Spec PyProof.Rows L2
section
variable {X : Cx}
end
end DL
namespace DL
open PySem PySem.Spec PyProof.Rows L2
section
variable {X : Cx} {e : Expr} {p2 pos : Pos} {lo hi : Option Expr} {se : Expr}
end
end DL
namespace DL
open PySem PySem.Spec PyProof.Rows L2
section
variable {X : Cx} {k : Nat}
end
end DL
namespace DL
open PySem PySem.Spec PyProof.Rows L2
section
variable {K : PySem.W.Frag} {M : DH} {H H' : Hp} {kvs : List (List Key × D)} {xs : List (List Key × Addr × Value)} {k : List Key}
end
section
variable {X : Cx} {pins : List (Addr × Obj)} {σ : St} {H : Hp} {s : Shared} {a b : Addr} {k : List Key} {kvs : List (List Key × D)} {xs : List (List Key × Addr × Value)}
end
section
variable {X : Cx} {a b o : Expr} {pos : Pos} {ta tb : TEd} {n : Nat}
end
end DL
namespace DL
open PySem PySem.Spec PyProof.Rows L2
section
variable {X : Cx} {tg elt iter : Expr} {ifs : List Expr} {scope : Scope} {pos : Pos} {js : List (Option Nat)} {Nc : List Str} {cl : List (Str × Addr)}
end
section
variable {X : Cx} {k : Nat}
end
end DL
namespace DL
open PySem PySem.Spec PyProof.Rows L2
section
variable {X : Cx}
end
section
variable {prog : Program} {w : World} {A : Around} {R : Result → Shared → Prop} {I : Addr} {fp wr : List Addr} {n : Nat} {P : Nat → Value → Prop} {St : Nat → Heap → Prop} {d : Value}
end
section
variable {X : Cx}
end
section
variable {X : Cx} {tg elt iter : Expr} {ifs : List Expr} {scope : Scope} {pos : Pos} {js : List (Option Nat)} {Nc : List Str} {cl : List (Str × Addr)}
end
end DL
namespace DL
open PySem PySem.Spec PyProof.Rows L2
noncomputable def putFD (f : Str) (d : D) : List (Str × D) → List (Str × D)
  | [] => [(f, d)]
  | (g, x) :: r => if g = f then (g, d) :: r else (g, x) :: putFD f d r
noncomputable abbrev PFD (K : PySem.W.Frag) (H : Hp) : List (Str × V) → List (Str × D) → Prop := Paired fun (p : Str × V) (q : Str × D) => p.1 = q.1 ∧ Is K H p.2 q.2
section
variable {K : PySem.W.Frag} {M : DH} {H H' : Hp} {fx : List (Str × V)} {fs : List (Str × D)} {f : Str} {a C dx : Addr}
theorem pfd_some (r : PFD K H fx fs) {d : D} (e : fs.lookup f = some d) : ∃ v, fx.lookup f = some v ∧ Is K H v d := by
  induction r with
  | nil => cases e
  | @cons p q ps qs h t ih =>
    obtain ⟨p1, p2⟩ := p
    obtain ⟨q1, q2⟩ := q
    have h1 : p1 = q1 := h.1
    subst h1
    by_cases z : f = p1
    · subst z
      have e' : List.lookup f ((f, q2) :: qs) = some q2 := by simp [List.lookup]
      rw [e'] at e
      cases e
      exact ⟨p2, by simp [List.lookup], h.2⟩
    · have z' : (f == p1) = false := by simpa using z
      have e1 : List.lookup f ((p1, q2) :: qs) = List.lookup f qs := by simp [List.lookup, z']
      have e2 : List.lookup f ((p1, p2) :: ps) = List.lookup f ps := by simp [List.lookup, z']
      rw [e1] at e
      rw [e2]
      exact ih e
theorem pfd_none (r : PFD K H fx fs) (e : fs.lookup f = none) : fx.lookup f = none := by
  induction r with
  | nil => rfl
  | @cons p q ps qs h t ih =>
    obtain ⟨p1, p2⟩ := p
    obtain ⟨q1, q2⟩ := q
    have h1 : p1 = q1 := h.1
    subst h1
    by_cases z : f = p1
    · subst z
      have e' : List.lookup f ((f, q2) :: qs) = some q2 := by simp [List.lookup]
      rw [e'] at e
      cases e
    · have z' : (f == p1) = false := by simpa using z
      have e1 : List.lookup f ((p1, q2) :: qs) = List.lookup f qs := by simp [List.lookup, z']
      have e2 : List.lookup f ((p1, p2) :: ps) = List.lookup f ps := by simp [List.lookup, z']
      rw [e1] at e
      rw [e2]
      exact ih e
theorem pfd_put (r : PFD K H fx fs) {v : V} {d : D} (i : Is K H v d) : PFD K H (putF f v fx) (putFD f d fs) := by
  induction r with
  | nil => exact .cons ⟨rfl, i⟩ .nil
  | @cons p q ps qs h t ih =>
    obtain ⟨p1, p2⟩ := p
    obtain ⟨q1, q2⟩ := q
    have h1 : p1 = q1 := h.1
    subst h1
    show PFD K H (if p1 = f then (p1, v) :: ps else (p1, p2) :: putF f v ps) (if p1 = f then (p1, d) :: qs else (p1, q2) :: putFD f d qs)
    by_cases z : p1 = f
    · rw [if_pos z, if_pos z]; exact .cons ⟨rfl, i⟩ t
    · rw [if_neg z, if_neg z]; exact .cons h ih
theorem pfd_mono0 (e : Ext0 K H H') (r : PFD K H fx fs) : PFD K H' fx fs := r.impP fun _ _ ⟨r1, r2⟩ => ⟨r1, r2.mono0 e⟩
theorem HAbs.setI {v : V} {d : D} (h : HAbs K M H) (hx : H a = some (.ins C dx fx)) (ho : H dx = some (.own a)) (hp : PFD K H fx fs) (i : Is K H v d) :
    HAbs K (updM M a (.ins C dx (putFD f d fs))) (upd H a (.ins C dx (putF f v fx))) ∧ Ext K H (upd H a (.ins C dx (putF f v fx))) := by
  have ex : Ext K H (upd H a (.ins C dx (putF f v fx))) := ext_upd (fun zs s => by rcases s with s | ⟨u, s⟩ <;> rw [hx] at s <;> cases s) (fun u xs s => by rw [hx] at s; cases s)
  refine ⟨fun c o q => ?_, ex⟩
  by_cases z : c = a
  · subst z; rw [updM_same] at q; cases q
    exact ⟨_, upd_same, by rw [upd_ne (ne_of ho hx (by intro k; cases k))]; exact ho, pfd_mono0 ex.e0 (pfd_put hp i)⟩
  · rw [updM_ne z] at q
    exact (h c o q).mono ex.e0 (fun v w => by rw [upd_ne z]; exact w) (fun dx w => by rw [upd_ne (ne_of w hx (by intro k; cases k))]; exact w)
theorem HAbs.made {x : Addr} (h : HAbs K M H) (nx : H x = none) (nd : H dx = none) (ne : dx ≠ x) : HAbs K (updM M x (.ins C dx [])) (upd (upd H dx (.own x)) x (.ins C dx [])) ∧ Ext K H (upd (upd H dx (.own x)) x (.ins C dx [])) := by
  have n1 : upd H dx (.own x) x = none := by rw [upd_ne (Ne.symm ne)]; exact nx
  refine ⟨(h.new nd).newM n1 (show MOk K _ x (.ins C dx []) from ⟨[], upd_same, by rw [upd_ne ne, upd_same], .nil⟩), (ext_new nd).trans (ext_new n1)⟩
end
section
variable {X : Cx} {e o value : Expr} {es : List Expr} {f m : Str} {pos pos' apos tpos : Pos} {te to tv : TEd} {t : TAd} {C : Addr} {k : Nat}
noncomputable def eFld (C : Addr) (f : Str) (to : TEd) : TEd := fun τ M Q => to τ M fun x M1 => ∃ a dx fs d, x = .ref a ∧ M1 a = some (.ins C dx fs) ∧ fs.lookup f = some d ∧ Q d M1
theorem d_fld (c : Cls X.K C) (n : NoAttr X.K C f) (he : PE X e (low X.K te)) (hb : attributeBase e f X.env (eval e X.env) = eval e X.env := by rfl) : PE X (.Attribute e f pos) (low X.K (eFld C f te)) :=
  (pe_fld he hb).imp fun σ H Q ⟨τ, M, Q', hs, hm, h, hq⟩ => ⟨τ, M, _, hs, hm, h, fun x M1 v H1 m1 e1 i1 ⟨a, dx, fs, d, ex, ha, hl, q⟩ => by
    subst ex
    (first | cases i1.inv | cases i1)
    obtain ⟨fx, h1, h2, h3⟩ := m1 a _ ha
    obtain ⟨v, hv, iv⟩ := pfd_some h3 hl
    exact ⟨a, C, dx, fx, v, rfl, h1, c, n, hv, hq _ _ _ _ m1 e1 iv q⟩⟩
noncomputable def sFldD (C : Addr) (f : Str) (to tv : TEd) : TSd := fun E τ M => tv τ M fun y M1 => to τ M1 fun x M2 => ∃ a dx fs, x = .ref a ∧ M2 a = some (.ins C dx fs) ∧ fs.length < 1000 ∧ E.nx τ (updM M2 a (.ins C dx (putFD f y fs)))
theorem s_fld (c : Cls X.K C) (n : NoAttr X.K C f) (ho : PE X o (low X.K to)) (hv : PE X value (low X.K tv)) (hs : swapsWith value (some (.Attribute o f pos')) pos.line X.env = pure false := by rfl) : PS X (.Assign [.Attribute o f pos'] value pos) (lowS X.K (sFldD C f to tv)) :=
  (ps_fld ho hv hs).imp fun D σ H ⟨τ, M, D', hs, hm, h, hd⟩ => ⟨τ, M, _, hs, hm, h, fun y M1 vy H1 m1 e1 i1 h1 => ⟨τ, M1, _, hs.mono e1, m1, h1, fun x M2 vx H2 m2 e2 i2 ⟨a, dx, fs, ex, ha, hl, q⟩ => by
    subst ex
    (first | cases i2.inv | cases i2)
    obtain ⟨fx, g1, g2, g3⟩ := m2 a _ ha
    obtain ⟨m3, e3⟩ := m2.setI (f := f) g1 g2 g3 (i1.mono e2)
    have e12 := e1.trans e2
    exact ⟨a, C, dx, fx, rfl, g1, c, n, by rw [Paired.length g3]; exact hl, hd.nx _ _ _ _ (hs.mono (e12.trans e3)) m3 (e12.trans e3) q⟩⟩⟩
structure FnM (P : Program) (w : World) (K : PySem.W.Frag) (mg : Str → Option Value) (base : Heap) (C : Addr) (k : Nat) (m : Str) (ps : List Str) (sp : SpD) : Prop where
  ex : ∃ f fd, FnOk P w K mg base CX0 k f fd ps (lowSp K sp) ∧ Meth K C m f ∧ Binds K fd ps []
noncomputable def eMeth (C : Addr) (m : Str) (sp : SpD) (to : TEd) (t : TAd) : TEd := fun τ M Q => to τ M fun x M1 => ∃ a dx fs, x = .ref a ∧ M1 a = some (.ins C dx fs) ∧ fs.lookup m = none ∧ t τ M1 fun ds M2 => sp (.ref a :: ds) M2 Q
noncomputable def eMeth0 (C : Addr) (m : Str) (sp : SpD) (to : TEd) : TEd := fun τ M Q => to τ M fun x M1 => ∃ a dx fs, x = .ref a ∧ M1 a = some (.ins C dx fs) ∧ fs.lookup m = none ∧ sp [.ref a] M1 Q
theorem d_meth {ps : List Str} {sp : SpD} {pl : Sem Bool} (c : Cls X.K C) (F : FnM X.prog X.w X.K X.mg X.base C k m ps sp) (hr : Room k X.A) (ho : PE X o (low X.K to)) (ha : PA X (e :: es) (lowA X.K t))
    (hst : starEach (e :: es) X.env = (false, eval e X.env) :: starEach es X.env := by rfl) (hpl : (backTo pos (starEach es X.env)).any (·.1) = false := by rfl)
    (ht : eval (.Call (.Attribute o m apos) (e :: es) [] pos) X.env = (do
      let ov ← eval o X.env
      standAt apos.atName
      let (f, first) ← holding [ov] (getMethod ov m pl)
      callWith pos f first (backTo pos (starEach (e :: es) X.env)) (backToKw pos (keywordEach [] X.env))) := by rfl) :
    PE X (.Call (.Attribute o m apos) (e :: es) [] pos) (low X.K (eMeth C m sp to t)) := by
  obtain ⟨f, fd, F, hm, hb⟩ := F.ex
  refine (pe_meth (E := E0) (pl := pl) ho c hm F hr hb .nil pass0 ha hst hpl ht).imp fun σ H Q zz0 => ?_
  obtain ⟨τ, M, Q', hs, hm, h, hq⟩ := zz0
  refine ⟨τ, M, _, hs, hm, h, fun x M1 v H1 m1 e1 i1 zz0 => ?_⟩
  obtain ⟨a, dx, fs, ex, hx, hl, q⟩ := zz0
  subst ex
  (first | cases i1.inv | cases i1)
  obtain ⟨fx, h1, h2, h3⟩ := m1 a _ hx
  refine ⟨a, dx, fx, rfl, h1, pfd_none h3 hl, τ, M1, _, hs.mono e1, m1, q, fun ds M2 vs H2 m2 e2 i2 h4 => ?_⟩
  show lowSp X.K sp (.ref a :: (vs ++ [])) H2 Q E0
  rw [List.append_nil]
  exact ⟨.ref a :: ds, M2, Q', .cons (.ref a) i2, m2, h4, hq.ext (e1.trans e2)⟩
theorem d_meth0 {ps : List Str} {sp : SpD} {pl : Sem Bool} (c : Cls X.K C) (F : FnM X.prog X.w X.K X.mg X.base C k m ps sp) (hr : Room k X.A) (ho : PE X o (low X.K to))
    (ht : eval (.Call (.Attribute o m apos) [] [] pos) X.env = (do
      let ov ← eval o X.env
      standAt apos.atName
      let (f, first) ← holding [ov] (getMethod ov m pl)
      callWith pos f first (backTo pos (starEach [] X.env)) (backToKw pos (keywordEach [] X.env))) := by rfl) :
    PE X (.Call (.Attribute o m apos) [] [] pos) (low X.K (eMeth0 C m sp to)) := by
  obtain ⟨f, fd, F, hm, hb⟩ := F.ex
  refine (pe_meth0 (E := E0) (pl := pl) ho c hm F hr hb .nil pass0 ht).imp fun σ H Q zz0 => ?_
  obtain ⟨τ, M, Q', hs, hm, h, hq⟩ := zz0
  refine ⟨τ, M, _, hs, hm, h, fun x M1 v H1 m1 e1 i1 zz0 => ?_⟩
  obtain ⟨a, dx, fs, ex, hx, hl, q⟩ := zz0
  subst ex
  (first | cases i1.inv | cases i1)
  obtain ⟨fx, h1, h2, h3⟩ := m1 a _ hx
  refine ⟨a, dx, fx, rfl, h1, pfd_none h3 hl, ?_⟩
  exact ⟨[.ref a], M1, Q', .cons (.ref a) .nil, m1, q, hq.ext e1⟩
structure FnI (P : Program) (w : World) (K : PySem.W.Frag) (mg : Str → Option Value) (base : Heap) (C : Addr) (k : Nat) (ps : List Str) (sp : SpD) : Prop where
  ex : ∃ f fd, FnOk P w K mg base CX0 k f fd ps (lowSp K sp) ∧ Mk K C f ∧ Binds K fd ps []
end
noncomputable def StandsM (K : PySem.W.Frag) (C : Addr) (m qual : Str) (st : Stmt) (ps : List Str) : Prop := ∃ f fd, Fun K m qual st f fd ∧ Binds K fd ps [] ∧ Meth K C m f
noncomputable def StandsI (K : PySem.W.Frag) (C : Addr) (qual : Str) (st : Stmt) (ps : List Str) : Prop := ∃ f fd, Fun K "__init__" qual st f fd ∧ Binds K fd ps [] ∧ Mk K C f
section
variable {P : Program} {w : World} {K : PySem.W.Frag} {mg : Str → Option Value} {base : Heap}
theorem def_okM {C : Addr} {m qual : Str} {st : Stmt} {N ps : List Str} {k : Nat} {sp : SpD} (T : StandsM K C m qual st ps) (S : FnScope N ps (defScope st)) (len : ∀ ds M Q, sp ds M Q → ds.length = ps.length)
    (hbody : ∀ (f : Addr) (cdv : Value) (A : Around) (outer : List Env) (s : Shared) (H : Hp) (E : XK), Room k (A.deeper (envOfC qual (defScope st) s.heap.objs.size f cdv)) →
      ∃ t : TSd, PSs (cxOf CX0 P w K mg base N qual (defScope st) f cdv A outer s H E).nox (defBody st) (lowS K t) ∧ ∀ ds M Q, sp ds M Q → t (endsOf Q) (startD N ds) M) : FnM P w K mg base C (k + 1) m ps sp := by
  obtain ⟨f, fd, F, hb, hm⟩ := T
  exact ⟨f, fd, def_fn F S len (hbody f), hm, hb⟩
theorem def_okI {C : Addr} {qual : Str} {st : Stmt} {N ps : List Str} {k : Nat} {sp : SpD} (T : StandsI K C qual st ps) (S : FnScope N ps (defScope st)) (len : ∀ ds M Q, sp ds M Q → ds.length = ps.length)
    (hbody : ∀ (f : Addr) (cdv : Value) (A : Around) (outer : List Env) (s : Shared) (H : Hp) (E : XK), Room k (A.deeper (envOfC qual (defScope st) s.heap.objs.size f cdv)) →
      ∃ t : TSd, PSs (cxOf CX0 P w K mg base N qual (defScope st) f cdv A outer s H E).nox (defBody st) (lowS K t) ∧ ∀ ds M Q, sp ds M Q → t (endsOf Q) (startD N ds) M) : FnI P w K mg base C (k + 1) ps sp := by
  obtain ⟨f, fd, F, hb, hm⟩ := T
  exact ⟨f, fd, def_fn F S len (hbody f), hm, hb⟩
end
end DL
namespace DL
open PySem PySem.Spec PyProof.Rows L2
section
variable {X : Cx}
noncomputable def numT (n : Int) : Str := Str.ofString (toString n)
noncomputable def strD : List D → DH → KD → Prop
  | [.int n], M, Q => (0 ≤ n ∧ n < 10 ^ 10) ∧ Q (.str (numT n)) M
  | _, _, _ => False
theorem cd_str : CallD X (.type "str") strD := by
  rintro pins s σ H vs us Q I r ⟨ds, M, Q', iss, hm, q, hq⟩
  match ds, q, iss with
  | [.int n], q, iss =>
    obtain ⟨v, rfl, i⟩ := iss1 iss
    (first | cases i.inv | cases i)
    obtain ⟨u, rfl, t, rfl⟩ := vals1 r
    obtain ⟨⟨q0, q1⟩, q⟩ := q
    refine str_of_int_fit (N := 10 ^ 10) (by rw [if_neg (by (first | lia | omega))]; exact q1) (by decide) fun _ => ?_
    exact ⟨.str _, H, I.tok _, ⟨_, rfl⟩, hq.here hm (.str _) q⟩
end
noncomputable def tx (cs : List Nat) : Str := ⟨cs.toArray⟩
end DL
namespace DL
open PySem PySem.Spec PyProof.Rows L2
structure FnME (P : Program) (w : World) (K : PySem.W.Frag) (mg : Str → Option Value) (base : Heap) (C : Addr) (k : Nat) (m : Str) (ps : List Str) (sp : SpE) : Prop where
  ex : ∃ f fd, FnOk P w K mg base (CXE P w) k f fd ps (lowSpE K sp) ∧ Meth K C m f ∧ Binds K fd ps []
theorem FnME.mono {P : Program} {w : World} {K : PySem.W.Frag} {mg : Str → Option Value} {base : Heap} {C : Addr} {j k : Nat} {m : Str} {ps : List Str} {sp : SpE} (F : FnME P w K mg base C j m ps sp) (h : j ≤ k) : FnME P w K mg base C k m ps sp :=
  let ⟨f, fd, a, b, c⟩ := F.ex; ⟨f, fd, a.mono h, b, c⟩
section
variable {P : Program} {w : World} {K : PySem.W.Frag} {mg : Str → Option Value} {base : Heap}
theorem def_okME {C : Addr} {m qual : Str} {st : Stmt} {N ps : List Str} {k : Nat} {sp : SpE} (T : StandsM K C m qual st ps) (S : FnScope N ps (defScope st)) (len : ∀ ds M Q E, sp ds M Q E → ds.length = ps.length)
    (hbody : ∀ (f : Addr) (cdv : Value) (A : Around) (outer : List Env) (s : Shared) (H : Hp) (E : XK) (EX : Value → DH → Prop), Room k (A.deeper (envOfC qual (defScope st) s.heap.objs.size f cdv)) →
      XOk (cxOf (CXE P w) P w K mg base N qual (defScope st) f cdv A outer s H E) (fun _ => EX) →
      PassesOwn (model P w) (A.deeper (envOfC qual (defScope st) s.heap.objs.size f cdv)) (envOfC qual (defScope st) s.heap.objs.size f cdv) (cxOf (CXE P w) P w K mg base N qual (defScope st) f cdv A outer s H E).xe →
      ∃ t : TSd, PSs (cxOf (CXE P w) P w K mg base N qual (defScope st) f cdv A outer s H E) (defBody st) (lowS K t) ∧ ∀ ds M Q, sp ds M Q EX → t (endsOf Q) (startD N ds) M) : FnME P w K mg base C (k + 1) m ps sp := by
  obtain ⟨f, fd, F, hb, hm⟩ := T
  refine ⟨f, fd, ?_, hm, hb⟩
  obtain ⟨oc, od, kV, doc, pm, an, cdv, ct, osl, rfl, lk, hcd⟩ := F.ex
  refine fn_of lk hcd S (fun vs H Q E h => ?_) fun A outer s H vs Q E hr h => ?_
  · obtain ⟨ds, M, Q', E', i, _, q, _⟩ := h
    rw [i.length]
    exact len _ _ _ _ q
  · obtain ⟨ds, M, Q', E', i, hm, q, hq, hE⟩ := h
    obtain ⟨t, h1, h2⟩ := hbody f cdv A outer s H E E' hr (xok_body hE) passes_body
    refine ⟨_, h1, startD N ds, M, endsOf Q', start_abs i, hm, h2 _ _ _ q, ⟨?_, ?_, ?_, ?_⟩⟩
    · rintro τ M1 σ H1 s1 m1 e1 ⟨M0, sub, q0⟩
      exact hq _ M0 _ H1 (m1.sub sub) e1 .non q0
    · rintro d M1 v H1 m1 e1 i1 ⟨M0, sub, q0⟩
      exact hq d M0 v H1 (m1.sub sub) e1 i1 q0
    · intro τ M1 σ H1 _ _ _ q0; exact q0.elim
    · intro τ M1 σ H1 _ _ _ q0; exact q0.elim
end
section
variable {X : Cx} {e o : Expr} {es : List Expr} {m : Str} {pos apos : Pos} {to : TEd} {t : TAd} {C : Addr} {k : Nat} {EX : DSt → Value → DH → Prop}
noncomputable def eMethE (C : Addr) (m : Str) (sp : SpE) (EX : DSt → Value → DH → Prop) (to : TEd) (t : TAd) : TEd := fun τ M Q => to τ M fun x M1 => ∃ a dx fs, x = .ref a ∧ M1 a = some (.ins C dx fs) ∧ fs.lookup m = none ∧ t τ M1 fun ds M2 => sp (.ref a :: ds) M2 Q fun cls M3 => ∃ M0, Sub M0 M3 ∧ EX τ cls M0
theorem run_methE {pins : List (Addr × Obj)} {τ : DSt} {σ : St} {H : Hp} {s : Shared} {Q : VK} {Q' : KD} {f a : Addr} {fd : FuncData} {ps : List Str} {sp : SpE} {us : List Value} {vs : List V} {ds : List D} {M : DH} (F : FnOk X.prog X.w X.K X.mg X.base (CXE X.prog X.w) k f fd ps (lowSpE X.K sp)) (hx : XCame X EX) (hr : Room k X.A) (hb : Binds X.K fd ps [])
    (I : Inv X pins σ H s) (hs : SAbs X.K τ σ H) (hm : HAbs X.K M H) (r : Vals vs us) (i : Iss X.K H vs ds) (hq : lowQ X.K H Q' Q) (h : sp (.ref a :: ds) M Q' fun cls M3 => ∃ M0, Sub M0 M3 ∧ EX τ cls M0) :
    wpAny (model X.prog X.w) X.A (call (.ref f) (.ref a :: us)) (EP X pins σ Q) X.xe s := by
  have h2 : lowSpE X.K sp (.ref a :: vs) H Q fun cls _ H2 => ∃ M2, HAbs X.K M2 H2 ∧ EX τ cls M2 := ⟨.ref a :: ds, M, Q', _, .cons (.ref a) i, hm, h, hq, fun cls M2 H2 m2 _ ⟨M0, sub, q⟩ => ⟨M0, m2.sub sub, q⟩⟩
  have r2 : Vals (V.ref a :: vs) (Value.ref a :: us) := .cons rfl r
  have hl : (Value.ref a :: us).length = ps.length := by rw [← r2.length]; exact F.len _ _ _ _ h2
  have hbn := hb s (Value.ref a :: us) I.kIn (by rw [List.append_nil]; exact hl)
  rw [List.append_nil] at hbn
  refine wpAny_call (codeAny_mono (F.run X.A X.stack s H ⟨Value.ref a :: us, []⟩ (Value.ref a :: us) (V.ref a :: vs) Q _ hr I.env0 hbn r2 h2) fun rr s' hq' => ?_)
  cases rr with
  | error e => exact hx.came pins τ σ H s (fun cls _ H2 => ∃ M2, HAbs X.K M2 H2 ∧ EX τ cls M2) e s' I hs hq' fun cls H2 z => z
  | ok fl =>
    cases fl with
    | ret u => exact I.after hq'
    | next => exact False.elim hq'
    | brk => exact False.elim hq'
    | cont => exact False.elim hq'
theorem d_methE {ps : List Str} {sp : SpE} {pl : Sem Bool} (c : Cls X.K C) (F : FnME X.prog X.w X.K X.mg X.base C k m ps sp) (hx : XCame X EX) (hr : Room k X.A) (ho : PE X o (low X.K to)) (ha : PA X (e :: es) (lowA X.K t))
    (hst : starEach (e :: es) X.env = (false, eval e X.env) :: starEach es X.env := by rfl) (hpl : (backTo pos (starEach es X.env)).any (·.1) = false := by rfl)
    (ht : eval (.Call (.Attribute o m apos) (e :: es) [] pos) X.env = (do
      let ov ← eval o X.env
      standAt apos.atName
      let (f, first) ← holding [ov] (getMethod ov m pl)
      callWith pos f first (backTo pos (starEach (e :: es) X.env)) (backToKw pos (keywordEach [] X.env))) := by rfl) :
    PE X (.Call (.Attribute o m apos) (e :: es) [] pos) (low X.K (eMethE C m sp EX to t)) := by
  obtain ⟨f, fd, F, hme, hb⟩ := F.ex
  rintro pins s σ H Q I ⟨τ, M, Q', hs, hm, h, hq⟩
  have hO := ho pins s σ H (fun v H1 => ∃ a dx fs M1, v = .ref a ∧ M1 a = some (.ins C dx fs) ∧ fs.lookup m = none ∧ HAbs X.K M1 H1 ∧ Ext X.K H H1 ∧ t τ M1 fun ds M2 => sp (.ref a :: ds) M2 Q' fun cls M3 => ∃ M0, Sub M0 M3 ∧ EX τ cls M0) I
    ⟨τ, M, _, hs, hm, h, fun x M1 v H1 m1 e1 i1 ⟨a, dx, fs, ex, hx, hl, q⟩ => by subst ex; (first | cases i1.inv | cases i1); exact ⟨a, dx, fs, M1, rfl, hx, hl, m1, e1, q⟩⟩
  refine PySem.W.methodCall_KW (pl := pl) (thn hO fun u s1 zz0 => ?_) ht
  obtain ⟨x, H1, I1, rx, a, dx, fs, M1, ex, ea, l, m1, e1, q⟩ := zz0
  subst ex
  obtain rfl : u = Value.ref a := rx
  obtain ⟨fx, h1, h2, h3⟩ := m1 a _ ea
  refine getmeth_ok I1 h1 c hme (pfd_none h3 l) ?_
  have hA := ha pos pins s1 σ H1 (fun vs H2 => ∃ ds M2, HAbs X.K M2 H2 ∧ Ext X.K H1 H2 ∧ Iss X.K H2 vs ds ∧ sp (.ref a :: ds) M2 Q' fun cls M3 => ∃ M0, Sub M0 M3 ∧ EX τ cls M0) I1
    ⟨τ, M1, _, hs.mono e1, m1, q, fun ds M2 vs H2 m2 e2 i2 h2 => ⟨ds, M2, m2, e2, i2, h2⟩⟩
  refine PySem.W.callWith_K (first := [.ref a]) (h₀ := X.base) I.ok.mod.kin hme.kp (thn hA fun us s2 zz0 => ?_) hst hpl
  obtain ⟨vs, H2, I2, r, ⟨ds, M2, m2, e2, i2, h4⟩⟩ := zz0
  refine ⟨I2.kIn, ?_⟩
  exact run_methE F hx hr hb I2 (hs.mono (e1.trans e2)) m2 r i2 (hq.ext (e1.trans e2)) h4
end
section
variable {X : Cx}
end
end DL
namespace DL
open PySem PySem.Spec PyProof.Rows L2
section
variable {X : Cx} {tg elt a : Expr} {scope : Scope} {pos p cpos : Pos} {js : List (Option Nat)} {Nc : List Str} {cl : List (Str × Addr)}
noncomputable def compRW (g : TGd) (te : TEd) (js : List (Option Nat)) (τ : DSt) : List D → DH → KD → Prop
  | [.int j], M, Q => (-(2 ^ 62) ≤ j ∧ j ≤ 1000000) ∧ ∀ l, M l = none → ∃ W : Nat → List D → DH → Prop, W 0 [] (updM M l (.lst [])) ∧
      (∀ (i : Nat) xs M', i < j.toNat → W i xs M' → xs.length = i ∧ g (.int i) (pick js τ) M' fun τ4 M4 => Fgt (pick js τ) τ4 ∧ te τ4 M4 fun y M6 => M6 l = some (.lst xs) ∧ W (i + 1) (xs ++ [y]) (updM M6 l (.lst (xs ++ [y])))) ∧
      ∀ xs M', W j.toNat xs M' → Q (.ref l) M'
  | _, _, _ => False
noncomputable def eCompRW (ta : TAd) (g : TGd) (te : TEd) (js : List (Option Nat)) : TEd := fun τ M Q => ta τ M fun vs M1 => compRW g te js τ vs M1 Q
theorem low_compRW {K : PySem.W.Frag} {ta : TAd} {ted : TEd} {gd : TGd} {σ : St} {H : Hp} {Q : VK} (h : low K (eCompRW ta gd ted js) σ H Q) : tComp (iRng1 (lowA K ta)) (lowG K gd) (fun _ H Q => Q true H) (low K ted) js σ H Q := by
  obtain ⟨τ, M, Q', hs, hm, h, hq⟩ := h
  refine ⟨τ, M, _, hs, hm, h, fun ds M1 vs H1 m1 e1 i1 h1 => ?_⟩
  match ds, h1, i1 with
  | [.int j], h1, i1 =>
    obtain ⟨v, rfl, i⟩ := iss1 i1
    cases i.inv
    obtain ⟨⟨q1, q2⟩, w⟩ := h1
    refine ⟨j, rfl, q1, by (first | lia | omega), fun l hl => ?_⟩
    obtain ⟨W, w0, turn, done⟩ := w l (m1.free hl)
    refine ⟨fun i m σ2 H2 => ∃ xs M', m = j.toNat - i ∧ i ≤ j.toNat ∧ SAbs K (pick js τ) σ2 H2 ∧ HAbs K M' H2 ∧ Ext K H1 H2 ∧ W i xs M', ⟨j.toNat, [], _, rfl, Nat.zero_le _, ((hs.mono e1).pick js).mono (ext_new hl), m1.newL hl .nil, ext_new hl, w0⟩, ?_⟩
    rintro i m σ2 H2 ⟨xs, M2, rfl, hi, s2, m2, e2, w2⟩
    have G := gives_r (K := K) (H := H2) j.toNat
    by_cases hlt : i < j.toNat
    · have hlt' : i < ((List.range j.toNat).map fun i : Nat => D.int (i : Int)).length := by simpa using hlt
      refine .inr ⟨G.go i hlt', fun x H3 y => ?_⟩
      obtain ⟨rfl, d, ed, id⟩ := G.yld i x H3 hlt' y
      rw [List.getElem?_map, List.getElem?_range hlt] at ed
      cases ed
      obtain ⟨hx, tn⟩ := turn i xs M2 hlt w2
      refine ⟨_, _, _, _, id, s2, m2, tn, fun τ4 M4 σ4 H4 s4 m4 e4 zz => ?_⟩
      obtain ⟨fg, q4⟩ := zz
      show if true = true then _ else _
      rw [if_pos rfl]
      refine ⟨τ4, M4, _, s4, m4, q4, fun y M6 v H6 m6 e6 i6 q6 => ?_⟩
      obtain ⟨hl6, w6⟩ := q6
      obtain ⟨ys, hy, iy⟩ := m6 l _ hl6
      obtain ⟨m7, e7⟩ := m6.setL hl6 hy (iy.append (.cons i6 .nil))
      have h3 : sizeLine = 16777216 := sizeLine_eq
      exact ⟨ys, hy, by rw [iy.length, hx]; (first | lia | omega), j.toNat - (i + 1), by (first | lia | omega), xs ++ [y], _, rfl, hlt, ((s4.forget fg).mono e6).mono e7, m7, e2.trans (e4.trans (e6.trans e7)), w6⟩
    · have e : i = j.toNat := by (first | lia | omega)
      subst e
      exact .inl ⟨by have := G.stop; simpa using this, hq _ _ _ _ m2 (e1.trans e2) (.ref l) (done _ _ w2)⟩
theorem d_compRW {ta : TAd} {ted : TEd} {gd : TGd} (O : CompOk X Nc js scope cl) (hc : X.calm = true) (hmr : X.mg "range" = none) (ha : PA X [a] (lowA X.K ta)) (hg : ∀ C s H fp, PG (compCx X Nc scope cl C s H fp) tg (lowG X.K gd)) (he : ∀ C s H fp, PE (compCx X Nc scope cl C s H fp) elt (low X.K ted))
    (hgl : Gl X "range" := by rfl) (hst : starEach [a] X.env = [(false, eval a X.env)] := by rfl) (hs : ∀ x, foldedSetIterable (.Call (.Name "range" p) [a] [] cpos) X.env x = pure x := by intro _; rfl) : PE X (.ListComp elt [⟨tg, .Call (.Name "range" p) [a] [] cpos, [], 0⟩] scope pos) (low X.K (eCompRW ta gd ted js)) :=
  (pe_comp (tt := fun _ H Q => Q true H) O hc (pi_range1 hgl hmr ha hst) hg (fun _ _ _ _ => .inl ⟨rfl, rfl⟩) he hs).imp fun σ H Q h => low_compRW h
end
end DL
namespace DL
open PySem PySem.Spec PyProof.Rows L2
section
variable {X : Cx} {tg elt iter a : Expr} {ifs : List Expr} {scope : Scope} {pos p cpos : Pos} {js : List (Option Nat)} {Nc : List Str} {cl : List (Str × Addr)}
theorem ifs_v (hif : ∀ C s H fp, DIfs (compCx X Nc scope cl C s H fp) ifs ttd) (s0 : Shared) (H0 : Hp) : ∃ ttv : TT, (∀ C s H fp, PIfs (compCx X Nc scope cl C s H fp) ifs ttv) ∧ ∀ σ H R, lowT X.K ttd σ H R → ttv σ H R := by
  rcases hif 0 s0 H0 [] with ⟨e1, e2⟩ | ⟨c, e1, _⟩
  · subst e1 e2
    refine ⟨_, fun _ _ _ _ => .inl ⟨rfl, rfl⟩, fun σ H R zz => ?_⟩
    obtain ⟨τ, M, Q', _, hm, h, hq⟩ := zz
    exact hq true M H hm (Ext.refl H) h
  · subst e1
    refine ⟨lowT X.K ttd, fun C s H fp => ?_, fun σ H R h => h⟩
    rcases hif C s H fp with ⟨e1, _⟩ | ⟨c', e1, h⟩
    · cases e1
    · cases e1
      exact .inr ⟨c, rfl, h⟩
theorem s_setL {i : Nat} {y : Str} {py spos : Pos} {ti ted : TEd} {gd : TGd} {ttd : TTd} (hN : X.N.Nodup) (O : CompOk X Nc js scope cl) (hc : X.calm = true) (hit : PE X iter (low X.K ti)) (hg : ∀ C s H fp, PG (compCx X Nc scope cl C s H fp) tg (lowG X.K gd)) (hif : ∀ C s H fp, DIfs (compCx X Nc scope cl C s H fp) ifs ttd) (he : ∀ C s H fp, PE (compCx X Nc scope cl C s H fp) elt (low X.K ted))
    (hi : X.N[i]? = some y := by rfl) (hx : Loc X.env.scope y := by first | exact Or.inl rfl | exact Or.inr rfl) (hs : ∀ x, foldedSetIterable iter X.env x = pure x := by intro _; rfl)
    (hsw : swapsWith (.ListComp elt [⟨tg, iter, ifs, 0⟩] scope pos) (some (.Name y py)) spos.line X.env = pure true := by rfl) (hf : X.fn y = true ∨ X.env.scope.names.lookup y = some .local := by first | exact .inl rfl | exact .inr rfl | assumption) :
    PS X (.Assign [.Name y py] (.ListComp elt [⟨tg, iter, ifs, 0⟩] scope pos) spos) (lowS X.K (sAsg (eComp ti gd ttd ted js) (hName i))) := by
  intro pins s0 σ0 H0 D0 I0 hw
  obtain ⟨ttv, hif', htt⟩ := ifs_v hif s0 H0
  refine ((ps_setC O hc hN hi hx (pi_any hit) hg hif' he hs hsw hf).imp (t' := lowS X.K (sAsg (eComp ti gd ttd ted js) (hName i))) fun D σ H zz => ?_) pins s0 σ0 H0 D0 I0 hw
  obtain ⟨τ, M, D', hs, hm, h, hd⟩ := zz
  have hq : ∀ H1, Ext X.K H H1 → lowQ X.K H (fun x M1 => D'.nx (τ.set i (some x)) M1) (fun v H1 => D.nx (σ.set i (some v)) H1) := fun _ _ x M1 v H1 m1 e1 i1 q => hd.nx _ M1 _ H1 ((hs.mono e1).set i1) m1 e1 q
  refine ⟨τ, M, _, hs, hm, h, fun x M1 v H1 m1 e1 i1 h1 => ?_⟩
  cases i1 with
  | @tup a xs ds hx hxs => exact .inl ⟨a, rfl, .inr ⟨⟨xs, hx⟩, low_comp (hs.mono e1) e1 m1 (hq _ e1) htt (fun l M2 H2 m2 e2 _ _ => gives_tup (e2.t _ _ hx) (hxs.mono e2)) h1⟩⟩
  | @rol a xs ds hx hxs => exact .inl ⟨a, rfl, .inl ⟨⟨xs, hx.sq⟩, low_comp (hs.mono e1) e1 m1 (hq _ e1) htt (fun l M2 H2 m2 e2 _ _ => gives_list (e2.f _ _ hx).sq (hxs.mono e2)) h1⟩⟩
  | str z => exact .inr ⟨z, rfl, low_comp (hs.mono e1) e1 m1 (hq _ e1) htt (fun l M2 H2 m2 e2 _ _ => gives_str z) h1⟩
  | ref l0 =>
    obtain ⟨ds, hl, w⟩ := h1
    obtain ⟨xs, hx, hxs⟩ := m1 l0 _ hl
    exact .inl ⟨l0, rfl, .inl ⟨⟨xs, SqL.of hx⟩, low_comp (hs.mono e1) e1 m1 (hq _ e1) htt (fun l M2 H2 m2 e2 hk _ => let ⟨ys, hy, iy⟩ := m2.lst (hk l0 ds hl); gives_list hy iy) w⟩⟩
  | _ => exact h1.elim
end
end DL
namespace DL
open PySem PySem.Spec PyProof.Rows L2
section
variable {X : Cx}
end
end DL
namespace DL
open PySem PySem.Spec PyProof.Rows L2
section
variable {X : Cx} {elts : List Expr} {k : Nat} {tpos pos : Pos} {g : TGd} {tb : TSd}
end
end DL
namespace DL
open PySem PySem.Spec PyProof.Rows L2
section
variable {P : Program} {w : World} {K : PySem.W.Frag} {mg : Str → Option Value} {base : Heap} {N : List Str} {qual : Str} {scope : Scope} {f : Addr} {cd : Value} {A : Around} {outer : List Env} {s₀ : Shared} {H₀ : Hp} {E : XK} {EX : Value → DH → Prop}
end
section
variable {P : Program} {w : World} {K : PySem.W.Frag} {mg : Str → Option Value} {base : Heap}
end
section
variable {X : Cx} {pins : List (Addr × Obj)} {σ : St} {C : Addr} {EX : Value → DH → Prop} {e : Value} {s' : Shared}
end
section
variable {X : Cx} {tg elt iter : Expr} {scope : Scope} {pos : Pos} {wi : TI} {g : TG} {te : TE} {js : List (Option Nat)} {Nc : List Str} {cl : List (Str × Addr)} {EX : Value → DH → Prop}
end
end DL
namespace DL
open PySem PySem.Spec PyProof.Rows L2
section
variable {X : Cx} {k : Nat}
end
end DL
namespace DL
open PySem PySem.Spec PyProof.Rows L2
section
variable {X : Cx} {k : Nat}
noncomputable def tNever : TEd := fun _ _ _ => False
theorem d_never {e : Expr} : PE X e (low X.K tNever) := fun _ _ _ _ _ _ zz => by
  obtain ⟨_, _, _, _, _, h, _⟩ := zz
  exact h.elim
theorem strs_are {vs : List Value} : ∀ {ss : List Str}, Vals (ss.map V.str) vs → StrsAre vs ss := by
  induction vs with
  | nil => intro ss h; cases ss with
    | nil => exact .nil
    | cons x r => cases h
  | cons v vs ih => intro ss h; cases ss with
    | nil => cases h
    | cons x r =>
      cases h with
      | cons h t =>
        obtain ⟨tk, e⟩ := (show ∃ t, v = Value.str x t from h)
        subst e
        exact .cons x tk (ih t)
theorem vals_strs : ∀ {us : List Value} {ss : List Str}, StrsAre us ss → Vals (ss.map V.str) us
  | _, _, .nil => .nil
  | _, _, .cons n t h => .cons ⟨t, rfl⟩ (vals_strs h)
theorem iss_strs {K : PySem.W.Frag} {H : Hp} : ∀ ss : List Str, Iss K H (ss.map V.str) (ss.map D.str)
  | [] => .nil
  | n :: ns => .cons (.str n) (iss_strs ns)
theorem is_strs {K : PySem.W.Frag} {H : Hp} : ∀ {ss : List Str} {ys : List V}, Iss K H ys (ss.map D.str) → ys = ss.map V.str
  | [], _, h => by cases h; rfl
  | s :: ss, _, h => by
    cases h with
    | cons h t =>
      cases h.inv
      rw [is_strs t]; rfl
noncomputable def sortSD : List D → DH → KD → Prop
  | [.ref l], M, Q => ∃ ss : List Str, (LstAt M l (ss.map .str) ∨ ∃ kvs, DicAt M l kvs ∧ kvs.map (·.1) = ss.map Sum.inr) ∧ ss.length < 64 ∧ ∀ p (ss' : List Str), M p = none → ss'.Perm ss → sortedS ss' = true → Q (.ref p) (updM M p (.lst (ss'.map .str)))
  | _, _, _ => False
theorem keysS {K : PySem.W.Frag} {H : Hp} : ∀ {kx : List (Key × V)} {kvs : List (Key × D)} {ns : List Str}, PKD K H kx kvs → kvs.map (·.1) = ns.map Sum.inr → (kx.map fun kv => kV kv.1) = ns.map V.str
  | _, _, [], .nil, _ => rfl
  | _, _, _ :: _, .nil, h => by cases h
  | _, _, [], .cons _ _, h => by cases h
  | (k, v) :: kx, (k', d) :: kvs, n :: ns, .cons h t, e => by
    have e1 : k = k' := h.1
    subst e1
    rw [List.map_cons, List.map_cons] at e
    injection e with e2 e3
    rw [List.map_cons, List.map_cons, keysS t e3]
    show kV k :: _ = _
    have e4 : k = Sum.inr n := e2
    rw [e4]; rfl
theorem cd_sortedS (hc : X.calm = true) : CallD X (.builtin "sorted") sortSD := by
  intro pins s σ H vs us Q I r zz
  obtain ⟨ds, M, Q', iss, hm, q, hq⟩ := zz
  match ds, q, iss with
  | [.ref l], q, iss =>
    obtain ⟨v, rfl, i⟩ := iss1 iss
    cases i.inv
    obtain ⟨u, rfl, rx⟩ := vals1 r
    cases rx
    obtain ⟨ss, hl, h64, q⟩ := q
    have fin : ∀ (h' : Heap) (tk : Nat) (out : Array Value) (ns' : List Str) (e : Nat) (a : Addr) (h1 : Heap), (∀ b o, s.heap.get? b = some o → h1.get? b = some o) → h1.objs.size ≤ a → (∀ b o, h1.get? b = some o → h'.get? b = some o) → h'.get? a = some (seqObj "list" out e) → StrsAre out.toList ns' → ns'.Perm ss → sortedS ns' = true → EP X pins σ Q (.ref a) { s with heap := h', toks := tk } := by
      intro h' tk out ns' e a h1 hk1 ha hk he a1 a2 a3
      have I1 : Inv X pins σ H { s with heap := h1, toks := tk } := I.kept (t' := tk) hk1
      have hl2 : ns'.length ≤ 1000 := by rw [a2.length_eq]; (first | lia | omega)
      have hp := I1.hok.fresh ha
      refine ⟨.ref a, upd H a (.lst (ns'.map V.str)), I1.laid (t' := tk) hk ha (show ObjOk X.prog X.w _ h' _ (.lst _) from ⟨by rw [List.length_map]; exact line1000 hl2, out.toList, e, vals_strs a1, by rw [Array.toArray_toList]; exact he⟩), rfl, ?_⟩
      exact hq _ _ _ _ (hm.newL hp (iss_strs ns')) (ext_new hp) (.ref a) (q a ns' (hm.free hp) a2 a3)
    rcases hl with hl | ⟨kvs, hl, hkv⟩
    · obtain ⟨ys, h1, h2⟩ := hm.lst hl
      have hy := is_strs h2
      subst hy
      obtain ⟨its, r', pl, hz⟩ := I.list h1
      have hlen : its.length = ss.length := by rw [← r'.length, List.length_map]
      refine sorted_strs (ss := ss) pl.isList (strs_are r') (by (first | lia | omega)) fun out ns' a1 a2 a3 => ?_
      obtain ⟨e, he⟩ := sortedAll_at s.heap its out
      exact fin _ s.toks out ns' e _ s.heap (fun _ _ hb => hb) (Nat.le_succ _) (fun b o hb => sortedAll_old hb) he a1 a2 a3
    · obtain ⟨kx, hx, hp⟩ := hm.dic hl
      obtain ⟨z, hd, vs, rel, dd⟩ := dk_rd I.hok hx
      obtain ⟨ep, hat⟩ := dd.dictAt
      have hkl : kx.length = ss.length := by have := congrArg List.length (keysS hp hkv); rw [List.length_map, List.length_map] at this; exact this
      refine Calls.call_function_entry kind_sorted plain_sorted entry_sorted (args_sorted1 _) ?_
      unfold Builtin.«sorted»
      refine wpAny_bind (m := checkCount "sorted" 1 1 _) (wpAny_pure ?_)
      refine wpAny_bind (PySem.W.kdu_collect (A := X.A.in1) (PySem.W.kdl_dict hd) (I.ok.hd hc) hat (by rw [← rel.length]; exact z) fun h' tk acc hk hacc => ?_)
      have hv : Vals (kx.map fun kv => kV kv.1) acc.toList := by
        refine vals_by (by rw [Array.length_toList, hacc.1, List.length_map, rel.length]) fun j x w e1 e2 => ?_
        obtain ⟨k, y, h1, h2⟩ := hacc.2 j w (by rw [← Array.getElem?_toList]; exact e2)
        rw [List.getElem?_map] at e1
        cases e3 : kx[j]? with
        | none => rw [e3] at e1; cases e1
        | some pr =>
          rw [e3] at e1
          cases e1
          have e4 : (kx.map (·.1))[j]? = some pr.1 := by rw [List.getElem?_map, e3]; rfl
          rw [rel.keys, List.getElem?_map, h1] at e4
          have e5 : k = pr.1 := Option.some.inj e4
          subst e5
          exact key_rel h2
      rw [keysS hp hkv] at hv
      have hI := strs_are hv
      have hal : acc.toList.length = ss.length := by rw [← hv.length, List.length_map]
      refine wpAny_bind (wpAny_newList ?_ (by rw [hal]; exact line1000 (by (first | lia | omega))))
      have hoL : (h'.push (seqObj "list" acc.toList.toArray 0)).get? h'.objs.size = some (seqObj "list" acc.toList.toArray 0) := Heap.get?_push_size _ rfl
      refine wpAny_bind (wpAny_holding (wpAny_call_entry slot_list_sort ⟨_, hoL, rfl⟩ entry_list_sort (list_sort_treeK strKind_oneLt hoL hI.keysOf (fun v₁ v₂ rest e => keyKind_strs (by rw [← e]; exact hI)) (by (first | lia | omega)) fun st' hp' hs' => ⟨_, rfl, ?_⟩) (args_list_sort _)))
      obtain ⟨ns', a1, a2, a3⟩ := sorted_out_str hI hp' hs'
      obtain ⟨e, he⟩ := sortedHeap_at (out := (arrOf st').map (·.2)) hoL
      refine wpAny_pure ⟨_, rfl, fin _ tk _ ns' e _ h' hk (Nat.le_refl _) (fun b o hb' => ?_) he a1 a2 a3⟩
      rw [sortedHeap_old (Nat.ne_of_lt (Heap.lt_size hb')) (by rw [size_push']; exact Nat.lt_succ_of_lt (Heap.lt_size hb')), Heap.get?_push_ne _ _ _ (Nat.ne_of_lt (Heap.lt_size hb'))]
      exact hb'
noncomputable def extendD : D → List D → DH → KD → Prop
  | .ref l, [.ref b], M, Q => ∃ xs ys, M l = some (.lst xs) ∧ M b = some (.lst ys) ∧ xs.length + ys.length ≤ sizeLine ∧ Q .non (updM M l (.lst (xs ++ ys)))
  | _, _, _, _ => False
theorem md_extend : MtD X "list.extend" extendD := by
  intro pins s σ H vx vs v us Q I rx rs zz
  obtain ⟨x, ds, M, Q', ix, iss, hm, q, hq⟩ := zz
  match x, ds, q, ix, iss with
  | .ref l, [.ref b], q, ix, iss =>
    obtain ⟨xs, ys, hl, hb, hz, q⟩ := q
    cases ix.inv
    obtain ⟨vy, rfl, iy⟩ := iss1 iss
    cases iy.inv
    obtain ⟨us', h1, h2⟩ := hm l _ hl
    obtain ⟨ws, h3, h4⟩ := hm b _ hb
    refine mt_extend pins s σ H _ _ v us Q I rx rs ⟨l, b, us', ws, rfl, rfl, h1, h3, by rw [h2.length, h4.length]; exact hz, ?_⟩
    obtain ⟨m1, e1⟩ := hm.setL hl h1 (h2.append h4)
    exact hq _ _ _ _ m1 e1 .non q
noncomputable def rPopK : V → List V → Hp → VK → Prop := fun x vs H Q => ∃ a kvs k v, x = .ref a ∧ vs = [kV k] ∧ H a = some (.dK kvs) ∧ valV kvs k = some v ∧ Q v (upd H a (.dK (dropK kvs k)))
theorem mt_popK : MtR X "dict.pop" rPopK := by
  intro pins s σ H x vs v us Q I rx rs h
  obtain ⟨a, kvs, k, w, rfl, rfl, hH, hv, q⟩ := h
  cases rx
  obtain ⟨u, rfl, ru⟩ := rs.one
  exact d_pop I hH ru hv (.inl rfl) fun w' s' I' r' => ⟨w, _, I', r', q⟩
noncomputable def dropD (kvs : List (Key × D)) (k : Key) : List (Key × D) := kvs.filter fun kv => decide (kv.1 ≠ k)
theorem pkd_drop {K : PySem.W.Frag} {H : Hp} {k : Key} : ∀ {kx : List (Key × V)} {kvs : List (Key × D)}, PKD K H kx kvs → PKD K H (dropK kx k) (dropD kvs k)
  | _, _, .nil => .nil
  | (k1, v) :: kx, (k2, d) :: kvs, .cons h t => by
    have e1 : k1 = k2 := h.1
    subst e1
    have ih := pkd_drop (k := k) t
    unfold dropK dropD at ih ⊢
    rw [List.filter_cons, List.filter_cons]
    by_cases c : k1 = k
    · have c' : decide ((k1, v).1 ≠ k) = false := decide_eq_false (fun z => z c)
      have c'' : decide ((k1, d).1 ≠ k) = false := decide_eq_false (fun z => z c)
      rw [c']
      exact ih
    · have c' : decide ((k1, v).1 ≠ k) = true := decide_eq_true c
      have c'' : decide ((k1, d).1 ≠ k) = true := decide_eq_true c
      rw [c']
      exact .cons h ih
noncomputable def ePopK (to : TEd) (t : TAd) : TEd := fun τ M Q => to τ M fun x M1 => (∃ l kvs, x = .ref l ∧ M1 l = some (.dic kvs)) ∧ t τ M1 fun ds M2 => ∃ l y k kvs d, x = .ref l ∧ ds = [y] ∧ keyOf y = some k ∧ M2 l = some (.dic kvs) ∧ valD kvs k = some d ∧ Q d (updM M2 l (.dic (dropD kvs k)))
theorem d_popK {o e : Expr} {to : TEd} {t : TAd} {apos cpos : Pos} (ho : PE X o (low X.K to)) (ha : PA X [e] (lowA X.K t)) (hbase : attributeBase o "pop" X.env (eval o X.env) = eval o X.env := by rfl)
    (hfew : ((backTo cpos (starEach [e] X.env)).all (fun x => !x.1) && (backToKw cpos (keywordEach [] X.env)).all (fun x => x.1.isSome)
      && decide (([e] : List Expr).length + ([] : List Keyword).length + (if ([] : List Keyword).isEmpty then 0 else 1) < 30)) = true := by rfl)
    (hline : (apos.endLine == cpos.line) = true := by rfl) (hs : starEach [e] X.env = (false, eval e X.env) :: starEach [] X.env := by rfl) (hplain : (backTo cpos (starEach ([] : List Expr) X.env)).any (·.1) = false := by rfl) :
    PE X (.Call (.Attribute o "pop" apos) [e] [] cpos) (low X.K (ePopK to t)) :=
  (pe_bm PySem.F.plainAttrs_dict PySem.F.slot_dict_pop PySem.F.type_dict_pop mt_popK ho ha hbase hfew hline hs hplain).imp fun σ H Q zz => by
    obtain ⟨τ, M, Q', hs, hm, h, hq⟩ := zz
    refine ⟨τ, M, _, hs, hm, h, fun x M1 v H1 m1 e1 i1 zz => ?_⟩
    obtain ⟨h0, h1⟩ := zz
    obtain ⟨l, kvs0, rfl, hl0⟩ := h0
    cases i1.inv
    obtain ⟨kx0, hx0, hp0⟩ := m1 l _ hl0
    refine ⟨.inr (.inr (.inl ⟨rfl, .inl ⟨_, hx0⟩⟩)), τ, M1, _, hs.mono e1, m1, h1, fun ds M2 vs H2 m2 e2 i2 h2 => ?_⟩
    obtain ⟨l', y, k, kvs, d, ex, rfl, hk, hl, hv, q⟩ := h2
    cases ex
    obtain ⟨vy, rfl, iy⟩ := iss1 i2
    have hy := key_is iy hk
    subst hy
    obtain ⟨kx, hx, hp⟩ := m2 l _ hl
    obtain ⟨v, hv', iv⟩ := pkd_some hp hv
    obtain ⟨m3, e3⟩ := m2.setK hx (pkd_drop (k := k) hp)
    exact ⟨l, kx, k, v, rfl, rfl, hx, hv', hq _ _ _ _ m3 (e1.trans (e2.trans e3)) (iv.mono e3) q⟩
noncomputable def Iti (d : Addr) (o : Obj) : It := ⟨fun _ _ => False, fun _ _ _ _ => False, fun i H => H d = some (.frz o (.dK [])) ∧ i = 0⟩
theorem kv_nil {vs : List (Key × Value)} (h : KV [] vs) : vs = [] := by unfold KV at h; cases h; rfl
theorem turn_items0 {P : Program} {w : World} {K : PySem.W.Frag} {tg : Expr} {d it : Addr} {o : Obj} {es : Array DictEntry} {ep : Nat} (ho : o.data = .dict es ep) : Turn P w K tg (Iti d o) [it] it (fun i h => ∃ ok ov, IsItemIter h it d i 0 ep ok ov) where
  mem := by simp
  obj := fun i h st b hb => by
    have e : b = it := by simpa using hb
    subst e
    obtain ⟨ok, ov, e⟩ := st
    exact ⟨_, e, fun v z => by cases z⟩
  keep := fun i h h' st k => by
    obtain ⟨ok, ov, e⟩ := st
    exact ⟨ok, ov, k it (by simp) _ e⟩
  item := by
    intro X hP hw hK hc i pins s σ H E I hf st hg
    exact hg.elim
  done := by
    intro X hP hw hK hc i pins s σ H E I hf st hg
    subst hP hw hK
    obtain ⟨hd, hi⟩ := hg
    subst hi
    obtain ⟨vs, rel, hat⟩ := frz_at I hd ho
    obtain ⟨f0, f1, f2, f3, f4, f5⟩ := hf it (by simp)
    have hv := kv_nil rel
    subst hv
    obtain ⟨ok, ov, e⟩ := st
    exact wpAny_pyNext_items_end (kvs := []) (I.ok.hd hc) e hat rfl fun h' hx => ⟨rfl, I.turned (t' := s.toks) (fun b ob hb e => hx b ob hb e) f0 f1 f3 f4 f5⟩
  self := fun A i s Q E st h => by
    obtain ⟨ok, ov, e⟩ := st
    exact PySem.W.kcp_self e h
noncomputable def iItems0 (X : Cx) (tl : TE) : TI := fun σ H R => tl σ H fun x H1 => ∃ d, x = .ref d ∧ H1 d = some (.dK []) ∧ ∀ o, (∀ o x, X.H₀ d ≠ some (.frz o x)) → R (Iti d o) (upd H1 d (.frz o (.dK [])))
theorem pi_items0 {tg o : Expr} {to : TE} {apos cpos : Pos} (ho : PE X o to) (hbase : attributeBase o "items" X.env (eval o X.env) = eval o X.env) (hline : (apos.endLine == cpos.line) = true) :
    PI X tg (.Call (.Attribute o "items" apos) [] [] cpos) (iItems0 X to) := by
  intro pins s σ H R I h
  refine wpAny_Call_method0_late hbase hline (thn (ho pins s σ H _ I h) fun v s1 zz => ?_)
  obtain ⟨x, H1, I1, r1, d, ex, hd, q⟩ := zz
  subst ex
  cases r1
  obtain ⟨h1', h2'⟩ := tyV_is (T := "dict") (x := .ref d) I1 rfl (.inr (.inr (.inl ⟨rfl, .inl ⟨_, hd⟩⟩)))
  refine ⟨"dict", "dict.items", PySem.F.plainAttrs_dict, PySem.F.slot_dict_items, PySem.F.type_dict_items, h1', h2', Calls.callWith_builtin rfl (PySem.evalArgs_none ?_)⟩
  obtain ⟨z, y, vs, rel, dd⟩ := dk_of I1.hok hd
  refine call_meetsIn PySem.F.slot_dict_items dd.typeIs PySem.F.entry_dict_items (PySem.F.args_dict_items_1 _) (meets_dict_items (mixKind X.prog X.w) d y) ⟨⟨vs, dd⟩, ?_⟩
  have I2 : Inv X pins σ H1 { s1 with heap := s1.heap.push { cls := .type "dict_items", data := .fields #[.ref d] } } := I1.kept (t' := s1.toks) fun b ob e => Heap.get?_push_of_some _ e
  obtain ⟨ob, vs', ep, g1, rel', hat, ⟨es, ho'⟩, lo, nf, I3⟩ := inv_freeze I2 hd
  have hv := kv_nil rel'
  subst hv
  refine wpAny_pyIter_items (kvs := []) ⟨_, Heap.get?_push_size _ rfl, rfl, rfl⟩ hat ?_
  refine ⟨_, [_], _, Iti d ob, _, rfl, I3.kept (t' := s1.toks) fun b ob e => Heap.get?_push_of_some _ e, turn_items0 ho', ⟨.none, .none, Heap.get?_push_size _ rfl⟩, fun b hb => ?_, q ob nf⟩
  have e : b = _ := List.mem_singleton.mp hb
  subst e
  exact I3.fpOk (Nat.le_refl _) (I3.hok.fresh (Nat.le_refl _))
noncomputable def sForI0 (to : TEd) : TSd := fun E τ M => to τ M fun x M1 => ∃ l, x = .ref l ∧ M1 l = some (.dic []) ∧ E.nx τ M1
theorem s_forI0 {tg o : Expr} {to : TEd} {body : List Stmt} {apos cpos pos : Pos} (hp : PassesOwn (model X.prog X.w) X.A X.env X.xe) (hc : X.calm = true) (ho : PE X o (low X.K to)) (hbase : attributeBase o "items" X.env (eval o X.env) = eval o X.env := by rfl) (hline : (apos.endLine == cpos.line) = true := by rfl)
    (hs : ∀ x, foldedSetIterable (.Call (.Attribute o "items" apos) [] [] cpos) X.env x = pure x := by intro _; rfl) : PS X (.For tg (.Call (.Attribute o "items" apos) [] [] cpos) body [] pos) (lowS X.K (sForI0 to)) := by
  intro pins s σ H D I zz
  obtain ⟨τ, M, D', hS, hm, h, hd⟩ := zz
  have hb : PSs X body (fun _ _ _ => False) := fun _ _ _ _ _ _ z => z.elim
  have hg : PG X tg (fun _ _ _ _ => False) := fun _ _ _ _ _ _ _ _ _ z => z.elim
  refine thn (ps_for hp hc (pi_items0 ho hbase hline) hg hb hs pins s σ H (thawed X D) I ⟨τ, M, _, hS, hm, h, fun x M1 v H1 m1 e1 i1 h1 => ?_⟩) fun f s1 q => ?_
  · obtain ⟨l, rfl, hl, q⟩ := h1
    cases i1.inv
    obtain ⟨kx, hx, hp'⟩ := m1 l _ hl
    have hk : kx = [] := by cases hp'; rfl
    subst hk
    refine ⟨l, rfl, hx, fun o nf => ⟨fun i m σ2 H2 => i = 0 ∧ σ2 = σ ∧ H2 = upd H1 l (.frz o (.dK [])), ⟨0, rfl, rfl, rfl⟩, ?_⟩⟩
    rintro i m σ2 H2 ⟨rfl, rfl, rfl⟩
    refine .inl ⟨⟨upd_same, rfl⟩, l, o, [], upd_same, nf, ?_⟩
    have e : upd (upd H1 l (.frz o (.dK []))) l (.dK []) = H1 := by
      funext b
      by_cases z : b = l
      · subst z; rw [upd_same]; exact hx.symm
      · rw [upd_ne z, upd_ne z]
    rw [e]
    exact hd.nx τ M1 σ2 H1 (hS.mono e1) m1 e1 q
  · cases f with
    | next => obtain ⟨σ1, H1, I1, d, o, kx, hd, nf, q⟩ := q; exact ⟨σ1, _, inv_thaw I1 hd nf, q⟩
    | cont => obtain ⟨σ1, H1, I1, d, o, kx, hd, nf, q⟩ := q; exact ⟨σ1, _, inv_thaw I1 hd nf, q⟩
    | brk => obtain ⟨σ1, H1, I1, d, o, kx, hd, nf, q⟩ := q; exact ⟨σ1, _, inv_thaw I1 hd nf, q⟩
    | ret v => obtain ⟨x, σ1, H1, I1, r, d, o, kx, hd, nf, q⟩ := q; exact ⟨x, σ1, _, inv_thaw I1 hd nf, r, q⟩
theorem Stands.nm {K : PySem.W.Frag} {mg : Str → Option Value} {x : Str} {st : Stmt} {ps : List Str} (T : Stands K mg x st ps) : mg x = some (.ref (cl mg x)) := by
  obtain ⟨f, fd, F, hb, hm⟩ := T
  rw [cl_of hm]
  exact hm
noncomputable def eCallV (i : Nat) (f : Addr) (sp : SpD) (t : TAd) : TEd := fun τ M Q => onVal τ[i]? fun d => d = .ref f ∧ t τ M fun ds M1 => sp ds M1 Q
theorem d_callV {x y : Str} {ps : List Str} {sp : SpD} {p pos : Pos} {e : Expr} {es : List Expr} {t : TAd} (i : Nat) (F : FnD X.prog X.w X.K X.mg X.base k y ps sp) (hr : Room k X.A) (ha : PA X (e :: es) (lowA X.K t))
    (hN : X.N[i]? = some x := by rfl) (hv : Vis X.env.scope x := by first | exact Or.inl rfl | exact Or.inr (Or.inl rfl) | exact Or.inr (Or.inr rfl)) (hd : (x == ("__debug__" : Str)) = false := by decide) (hcd : (x == ("__classdict__" : Str)) = false := by decide)
    (he : starEach (e :: es) X.env = (false, eval e X.env) :: starEach es X.env := by rfl) (hpl : (backTo pos (starEach es X.env)).any (·.1) = false := by rfl) : PE X (.Call (.Name x p) (e :: es) [] pos) (low X.K (eCallV i (cl X.mg y) sp t)) := by
  obtain ⟨f, fd, F, hmg, hk, hb⟩ := F.ex
  intro pins s σ H Q I zz
  obtain ⟨τ, M, Q', hs, hm, h, hq⟩ := zz
  obtain ⟨d, hd', ed, h⟩ := onVal_some h
  subst ed
  obtain ⟨v, h1, h2⟩ := hs.2 i _ hd'
  cases h2.inv
  rw [cl_of hmg] at h1
  refine wpAny_Call_Name_kw (wpAny_mono (pe_var (pos := p) hN hv hd hcd pins s σ H (fun v H' => v = .ref f ∧ H' = H) I ⟨_, h1, rfl, rfl⟩) (fun u s0 zz => ?_) fun _ _ z => z)
  obtain ⟨v0, H0, I0, r0, ev, eH⟩ := zz
  subst ev eH
  cases r0
  have hA := ha pos pins s0 σ H0 (fun vs H1 => ∃ ds M1, HAbs X.K M1 H1 ∧ Ext X.K H0 H1 ∧ Iss X.K H1 vs ds ∧ sp ds M1 Q') I0 ⟨τ, M, _, hs, hm, h, fun ds M1 vs H1 m1 e1 i1 h1 => ⟨ds, M1, m1, e1, i1, h1⟩⟩
  refine PySem.W.callWith_K (h₀ := X.base) I0.ok.mod.kin hk (thn hA fun us s1 zz => ?_) he hpl
  obtain ⟨vs, H1, I1, r, ds, M1, m1, e1, i1, h1⟩ := zz
  refine ⟨I1.kIn, ?_⟩
  have h2 : lowSp X.K sp vs H1 Q E0 := ⟨ds, M1, Q', i1, m1, h1, hq.ext e1⟩
  have hl : us.length = ps.length := by rw [← r.length]; exact F.len _ _ _ _ h2
  have hbn := hb s1 us I1.kIn (by rw [List.append_nil]; exact hl)
  rw [List.append_nil] at hbn
  refine wpAny_call (codeAny_mono (F.run X.A X.stack s1 H1 ⟨us, []⟩ us vs Q _ hr I1.env0 hbn r h2) fun rr s' hq' => ?_)
  cases rr with
  | error e => exact False.elim hq'
  | ok fl =>
    cases fl with
    | ret u => exact I1.after hq'
    | next => exact False.elim hq'
    | brk => exact False.elim hq'
    | cont => exact False.elim hq'
end
end DL
namespace DL
open PySem PySem.Spec PyProof.Rows L2
section
variable {X : Cx} {C : Addr} {k : Nat} {pos : Pos}
noncomputable def eMake0 (C : Addr) (sp : SpD) : TEd := fun _ M Q => ∀ x dx, M x = none → sp [.ref x] (updM M x (.ins C dx [])) fun d M2 => d = .non ∧ Q (.ref x) M2
theorem d_make0 {ps : List Str} {sp : SpD} {x : Str} {p : Pos} (F : FnI X.prog X.w X.K X.mg X.base C k ps sp) (hr : Room (k + 1) X.A) (hm : X.mg x = some (.ref C)) (hg : Gl X x := by rfl)
    (hdb : (x == ("__debug__" : Str)) = false := by decide) : PE X (.Call (.Name x p) [] [] pos) (low X.K (eMake0 C sp)) := by
  obtain ⟨f, fd, F, hM, hb⟩ := F.ex
  refine (pe_make0 (E := E0) hM F hr hg hm hb .nil pass0 hdb).imp fun σ H Q zz => ?_
  obtain ⟨τ, M, Q', hs, hm, h, hq⟩ := zz
  intro y dy ny nd ne
  obtain ⟨m2, e2⟩ := hm.made (C := C) ny nd ne
  refine ⟨[.ref y], _, _, .cons (.ref y) .nil, m2, h y dy (hm.free ny), fun d M3 v H3 m3 e3 i3 zz => ?_⟩
  obtain ⟨ed, q⟩ := zz
  subst ed
  cases i3.inv
  exact ⟨rfl, hq _ _ _ _ m3 (e2.trans e3) (.ref y) q⟩
end
theorem FnME.nox {P : Program} {w : World} {K : PySem.W.Frag} {mg : Str → Option Value} {base : Heap} {C : Addr} {k : Nat} {m : Str} {ps : List Str} {sp : SpE} (F : FnME P w K mg base C k m ps sp) : FnM P w K mg base C k m ps (fun ds M Q => sp ds M Q fun _ _ => False) := by
  obtain ⟨f, fd, a, b, c⟩ := F.ex
  refine ⟨f, fd, ⟨fun vs H Q E zz => ?_, fun A outer s H args us vs Q E hr he hb hv zz => ?_⟩, b, c⟩
  · obtain ⟨ds, M, Q', i, m, q, hq⟩ := zz
    exact a.len vs H Q E ⟨ds, M, Q', _, i, m, q, hq, fun _ _ _ _ _ z => z.elim⟩
  · obtain ⟨ds, M, Q', i, m, q, hq⟩ := zz
    refine codeAny_mono (a.run A outer s H args us vs Q (fun _ _ _ => False) hr he hb hv ⟨ds, M, Q', _, i, m, q, hq, fun _ _ _ _ _ z => z.elim⟩) fun r s' h => ?_
    cases r with
    | ok fl => cases fl <;> exact h
    | error e => obtain ⟨_, _, _, _, _, _, _, _, _, _, _, _, _, _, z⟩ := h; exact z.elim
theorem len_3 {i j k : Nat} : ∀ ds τ M Q, hCons (hName i) (hCons (hName j) (hCons (hName k) hNil)) ds τ M Q → ds.length = 3 := fun ds τ M Q h => by
  match ds, h with
  | [], h => exact h.elim
  | [_], h => exact h.elim
  | [_, _], h => exact h.elim
  | [_, _, _], h => rfl
  | _ :: _ :: _ :: _ :: _, h => exact h.elim
theorem len_4 {i j k l : Nat} : ∀ ds τ M Q, hCons (hName i) (hCons (hName j) (hCons (hName k) (hCons (hName l) hNil))) ds τ M Q → ds.length = 4 := fun ds τ M Q h => by
  match ds, h with
  | [], h => exact h.elim
  | [_], h => exact h.elim
  | [_, _], h => exact h.elim
  | [_, _, _], h => exact h.elim
  | [_, _, _, _], h => rfl
  | _ :: _ :: _ :: _ :: _ :: _, h => exact h.elim
theorem rising_pair : ∀ (p : Str) (l : List Str), risingS p l = true → (p :: l).Pairwise (fun a b => a.cps.toList ≤ b.cps.toList)
  | p, [], _ => List.pairwise_singleton _ _
  | p, x :: r, h => by
    have h' : (!ltCps x.cps.toList p.cps.toList && risingS x r) = true := h
    obtain ⟨h1, h2⟩ := Bool.and_eq_true_iff.mp h'
    have ih := rising_pair x r h2
    have h3 : p.cps.toList ≤ x.cps.toList := by
      rw [ltCps_eq] at h1
      have h4 : ¬ x.cps.toList < p.cps.toList := by simpa using h1
      exact List.not_lt.mp h4
    refine List.pairwise_cons.mpr ⟨fun y hy => ?_, ih⟩
    rcases List.mem_cons.mp hy with rfl | hy
    · exact h3
    · exact List.le_trans h3 ((List.pairwise_cons.mp ih).1 y hy)
theorem sorted_pair : ∀ (l : List Str), sortedS l = true → l.Pairwise (fun a b => a.cps.toList ≤ b.cps.toList)
  | [], _ => .nil
  | x :: r, h => rising_pair x r h
theorem sorted_one {a b : List Str} (hp : a.Perm b) (ha : sortedS a = true) (hb : sortedS b = true) : a = b := by
  refine List.Perm.eq_of_pairwise (le := fun a b : Str => a.cps.toList ≤ b.cps.toList) (fun x y _ _ h1 h2 => ?_) (sorted_pair a ha) (sorted_pair b hb) hp
  have e := List.le_antisymm h1 h2
  obtain ⟨⟨x⟩⟩ := x
  obtain ⟨⟨y⟩⟩ := y
  have e' : x = y := e
  rw [e']
end DL
namespace Law
open PySem PySem.Spec PyProof.Rows L2 DL
noncomputable def top (i : Nat) : Stmt := PySem.Challenge.pw_commonform_k61_refused_once.main.body.getD i (.Pass ⟨0, 0, 0, 0⟩)
noncomputable abbrev s__wall : Stmt := top 0
noncomputable abbrev s_is_letter : Stmt := top 14
theorem sc_is_letter : FnScope ["sign"] ["sign"] (defScope s_is_letter) := ⟨rfl, rfl, rfl, by decide +kernel, rfl, by decide +kernel, by decide +kernel⟩
noncomputable abbrev s_is_figure : Stmt := top 15
theorem sc_is_figure : FnScope ["sign"] ["sign"] (defScope s_is_figure) := ⟨rfl, rfl, rfl, by decide +kernel, rfl, by decide +kernel, by decide +kernel⟩
noncomputable abbrev s_is_name : Stmt := top 16
theorem sc_is_name : FnScope ["text"] ["text"] (defScope s_is_name) := ⟨rfl, rfl, rfl, by decide +kernel, rfl, by decide +kernel, by decide +kernel⟩
noncomputable abbrev s_parts_of : Stmt := top 17
theorem sc_parts_of : FnScope ["tree"] ["tree"] (defScope s_parts_of) := ⟨rfl, rfl, rfl, by decide +kernel, rfl, by decide +kernel, by decide +kernel⟩
noncomputable abbrev s_knots_of : Stmt := top 18
theorem sc_knots_of : FnScope ["tree", "knots", "part"] ["tree"] (defScope s_knots_of) := ⟨rfl, rfl, rfl, by decide +kernel, rfl, by decide +kernel, by decide +kernel⟩
noncomputable abbrev s_depth_of : Stmt := top 19
theorem sc_depth_of : FnScope ["tree", "deepest", "part"] ["tree"] (defScope s_depth_of) := ⟨rfl, rfl, rfl, by decide +kernel, rfl, by decide +kernel, by decide +kernel⟩
noncomputable abbrev s_gather_blanks : Stmt := top 20
theorem sc_gather_blanks : FnScope ["tree", "found", "part"] ["tree", "found"] (defScope s_gather_blanks) := ⟨rfl, rfl, rfl, by decide +kernel, rfl, by decide +kernel, by decide +kernel⟩
noncomputable abbrev s_blanks_of : Stmt := top 21
theorem sc_blanks_of : FnScope ["tree", "found"] ["tree"] (defScope s_blanks_of) := ⟨rfl, rfl, rfl, by decide +kernel, rfl, by decide +kernel, by decide +kernel⟩
noncomputable abbrev s_numbered_part : Stmt := top 22
theorem sc_numbered_part : FnScope ["tree", "number", "parts"] ["tree", "number"] (defScope s_numbered_part) := ⟨rfl, rfl, rfl, by decide +kernel, rfl, by decide +kernel, by decide +kernel⟩
noncomputable abbrev s_put_at : Stmt := top 23
theorem sc_put_at : FnScope ["tree", "place", "part", "number", "changed", "parts"] ["tree", "place", "part"] (defScope s_put_at) := ⟨rfl, rfl, rfl, by decide +kernel, rfl, by decide +kernel, by decide +kernel⟩
noncomputable abbrev s_same_head : Stmt := top 25
theorem sc_same_head : FnScope ["one", "other"] ["one", "other"] (defScope s_same_head) := ⟨rfl, rfl, rfl, by decide +kernel, rfl, by decide +kernel, by decide +kernel⟩
noncomputable abbrev s_blank_clash : Stmt := top 26
theorem sc_blank_clash : FnScope ["number", "tree", "place", "stood", "first"] ["number", "tree", "place", "stood"] (defScope s_blank_clash) := ⟨rfl, rfl, rfl, by decide +kernel, rfl, by decide +kernel, by decide +kernel⟩
noncomputable abbrev s_clash_from : Stmt := top 27
theorem sc_clash_from : FnScope ["form", "tree", "place", "stood", "parts", "number", "inner", "clash"] ["form", "tree", "place", "stood"] (defScope s_clash_from) := ⟨rfl, rfl, rfl, by decide +kernel, rfl, by decide +kernel, by decide +kernel⟩
noncomputable abbrev s_first_clash : Stmt := top 28
noncomputable abbrev s_fitting : Stmt := top 29
theorem sc_fitting : FnScope ["form", "tree", "stood", "filling", "number"] ["form", "tree"] (defScope s_fitting) := ⟨rfl, rfl, rfl, by decide +kernel, rfl, by decide +kernel, by decide +kernel⟩
noncomputable abbrev s_common : Stmt := top 31
theorem sc_common : FnScope ["row", "numbers", "first", "parts", "number"] ["row", "numbers"] (defScope s_common) := ⟨rfl, rfl, rfl, by decide +kernel, rfl, by decide +kernel, by decide +kernel⟩
noncomputable abbrev s_filling_of : Stmt := top 32
theorem sc_filling_of : FnScope ["numbers", "which", "filling", "row", "number"] ["numbers", "which"] (defScope s_filling_of) := ⟨rfl, rfl, rfl, by decide +kernel, rfl, by decide +kernel, by decide +kernel⟩
noncomputable abbrev s_nearest_of : Stmt := top 33
theorem sc_nearest_of : FnScope ["trees", "numbers", "form"] ["trees"] (defScope s_nearest_of) := ⟨rfl, rfl, rfl, by decide +kernel, rfl, by decide +kernel, by decide +kernel⟩
noncomputable abbrev s_nearest : Stmt := top 34
theorem sc_nearest : FnScope ["one", "other", "numbers", "form"] ["one", "other"] (defScope s_nearest) := ⟨rfl, rfl, rfl, by decide +kernel, rfl, by decide +kernel, by decide +kernel⟩
noncomputable abbrev s_form_over : Stmt := top 36
theorem sc_form_over : FnScope ["bough"] ["bough"] (defScope s_form_over) := ⟨rfl, rfl, rfl, by decide +kernel, rfl, by decide +kernel, by decide +kernel⟩
noncomputable abbrev s_knot_over : Stmt := top 37
theorem sc_knot_over : FnScope ["boughs"] ["boughs"] (defScope s_knot_over) := ⟨rfl, rfl, rfl, by decide +kernel, rfl, by decide +kernel, by decide +kernel⟩
noncomputable abbrev s_names_under : Stmt := top 38
theorem sc_names_under : FnScope ["bough", "names", "inner"] ["bough"] (defScope s_names_under) := ⟨rfl, rfl, rfl, by decide +kernel, rfl, by decide +kernel, by decide +kernel⟩
noncomputable abbrev s_weight_of : Stmt := top 39
theorem sc_weight_of : FnScope ["form"] ["form"] (defScope s_weight_of) := ⟨rfl, rfl, rfl, by decide +kernel, rfl, by decide +kernel, by decide +kernel⟩
noncomputable abbrev s_with_leaf : Stmt := top 40
theorem sc_with_leaf : FnScope ["bough", "leaf", "form", "boughs", "weights", "greatest", "which"] ["bough", "leaf"] (defScope s_with_leaf) := ⟨rfl, rfl, rfl, by decide +kernel, rfl, by decide +kernel, by decide +kernel⟩
noncomputable abbrev s_without_name : Stmt := top 41
theorem sc_without_name : FnScope ["bough", "name", "boughs", "inner", "rest"] ["bough", "name"] (defScope s_without_name) := ⟨rfl, rfl, rfl, by decide +kernel, rfl, by decide +kernel, by decide +kernel⟩
noncomputable abbrev s_told_bough : Stmt := top 42
noncomputable abbrev s_exchanged : Stmt := top 44
noncomputable abbrev s_apart : Stmt := top 46
noncomputable abbrev s_unlike_blocks : Stmt := top 47
noncomputable abbrev s_blanks_within : Stmt := top 50
noncomputable abbrev s_arranged : Stmt := top 51
noncomputable abbrev s_settled : Stmt := top 52
noncomputable abbrev s_barring_paper : Stmt := top 53
noncomputable abbrev s_barred_row : Stmt := top 56
noncomputable abbrev s_row_below : Stmt := top 57
theorem sc_row_below : FnScope ["bough", "form", "fits"] ["bough", "form"] (defScope s_row_below) := ⟨rfl, rfl, rfl, by decide +kernel, rfl, by decide +kernel, by decide +kernel⟩
noncomputable abbrev s_row_above : Stmt := top 58
noncomputable abbrev s_gather_rows : Stmt := top 59
theorem sc_gather_rows : FnScope ["bough", "form", "row_of", "rows", "row", "inner"] ["bough", "form", "row_of", "rows"] (defScope s_gather_rows) := ⟨rfl, rfl, rfl, by decide +kernel, rfl, by decide +kernel, by decide +kernel⟩
noncomputable abbrev s_answers_in : Stmt := top 60
theorem sc_answers_in : FnScope ["rows", "names", "row"] ["rows"] (defScope s_answers_in) := ⟨rfl, rfl, rfl, by decide +kernel, rfl, by decide +kernel, by decide +kernel⟩
noncomputable abbrev s__law_mixed : Stmt := top 64
theorem sc__law_mixed : FnScope ["cell"] ["cell"] (defScope s__law_mixed) := ⟨rfl, rfl, rfl, by decide +kernel, rfl, by decide +kernel, by decide +kernel⟩
noncomputable abbrev s__law_of_knots : Stmt := top 66
theorem sc__law_of_knots : FnScope ["many", "leaf", "tree", "count"] ["many"] (defScope s__law_of_knots) := ⟨rfl, rfl, rfl, by decide +kernel, rfl, by decide +kernel, by decide +kernel⟩
noncomputable abbrev s__law_chain : Stmt := top 67
theorem sc__law_chain : FnScope ["deep", "tree", "k"] ["deep"] (defScope s__law_chain) := ⟨rfl, rfl, rfl, by decide +kernel, rfl, by decide +kernel, by decide +kernel⟩
noncomputable abbrev s__law_do : Stmt := top 68
theorem sc__law_do : FnScope ["cabinet", "deed", "kind", "name", "place", "part"] ["cabinet", "deed"] (defScope s__law_do) := ⟨rfl, rfl, rfl, by decide +kernel, rfl, by decide +kernel, by decide +kernel⟩
noncomputable abbrev s__law_refused : Stmt := top 69
theorem sc__law_refused : FnScope ["cabinet", "deed", "kinds", "e"] ["cabinet", "deed"] (defScope s__law_refused) := ⟨rfl, rfl, rfl, by decide +kernel, rfl, by decide +kernel, by decide +kernel⟩
noncomputable abbrev s__law_case : Stmt := top 70
theorem sc__law_case : FnScope ["kind", "number", "leaf", "some", "bad"] ["kind", "number"] (defScope s__law_case) := ⟨rfl, rfl, rfl, by decide +kernel, rfl, by decide +kernel, by decide +kernel⟩
noncomputable abbrev s__law_opened : Stmt := top 71
theorem sc__law_opened : FnScope ["kind", "cabinet", "k"] ["kind"] (defScope s__law_opened) := ⟨rfl, rfl, rfl, by decide +kernel, rfl, by decide +kernel, by decide +kernel⟩
noncomputable abbrev s__law_less : Stmt := top 72
theorem sc__law_less : FnScope ["kind", "deed"] ["kind", "deed"] (defScope s__law_less) := ⟨rfl, rfl, rfl, by decide +kernel, rfl, by decide +kernel, by decide +kernel⟩
noncomputable abbrev s_law : Stmt := top 73
theorem sc_law : FnScope ["script", "cell", "number", "kind", "due", "good", "deed", "cabinet", "ahead", "step", "told"] ["script"] (defScope s_law) := ⟨rfl, rfl, rfl, by decide +kernel, rfl, by decide +kernel, by decide +kernel⟩
noncomputable abbrev s_Ties___init__ : Stmt := inClass (top 49) 0
noncomputable abbrev s_Ties_noted : Stmt := inClass (top 49) 1
noncomputable abbrev s_Ties_turned : Stmt := inClass (top 49) 2
noncomputable abbrev s_Ties_linked : Stmt := inClass (top 49) 3
noncomputable abbrev s_Ties_root_of : Stmt := inClass (top 49) 4
noncomputable abbrev s_Ties_tie_roots : Stmt := inClass (top 49) 5
noncomputable abbrev s_Ties_tie : Stmt := inClass (top 49) 6
noncomputable abbrev s_Cabinet___init__ : Stmt := inClass (top 61) 0
theorem sc_Cabinet___init__ : FnScope ["self"] ["self"] (defScope s_Cabinet___init__) := ⟨rfl, rfl, rfl, by decide +kernel, rfl, by decide +kernel, by decide +kernel⟩
noncomputable abbrev s_Cabinet_put : Stmt := inClass (top 61) 1
theorem sc_Cabinet_put : FnScope ["self", "name", "form", "leaf"] ["self", "name", "form"] (defScope s_Cabinet_put) := ⟨rfl, rfl, rfl, by decide +kernel, rfl, by decide +kernel, by decide +kernel⟩
noncomputable abbrev s_Cabinet_take : Stmt := inClass (top 61) 2
theorem sc_Cabinet_take : FnScope ["self", "name"] ["self", "name"] (defScope s_Cabinet_take) := ⟨rfl, rfl, rfl, by decide +kernel, rfl, by decide +kernel, by decide +kernel⟩
noncomputable abbrev s_Cabinet_form_of : Stmt := inClass (top 61) 3
theorem sc_Cabinet_form_of : FnScope ["self", "name"] ["self", "name"] (defScope s_Cabinet_form_of) := ⟨rfl, rfl, rfl, by decide +kernel, rfl, by decide +kernel, by decide +kernel⟩
noncomputable abbrev s_Cabinet_names : Stmt := inClass (top 61) 4
theorem sc_Cabinet_names : FnScope ["self"] ["self"] (defScope s_Cabinet_names) := ⟨rfl, rfl, rfl, by decide +kernel, rfl, by decide +kernel, by decide +kernel⟩
noncomputable abbrev s_Cabinet_boughs : Stmt := inClass (top 61) 5
noncomputable abbrev s_Cabinet_answered : Stmt := inClass (top 61) 6
theorem sc_Cabinet_answered : FnScope ["self", "form", "row_of", "rows"] ["self", "form", "row_of"] (defScope s_Cabinet_answered) := ⟨rfl, rfl, rfl, by decide +kernel, rfl, by decide +kernel, by decide +kernel⟩
noncomputable abbrev s_Cabinet_below : Stmt := inClass (top 61) 7
theorem sc_Cabinet_below : FnScope ["self", "form"] ["self", "form"] (defScope s_Cabinet_below) := ⟨rfl, rfl, rfl, by decide +kernel, rfl, by decide +kernel, by decide +kernel⟩
noncomputable abbrev s_Cabinet_above : Stmt := inClass (top 61) 8
noncomputable abbrev s_Cabinet_meeting : Stmt := inClass (top 61) 9
noncomputable abbrev s_Cabinet_change : Stmt := inClass (top 61) 10
theorem sc_Cabinet_change : FnScope ["self", "name", "place", "part", "changed"] ["self", "name", "place", "part"] (defScope s_Cabinet_change) := ⟨rfl, rfl, rfl, by decide +kernel, rfl, by decide +kernel, by decide +kernel⟩
theorem allZ {C : List Value → Prop} (h : C []) : ∀ us : List Value, us.length = 0 → C us := fun us e => by rw [List.length_eq_zero_iff.mp e]; exact h
theorem allS {C : List Value → Prop} {n : Nat} (h : ∀ a, ∀ us : List Value, us.length = n → C (a :: us)) : ∀ us : List Value, us.length = n + 1 → C us
  | a :: us, e => h a us (Nat.succ.inj e)
theorem allN1 {C : List Value → Prop} (h : ∀ a0, C [a0]) : ∀ us : List Value, us.length = 1 → C us := allS fun a0 => allZ (h a0)
theorem allN2 {C : List Value → Prop} (h : ∀ a0 a1, C [a0, a1]) : ∀ us : List Value, us.length = 2 → C us := allS fun a0 => allS fun a1 => allZ (h a0 a1)
theorem allN3 {C : List Value → Prop} (h : ∀ a0 a1 a2, C [a0, a1, a2]) : ∀ us : List Value, us.length = 3 → C us := allS fun a0 => allS fun a1 => allS fun a2 => allZ (h a0 a1 a2)
theorem allN4 {C : List Value → Prop} (h : ∀ a0 a1 a2 a3, C [a0, a1, a2, a3]) : ∀ us : List Value, us.length = 4 → C us := allS fun a0 => allS fun a1 => allS fun a2 => allS fun a3 => allZ (h a0 a1 a2 a3)
structure Txt (K : PySem.W.Frag) (mg : Str → Option Value) : Prop where
  f__wall : Stands K mg "_wall" s__wall ["k"]
  f_is_letter : Stands K mg "is_letter" s_is_letter ["sign"]
  f_is_figure : Stands K mg "is_figure" s_is_figure ["sign"]
  f_is_name : Stands K mg "is_name" s_is_name ["text"]
  f_parts_of : Stands K mg "parts_of" s_parts_of ["tree"]
  f_knots_of : Stands K mg "knots_of" s_knots_of ["tree"]
  f_depth_of : Stands K mg "depth_of" s_depth_of ["tree"]
  f_gather_blanks : Stands K mg "gather_blanks" s_gather_blanks ["tree", "found"]
  f_blanks_of : Stands K mg "blanks_of" s_blanks_of ["tree"]
  f_numbered_part : Stands K mg "numbered_part" s_numbered_part ["tree", "number"]
  f_put_at : Stands K mg "put_at" s_put_at ["tree", "place", "part"]
  f_same_head : Stands K mg "same_head" s_same_head ["one", "other"]
  f_blank_clash : Stands K mg "blank_clash" s_blank_clash ["number", "tree", "place", "stood"]
  f_clash_from : Stands K mg "clash_from" s_clash_from ["form", "tree", "place", "stood"]
  f_first_clash : Stands K mg "first_clash" s_first_clash ["form", "tree"]
  f_fitting : Stands K mg "fitting" s_fitting ["form", "tree"]
  f_common : Stands K mg "common" s_common ["row", "numbers"]
  f_filling_of : Stands K mg "filling_of" s_filling_of ["numbers", "which"]
  f_nearest_of : Stands K mg "nearest_of" s_nearest_of ["trees"]
  f_nearest : Stands K mg "nearest" s_nearest ["one", "other"]
  f_form_over : Stands K mg "form_over" s_form_over ["bough"]
  f_knot_over : Stands K mg "knot_over" s_knot_over ["boughs"]
  f_names_under : Stands K mg "names_under" s_names_under ["bough"]
  f_weight_of : Stands K mg "weight_of" s_weight_of ["form"]
  f_with_leaf : Stands K mg "with_leaf" s_with_leaf ["bough", "leaf"]
  f_without_name : Stands K mg "without_name" s_without_name ["bough", "name"]
  f_told_bough : Stands K mg "told_bough" s_told_bough ["bough"]
  f_exchanged : Stands K mg "exchanged" s_exchanged ["tree", "filling"]
  f_apart : Stands K mg "apart" s_apart ["one", "other"]
  f_unlike_blocks : Stands K mg "unlike_blocks" s_unlike_blocks ["one", "other"]
  f_blanks_within : Stands K mg "blanks_within" s_blanks_within ["root"]
  f_arranged : Stands K mg "arranged" s_arranged ["inner"]
  f_settled : Stands K mg "settled" s_settled ["one", "other"]
  f_barring_paper : Stands K mg "barring_paper" s_barring_paper ["one", "other"]
  f_barred_row : Stands K mg "barred_row" s_barred_row ["bough", "reason"]
  f_row_below : Stands K mg "row_below" s_row_below ["bough", "form"]
  f_row_above : Stands K mg "row_above" s_row_above ["bough", "form"]
  f_gather_rows : Stands K mg "gather_rows" s_gather_rows ["bough", "form", "row_of", "rows"]
  f_answers_in : Stands K mg "answers_in" s_answers_in ["rows"]
  f__law_mixed : Stands K mg "_law_mixed" s__law_mixed ["cell"]
  f__law_of_knots : Stands K mg "_law_of_knots" s__law_of_knots ["many"]
  f__law_chain : Stands K mg "_law_chain" s__law_chain ["deep"]
  f__law_do : Stands K mg "_law_do" s__law_do ["cabinet", "deed"]
  f__law_refused : Stands K mg "_law_refused" s__law_refused ["cabinet", "deed"]
  f__law_case : Stands K mg "_law_case" s__law_case ["kind", "number"]
  f__law_opened : Stands K mg "_law_opened" s__law_opened ["kind"]
  f__law_less : Stands K mg "_law_less" s__law_less ["kind", "deed"]
  f_Ties___init__ : StandsI K (cl mg "Ties") "Ties.__init__" s_Ties___init__ ["self"]
  f_Ties_noted : StandsM K (cl mg "Ties") "noted" "Ties.noted" s_Ties_noted ["self", "step"]
  f_Ties_turned : StandsM K (cl mg "Ties") "turned" "Ties.turned" s_Ties_turned ["self", "number"]
  f_Ties_linked : StandsM K (cl mg "Ties") "linked" "Ties.linked" s_Ties_linked ["self", "first", "second"]
  f_Ties_root_of : StandsM K (cl mg "Ties") "root_of" "Ties.root_of" s_Ties_root_of ["self", "tree"]
  f_Ties_tie_roots : StandsM K (cl mg "Ties") "tie_roots" "Ties.tie_roots" s_Ties_tie_roots ["self", "left", "right", "number"]
  f_Ties_tie : StandsM K (cl mg "Ties") "tie" "Ties.tie" s_Ties_tie ["self", "one", "other"]
  f_Cabinet___init__ : StandsI K (cl mg "Cabinet") "Cabinet.__init__" s_Cabinet___init__ ["self"]
  f_Cabinet_put : StandsM K (cl mg "Cabinet") "put" "Cabinet.put" s_Cabinet_put ["self", "name", "form"]
  f_Cabinet_take : StandsM K (cl mg "Cabinet") "take" "Cabinet.take" s_Cabinet_take ["self", "name"]
  f_Cabinet_form_of : StandsM K (cl mg "Cabinet") "form_of" "Cabinet.form_of" s_Cabinet_form_of ["self", "name"]
  f_Cabinet_names : StandsM K (cl mg "Cabinet") "names" "Cabinet.names" s_Cabinet_names ["self"]
  f_Cabinet_boughs : StandsM K (cl mg "Cabinet") "boughs" "Cabinet.boughs" s_Cabinet_boughs ["self"]
  f_Cabinet_answered : StandsM K (cl mg "Cabinet") "answered" "Cabinet.answered" s_Cabinet_answered ["self", "form", "row_of"]
  f_Cabinet_below : StandsM K (cl mg "Cabinet") "below" "Cabinet.below" s_Cabinet_below ["self", "form"]
  f_Cabinet_above : StandsM K (cl mg "Cabinet") "above" "Cabinet.above" s_Cabinet_above ["self", "form"]
  f_Cabinet_meeting : StandsM K (cl mg "Cabinet") "meeting" "Cabinet.meeting" s_Cabinet_meeting ["self", "form"]
  f_Cabinet_change : StandsM K (cl mg "Cabinet") "change" "Cabinet.change" s_Cabinet_change ["self", "name", "place", "part"]
  n_Ties : mg "Ties" = some (.ref (cl mg "Ties"))
  c_Ties : Cls K (cl mg "Ties")
  a_Ties_links : NoAttr K (cl mg "Ties") "links"
  a_Ties_steps : NoAttr K (cl mg "Ties") "steps"
  n_Cabinet : mg "Cabinet" = some (.ref (cl mg "Cabinet"))
  c_Cabinet : Cls K (cl mg "Cabinet")
  a_Cabinet_kept : NoAttr K (cl mg "Cabinet") "kept"
  a_Cabinet_top : NoAttr K (cl mg "Cabinet") "top"
  m_ValueError : mg "ValueError" = none
  m_all : mg "all" = none
  m_enumerate : mg "enumerate" = none
  m_isinstance : mg "isinstance" = none
  m_len : mg "len" = none
  m_list : mg "list" = none
  m_max : mg "max" = none
  m_range : mg "range" = none
  m_reversed : mg "reversed" = none
  m_sorted : mg "sorted" = none
  m_str : mg "str" = none
  m_tuple : mg "tuple" = none
  m_zip : mg "zip" = none
  g_MOST_DEPTH : ∃ t, mg "MOST_DEPTH" = some (.int 30 t)
  g_MOST_FORMS : ∃ t, mg "MOST_FORMS" = some (.int 40 t)
  g_MOST_KNOTS : ∃ t, mg "MOST_KNOTS" = some (.int 200 t)
  g_MOST_NAME_SIGNS : ∃ t, mg "MOST_NAME_SIGNS" = some (.int 12 t)
  n_FormError : mg "FormError" = some (.ref (cl mg "FormError"))
  n_NoPlace : mg "NoPlace" = some (.ref (cl mg "NoPlace"))
  n_BadText : mg "BadText" = some (.ref (cl mg "BadText"))
  n_TooLong : mg "TooLong" = some (.ref (cl mg "TooLong"))
  n_BadPaper : mg "BadPaper" = some (.ref (cl mg "BadPaper"))
  n_BadName : mg "BadName" = some (.ref (cl mg "BadName"))
  n_Twice : mg "Twice" = some (.ref (cl mg "Twice"))
  n_NoForm : mg "NoForm" = some (.ref (cl mg "NoForm"))
  xc : XTab K [cl mg "FormError", cl mg "NoPlace", cl mg "BadText", cl mg "TooLong", cl mg "BadPaper", cl mg "BadName", cl mg "Twice", cl mg "NoForm"] [[true, false, false, false, false, false, false, false], [true, true, false, false, false, false, false, false], [true, false, true, false, false, false, false, false], [true, false, false, true, false, false, false, false], [true, false, false, false, true, false, false, false], [true, false, false, false, false, true, false, false], [true, false, false, false, false, false, true, false], [true, false, false, false, false, false, false, true]]
section
variable {K : PySem.W.Frag} {mg : Str → Option Value}
theorem xc_FormError (T : Txt K mg) : XC K mg "FormError" (cl mg "FormError") := ⟨T.n_FormError, T.xc.ow _ (by simp)⟩
theorem xc_NoPlace (T : Txt K mg) : XC K mg "NoPlace" (cl mg "NoPlace") := ⟨T.n_NoPlace, T.xc.ow _ (by simp)⟩
theorem xcl_NoPlace (T : Txt K mg) : XCl K (cl mg "NoPlace") := T.xc.xcl 1 rfl
theorem vee_NoPlace (T : Txt K mg) : PySem.W.kitOne K (.ref (cl mg "NoPlace")) (.type "ValueError") = some true := T.xc.vee 1 rfl
theorem isa_NoPlace_FormError (T : Txt K mg) : IsA K (cl mg "NoPlace") (cl mg "FormError") true := T.xc.isa 1 0 rfl rfl rfl rfl
theorem kit_NoPlace_NoPlace (T : Txt K mg) : PySem.W.kitOne K (.ref (cl mg "NoPlace")) (.ref (cl mg "NoPlace")) = some true := T.xc.kit 1 1 rfl rfl rfl rfl
theorem kit_NoPlace_BadText (T : Txt K mg) : PySem.W.kitOne K (.ref (cl mg "NoPlace")) (.ref (cl mg "BadText")) = some false := T.xc.kit 1 2 rfl rfl rfl rfl
theorem kit_NoPlace_TooLong (T : Txt K mg) : PySem.W.kitOne K (.ref (cl mg "NoPlace")) (.ref (cl mg "TooLong")) = some false := T.xc.kit 1 3 rfl rfl rfl rfl
theorem kit_NoPlace_BadPaper (T : Txt K mg) : PySem.W.kitOne K (.ref (cl mg "NoPlace")) (.ref (cl mg "BadPaper")) = some false := T.xc.kit 1 4 rfl rfl rfl rfl
theorem kit_NoPlace_BadName (T : Txt K mg) : PySem.W.kitOne K (.ref (cl mg "NoPlace")) (.ref (cl mg "BadName")) = some false := T.xc.kit 1 5 rfl rfl rfl rfl
theorem kit_NoPlace_Twice (T : Txt K mg) : PySem.W.kitOne K (.ref (cl mg "NoPlace")) (.ref (cl mg "Twice")) = some false := T.xc.kit 1 6 rfl rfl rfl rfl
theorem kit_NoPlace_NoForm (T : Txt K mg) : PySem.W.kitOne K (.ref (cl mg "NoPlace")) (.ref (cl mg "NoForm")) = some false := T.xc.kit 1 7 rfl rfl rfl rfl
theorem xc_BadText (T : Txt K mg) : XC K mg "BadText" (cl mg "BadText") := ⟨T.n_BadText, T.xc.ow _ (by simp)⟩
theorem xc_TooLong (T : Txt K mg) : XC K mg "TooLong" (cl mg "TooLong") := ⟨T.n_TooLong, T.xc.ow _ (by simp)⟩
theorem xcl_TooLong (T : Txt K mg) : XCl K (cl mg "TooLong") := T.xc.xcl 3 rfl
theorem vee_TooLong (T : Txt K mg) : PySem.W.kitOne K (.ref (cl mg "TooLong")) (.type "ValueError") = some true := T.xc.vee 3 rfl
theorem isa_TooLong_FormError (T : Txt K mg) : IsA K (cl mg "TooLong") (cl mg "FormError") true := T.xc.isa 3 0 rfl rfl rfl rfl
theorem kit_TooLong_NoPlace (T : Txt K mg) : PySem.W.kitOne K (.ref (cl mg "TooLong")) (.ref (cl mg "NoPlace")) = some false := T.xc.kit 3 1 rfl rfl rfl rfl
theorem kit_TooLong_BadText (T : Txt K mg) : PySem.W.kitOne K (.ref (cl mg "TooLong")) (.ref (cl mg "BadText")) = some false := T.xc.kit 3 2 rfl rfl rfl rfl
theorem kit_TooLong_TooLong (T : Txt K mg) : PySem.W.kitOne K (.ref (cl mg "TooLong")) (.ref (cl mg "TooLong")) = some true := T.xc.kit 3 3 rfl rfl rfl rfl
theorem kit_TooLong_BadPaper (T : Txt K mg) : PySem.W.kitOne K (.ref (cl mg "TooLong")) (.ref (cl mg "BadPaper")) = some false := T.xc.kit 3 4 rfl rfl rfl rfl
theorem kit_TooLong_BadName (T : Txt K mg) : PySem.W.kitOne K (.ref (cl mg "TooLong")) (.ref (cl mg "BadName")) = some false := T.xc.kit 3 5 rfl rfl rfl rfl
theorem kit_TooLong_Twice (T : Txt K mg) : PySem.W.kitOne K (.ref (cl mg "TooLong")) (.ref (cl mg "Twice")) = some false := T.xc.kit 3 6 rfl rfl rfl rfl
theorem kit_TooLong_NoForm (T : Txt K mg) : PySem.W.kitOne K (.ref (cl mg "TooLong")) (.ref (cl mg "NoForm")) = some false := T.xc.kit 3 7 rfl rfl rfl rfl
theorem xc_BadPaper (T : Txt K mg) : XC K mg "BadPaper" (cl mg "BadPaper") := ⟨T.n_BadPaper, T.xc.ow _ (by simp)⟩
theorem xc_BadName (T : Txt K mg) : XC K mg "BadName" (cl mg "BadName") := ⟨T.n_BadName, T.xc.ow _ (by simp)⟩
theorem xcl_BadName (T : Txt K mg) : XCl K (cl mg "BadName") := T.xc.xcl 5 rfl
theorem vee_BadName (T : Txt K mg) : PySem.W.kitOne K (.ref (cl mg "BadName")) (.type "ValueError") = some true := T.xc.vee 5 rfl
theorem isa_BadName_FormError (T : Txt K mg) : IsA K (cl mg "BadName") (cl mg "FormError") true := T.xc.isa 5 0 rfl rfl rfl rfl
theorem kit_BadName_NoPlace (T : Txt K mg) : PySem.W.kitOne K (.ref (cl mg "BadName")) (.ref (cl mg "NoPlace")) = some false := T.xc.kit 5 1 rfl rfl rfl rfl
theorem kit_BadName_BadText (T : Txt K mg) : PySem.W.kitOne K (.ref (cl mg "BadName")) (.ref (cl mg "BadText")) = some false := T.xc.kit 5 2 rfl rfl rfl rfl
theorem kit_BadName_TooLong (T : Txt K mg) : PySem.W.kitOne K (.ref (cl mg "BadName")) (.ref (cl mg "TooLong")) = some false := T.xc.kit 5 3 rfl rfl rfl rfl
theorem kit_BadName_BadPaper (T : Txt K mg) : PySem.W.kitOne K (.ref (cl mg "BadName")) (.ref (cl mg "BadPaper")) = some false := T.xc.kit 5 4 rfl rfl rfl rfl
theorem kit_BadName_BadName (T : Txt K mg) : PySem.W.kitOne K (.ref (cl mg "BadName")) (.ref (cl mg "BadName")) = some true := T.xc.kit 5 5 rfl rfl rfl rfl
theorem kit_BadName_Twice (T : Txt K mg) : PySem.W.kitOne K (.ref (cl mg "BadName")) (.ref (cl mg "Twice")) = some false := T.xc.kit 5 6 rfl rfl rfl rfl
theorem kit_BadName_NoForm (T : Txt K mg) : PySem.W.kitOne K (.ref (cl mg "BadName")) (.ref (cl mg "NoForm")) = some false := T.xc.kit 5 7 rfl rfl rfl rfl
theorem xc_Twice (T : Txt K mg) : XC K mg "Twice" (cl mg "Twice") := ⟨T.n_Twice, T.xc.ow _ (by simp)⟩
theorem xcl_Twice (T : Txt K mg) : XCl K (cl mg "Twice") := T.xc.xcl 6 rfl
theorem vee_Twice (T : Txt K mg) : PySem.W.kitOne K (.ref (cl mg "Twice")) (.type "ValueError") = some true := T.xc.vee 6 rfl
theorem isa_Twice_FormError (T : Txt K mg) : IsA K (cl mg "Twice") (cl mg "FormError") true := T.xc.isa 6 0 rfl rfl rfl rfl
theorem kit_Twice_NoPlace (T : Txt K mg) : PySem.W.kitOne K (.ref (cl mg "Twice")) (.ref (cl mg "NoPlace")) = some false := T.xc.kit 6 1 rfl rfl rfl rfl
theorem kit_Twice_BadText (T : Txt K mg) : PySem.W.kitOne K (.ref (cl mg "Twice")) (.ref (cl mg "BadText")) = some false := T.xc.kit 6 2 rfl rfl rfl rfl
theorem kit_Twice_TooLong (T : Txt K mg) : PySem.W.kitOne K (.ref (cl mg "Twice")) (.ref (cl mg "TooLong")) = some false := T.xc.kit 6 3 rfl rfl rfl rfl
theorem kit_Twice_BadPaper (T : Txt K mg) : PySem.W.kitOne K (.ref (cl mg "Twice")) (.ref (cl mg "BadPaper")) = some false := T.xc.kit 6 4 rfl rfl rfl rfl
theorem kit_Twice_BadName (T : Txt K mg) : PySem.W.kitOne K (.ref (cl mg "Twice")) (.ref (cl mg "BadName")) = some false := T.xc.kit 6 5 rfl rfl rfl rfl
theorem kit_Twice_Twice (T : Txt K mg) : PySem.W.kitOne K (.ref (cl mg "Twice")) (.ref (cl mg "Twice")) = some true := T.xc.kit 6 6 rfl rfl rfl rfl
theorem kit_Twice_NoForm (T : Txt K mg) : PySem.W.kitOne K (.ref (cl mg "Twice")) (.ref (cl mg "NoForm")) = some false := T.xc.kit 6 7 rfl rfl rfl rfl
theorem xc_NoForm (T : Txt K mg) : XC K mg "NoForm" (cl mg "NoForm") := ⟨T.n_NoForm, T.xc.ow _ (by simp)⟩
theorem xcl_NoForm (T : Txt K mg) : XCl K (cl mg "NoForm") := T.xc.xcl 7 rfl
theorem vee_NoForm (T : Txt K mg) : PySem.W.kitOne K (.ref (cl mg "NoForm")) (.type "ValueError") = some true := T.xc.vee 7 rfl
theorem isa_NoForm_FormError (T : Txt K mg) : IsA K (cl mg "NoForm") (cl mg "FormError") true := T.xc.isa 7 0 rfl rfl rfl rfl
theorem kit_NoForm_NoPlace (T : Txt K mg) : PySem.W.kitOne K (.ref (cl mg "NoForm")) (.ref (cl mg "NoPlace")) = some false := T.xc.kit 7 1 rfl rfl rfl rfl
theorem kit_NoForm_BadText (T : Txt K mg) : PySem.W.kitOne K (.ref (cl mg "NoForm")) (.ref (cl mg "BadText")) = some false := T.xc.kit 7 2 rfl rfl rfl rfl
theorem kit_NoForm_TooLong (T : Txt K mg) : PySem.W.kitOne K (.ref (cl mg "NoForm")) (.ref (cl mg "TooLong")) = some false := T.xc.kit 7 3 rfl rfl rfl rfl
theorem kit_NoForm_BadPaper (T : Txt K mg) : PySem.W.kitOne K (.ref (cl mg "NoForm")) (.ref (cl mg "BadPaper")) = some false := T.xc.kit 7 4 rfl rfl rfl rfl
theorem kit_NoForm_BadName (T : Txt K mg) : PySem.W.kitOne K (.ref (cl mg "NoForm")) (.ref (cl mg "BadName")) = some false := T.xc.kit 7 5 rfl rfl rfl rfl
theorem kit_NoForm_Twice (T : Txt K mg) : PySem.W.kitOne K (.ref (cl mg "NoForm")) (.ref (cl mg "Twice")) = some false := T.xc.kit 7 6 rfl rfl rfl rfl
theorem kit_NoForm_NoForm (T : Txt K mg) : PySem.W.kitOne K (.ref (cl mg "NoForm")) (.ref (cl mg "NoForm")) = some true := T.xc.kit 7 7 rfl rfl rfl rfl
end
section
variable {P : Program} {w : World} {K : PySem.W.Frag} {mg : Str → Option Value} {base : Heap}
noncomputable def kLaw : Nat := 190
theorem rt_done {Q : KD} {d : D} {M : DH} (q : Q d M) : (endsOf Q).rt d M := ⟨M, Sub.refl M, q⟩
inductive Tree where
  | block (n : Str) (ps : List Tree)
  | blank (k : Int)
mutual
noncomputable def Tree.d : Tree → D
  | .block n ps => .tup [.str "block", .str n, .tup (Tree.ds ps)]
  | .blank k => .tup [.str "blank", .int k]
noncomputable def Tree.ds : List Tree → List D
  | [] => []
  | t :: ts => t.d :: Tree.ds ts
end
mutual
noncomputable def Tree.knots : Tree → Nat
  | .block _ ps => Tree.knotss ps + 1
  | .blank _ => 1
noncomputable def Tree.knotss : List Tree → Nat
  | [] => 0
  | t :: ts => t.knots + Tree.knotss ts
end
mutual
noncomputable def Tree.depth : Tree → Nat
  | .block _ ps => Tree.depths ps + 1
  | .blank _ => 1
noncomputable def Tree.depths : List Tree → Nat
  | [] => 0
  | t :: ts => max t.depth (Tree.depths ts)
end
noncomputable def Tree.parts : Tree → List Tree
  | .block _ ps => ps
  | .blank _ => []
theorem ds_map : ∀ ts : List Tree, Tree.ds ts = ts.map Tree.d
  | [] => rfl
  | t :: ts => by rw [Tree.ds, ds_map ts]; rfl
theorem knots_parts (t : Tree) : t.knots = Tree.knotss t.parts + 1 := by cases t <;> rfl
theorem depth_parts (t : Tree) : t.depth = Tree.depths t.parts + 1 := by cases t <;> rfl
theorem depth_get : ∀ {ts : List Tree} {i : Nat} {t : Tree}, ts[i]? = some t → t.depth ≤ Tree.depths ts
  | [], _, _, e => by simp at e
  | t :: ts, 0, _, e => by simp at e; subst e; simp only [Tree.depths]; (first | lia | omega)
  | t :: ts, i + 1, _, e => by
    have := depth_get (ts := ts) (i := i) (by simpa using e)
    simp only [Tree.depths]; (first | lia | omega)
theorem knotss_take : ∀ (ts : List Tree) (i : Nat) (t : Tree), ts[i]? = some t → Tree.knotss (ts.take (i + 1)) = Tree.knotss (ts.take i) + t.knots
  | [], _, _, e => by simp at e
  | t :: ts, 0, _, e => by simp at e; subst e; simp [Tree.knotss]
  | t :: ts, i + 1, _, e => by
    have := knotss_take ts i _ (by simpa using e)
    simp only [List.take_succ_cons, Tree.knotss] at this ⊢
    (first | lia | omega)
theorem depths_take : ∀ (ts : List Tree) (i : Nat) (t : Tree), ts[i]? = some t → Tree.depths (ts.take (i + 1)) = max (Tree.depths (ts.take i)) t.depth
  | [], _, _, e => by simp at e
  | t :: ts, 0, _, e => by simp at e; subst e; simp [Tree.depths]
  | t :: ts, i + 1, _, e => by
    have := depths_take ts i _ (by simpa using e)
    rw [List.take_succ_cons, List.take_succ_cons, Tree.depths, Tree.depths, this, Nat.max_assoc]
noncomputable def spParts : SpD := fun ds M Q => ∃ t : Tree, ds = [t.d] ∧ Q (.tup (t.parts.map Tree.d)) M
theorem ok_parts_of (T : Txt K mg) : FnD P w K mg base 1 "parts_of" ["tree"] spParts := by
  refine def_ok T.f_parts_of sc_parts_of (fun ds M Q h => ?_) fun f cdv A outer s H E hr => ⟨_, (ss_cons (s_if (dt_cmp (od_eq hr) (d_ix (d_var 0) d_int) d_str (nomark _)) (ss_one (s_ret (d_tup a_nil))) ss_nil)
 (ss_one (s_ret (d_ix (d_var 0) d_int)))), fun ds M Q h => ?_⟩
  · obtain ⟨t, rfl, _⟩ := h; rfl
  · obtain ⟨t, rfl, q⟩ := h
    cases t with
    | blank k => exact rt_done q
    | block n ps =>
      have q' : Q (.tup (Tree.ds ps)) M := by rw [ds_map]; exact q
      exact rt_done q'
theorem fn_none {x : Str} {ps : List Str} {sp : SpD} {st : Stmt} (T : Stands K mg x st ps) (no : ∀ ds M Q, ¬ sp ds M Q) : FnD P w K mg base 0 x ps sp := by
  obtain ⟨f, fd, F, hb, hm⟩ := T
  have no' : ∀ vs H Q E, ¬ lowSp K sp vs H Q E := fun vs H Q E ⟨ds, M, Q', _, _, h, _⟩ => no ds M Q' h
  exact ⟨f, fd, ⟨fun vs H Q E h => absurd h (no' vs H Q E), fun A outer s H args us vs Q E _ _ _ _ h => absurd h (no' vs H Q E)⟩, hm, F.kp, hb⟩
theorem depth_pos (t : Tree) : 0 < t.depth := by rw [depth_parts]; (first | lia | omega)
mutual
theorem depth_le_knots : ∀ t : Tree, t.depth ≤ t.knots
  | .block n ps => by rw [Tree.depth, Tree.knots]; have := depths_le_knotss ps; (first | lia | omega)
  | .blank k => Nat.le_refl _
theorem depths_le_knotss : ∀ ts : List Tree, Tree.depths ts ≤ Tree.knotss ts
  | [] => Nat.le_refl _
  | t :: ts => by rw [Tree.depths, Tree.knotss]; have := depth_le_knots t; have := depths_le_knotss ts; (first | lia | omega)
end
theorem length_knotss : ∀ ts : List Tree, ts.length ≤ Tree.knotss ts
  | [] => Nat.le_refl _
  | t :: ts => by have h1 := length_knotss ts; have h2 := depth_le_knots t; have h3 := depth_pos t; rw [List.length_cons, Tree.knotss]; (first | lia | omega)
theorem ifT {c : Prop} [Decidable c] {A B : Prop} (h : c) (a : A) : if decide c = true then A else B := by rw [decide_eq_true h, if_pos rfl]; exact a
theorem ifF {c : Prop} [Decidable c] {A B : Prop} (h : ¬ c) (b : B) : if decide c = true then A else B := by rw [decide_eq_false h, if_neg Bool.false_ne_true]; exact b
theorem upd_none {M : DH} {a b : Addr} {o : MO} (h : updM M a o b = none) : b ≠ a ∧ M b = none := by
  have hne : b ≠ a := by intro z; subst z; rw [updM_same] at h; cases h
  exact ⟨hne, by rw [updM_ne hne] at h; exact h⟩
theorem sub_upd {M0 M : DH} {a : Addr} {o : MO} (s : Sub M0 M) (h : M0 a = none) : Sub M0 (updM M a o) := fun b u e => by
  rw [updM_ne (by intro z; subst z; rw [h] at e; cases e)]; exact s b u e
theorem knots_get : ∀ {ts : List Tree} {i : Nat} {t : Tree}, ts[i]? = some t → t.knots ≤ Tree.knotss ts
  | [], _, _, e => by simp at e
  | t :: ts, 0, _, e => by simp at e; subst e; simp only [Tree.knotss]; (first | lia | omega)
  | t :: ts, i + 1, _, e => by
    have := knots_get (ts := ts) (i := i) (by simpa using e)
    simp only [Tree.knotss]; (first | lia | omega)
noncomputable abbrev PT' := List Int × Tree
mutual
noncomputable def pre (p : List Int) : Tree → List PT'
  | .block n ps => (p, .block n ps) :: pres p 0 ps
  | .blank k => [(p, .blank k)]
noncomputable def pres (p : List Int) (i : Nat) : List Tree → List PT'
  | [] => []
  | t :: ts => pre (p ++ [(i : Int)]) t ++ pres p (i + 1) ts
end
theorem knotss_take_le : ∀ (ts : List Tree) (i : Nat), Tree.knotss (ts.take i) ≤ Tree.knotss ts
  | [], i => by simp
  | t :: ts, 0 => by simp [Tree.knotss]
  | t :: ts, i + 1 => by have := knotss_take_le ts i; simp only [List.take_succ_cons, Tree.knotss]; (first | lia | omega)
theorem updM_self {M : DH} {a : Addr} {o : MO} (h : M a = some o) : updM M a o = M := by
  funext b
  by_cases z : b = a
  · subst z; rw [updM_same, h]
  · rw [updM_ne z]
noncomputable def isL (k : Nat) : Bool := !decide (k < 97) && !decide (122 < k)
noncomputable def isF (k : Nat) : Bool := !decide (k < 48) && !decide (57 < k)
theorem one_lt (a b : Nat) : decide (([a] : List Nat) < [b]) = decide (a < b) := by
  by_cases h : a < b
  · rw [decide_eq_true h, decide_eq_true]; exact List.Lex.rel h
  · rw [decide_eq_false h, decide_eq_false]
    intro z
    cases z with
    | rel z => exact h z
    | cons z => cases z
noncomputable def spSign (p : Nat → Bool) : SpD := fun ds M Q => ∃ k : Nat, ds = [.str ⟨#[k]⟩] ∧ Q (.bl (p k)) M
theorem ok_is_letter (T : Txt K mg) : FnD P w K mg base 1 "is_letter" ["sign"] (spSign isL) := by
  refine def_ok T.f_is_letter sc_is_letter (fun ds M Q h => ?_) fun f cdv A outer s H E hr => ⟨_, (ss_one (s_ret (d_chain od_le od_le d_str (d_var 0) d_str))), fun ds M Q h => ?_⟩
  · obtain ⟨k, rfl, _⟩ := h; rfl
  · obtain ⟨k, rfl, q⟩ := h
    have e1 : decide (([k] : List Nat) < (Str.ofString "a").cps.toList) = decide (k < 97) := one_lt k 97
    have e2 : decide ((Str.ofString "z").cps.toList < ([k] : List Nat)) = decide (122 < k) := one_lt 122 k
    simp only [DL.sSeq, DL.sAsg, DL.sRet, DL.sRetN, DL.sIf, DL.sNext, DL.sDrop, DL.sAug, DL.sFor, DL.sFor1, DL.sFor2, DL.sFor3, DL.sWhile, DL.hName, DL.hTup, DL.hCons, DL.hNil, DL.hSub, DL.eVar, DL.eC, DL.eOp, DL.eTest, DL.eChain, DL.eTup, DL.eLst, DL.eCB, DL.eCall, DL.eSl, DL.eBM, DL.eBM0, DL.eTru, DL.eNeg, DL.eIfx, DL.eNil, DL.eCons, DL.oNone, DL.oSome, DL.bAnd, DL.bOr, DL.bNot, DL.vAnd, DL.vOr, DL.vNot, DL.dI, DL.dIC, DL.addD, DL.mulSD, DL.leSD, DL.eqD, DL.neD, DL.inD, DL.inXD, DL.eDict0, DL.ixKD, DL.setKD, DL.hSubK, DL.isDic, DL.getKD, DL.eGet2, DL.lenKD, DL.listKD, DL.keyOf, DL.sForE, DL.forED, DL.sForE1, DL.forE1, DL.sForK, DL.forKD, DL.isD, DL.neXD, DL.compR, DL.eCompR, DL.isiKD, DL.ixD, DL.slD, DL.appendD, DL.popD, DL.lenD, DL.intD, DL.max2D, DL.min2D, DL.tupleD, DL.listD, DL.maxL, DL.allD, DL.truD, DL.tyD, DL.iaddD, DL.startD, DL.onBl, DL.onInt, DL.onVal, DL.onSome, DL.setD, DL.forD, DL.for1D, DL.for2D, DL.for3D, DL.compX, DL.eComp, DL.tTrue, List.map_cons, List.map_nil, List.replicate, List.length_cons, List.length_nil, Nat.sub_self, List.append_nil, List.nil_append, List.cons_append, List.getElem?_cons_zero, List.getElem?_cons_succ, List.set_cons_zero, List.set_cons_succ, Nat.reduceAdd, Nat.reduceSub, Nat.zero_add, if_true, if_false, ite_true, ite_false, Bool.not_true, Bool.not_false, Bool.false_eq_true, reduceCtorEq]
    simp only [e1, e2]
    unfold isL at q
    cases h1 : decide (k < 97) with
    | true => rw [h1] at q; exact rt_done q
    | false => rw [h1] at q; exact rt_done q
theorem ok_is_figure (T : Txt K mg) : FnD P w K mg base 1 "is_figure" ["sign"] (spSign isF) := by
  refine def_ok T.f_is_figure sc_is_figure (fun ds M Q h => ?_) fun f cdv A outer s H E hr => ⟨_, (ss_one (s_ret (d_chain od_le od_le d_str (d_var 0) d_str))), fun ds M Q h => ?_⟩
  · obtain ⟨k, rfl, _⟩ := h; rfl
  · obtain ⟨k, rfl, q⟩ := h
    have e1 : decide (([k] : List Nat) < (Str.ofString "0").cps.toList) = decide (k < 48) := one_lt k 48
    have e2 : decide ((Str.ofString "9").cps.toList < ([k] : List Nat)) = decide (57 < k) := one_lt 57 k
    simp only [DL.sSeq, DL.sAsg, DL.sRet, DL.sRetN, DL.sIf, DL.sNext, DL.sDrop, DL.sAug, DL.sFor, DL.sFor1, DL.sFor2, DL.sFor3, DL.sWhile, DL.hName, DL.hTup, DL.hCons, DL.hNil, DL.hSub, DL.eVar, DL.eC, DL.eOp, DL.eTest, DL.eChain, DL.eTup, DL.eLst, DL.eCB, DL.eCall, DL.eSl, DL.eBM, DL.eBM0, DL.eTru, DL.eNeg, DL.eIfx, DL.eNil, DL.eCons, DL.oNone, DL.oSome, DL.bAnd, DL.bOr, DL.bNot, DL.vAnd, DL.vOr, DL.vNot, DL.dI, DL.dIC, DL.addD, DL.mulSD, DL.leSD, DL.eqD, DL.neD, DL.inD, DL.inXD, DL.eDict0, DL.ixKD, DL.setKD, DL.hSubK, DL.isDic, DL.getKD, DL.eGet2, DL.lenKD, DL.listKD, DL.keyOf, DL.sForE, DL.forED, DL.sForE1, DL.forE1, DL.sForK, DL.forKD, DL.isD, DL.neXD, DL.compR, DL.eCompR, DL.isiKD, DL.ixD, DL.slD, DL.appendD, DL.popD, DL.lenD, DL.intD, DL.max2D, DL.min2D, DL.tupleD, DL.listD, DL.maxL, DL.allD, DL.truD, DL.tyD, DL.iaddD, DL.startD, DL.onBl, DL.onInt, DL.onVal, DL.onSome, DL.setD, DL.forD, DL.for1D, DL.for2D, DL.for3D, DL.compX, DL.eComp, DL.tTrue, List.map_cons, List.map_nil, List.replicate, List.length_cons, List.length_nil, Nat.sub_self, List.append_nil, List.nil_append, List.cons_append, List.getElem?_cons_zero, List.getElem?_cons_succ, List.set_cons_zero, List.set_cons_succ, Nat.reduceAdd, Nat.reduceSub, Nat.zero_add, if_true, if_false, ite_true, ite_false, Bool.not_true, Bool.not_false, Bool.false_eq_true, reduceCtorEq]
    simp only [e1, e2]
    unfold isF at q
    cases h1 : decide (k < 48) with
    | true => rw [h1] at q; exact rt_done q
    | false => rw [h1] at q; exact rt_done q
noncomputable def nameL (cs : List Nat) : Bool := match cs with
  | [] => false
  | c :: r => decide (r.length < 12) && isL c && r.all fun k => isL k || isF k
noncomputable def fS : D → Option D
  | .str x => some (.bl (isL (x.cps.getD 0 0) || isF (x.cps.getD 0 0)))
  | _ => none
theorem signs_f (z : Str) : (DL.signs z).filterMap fS = (z.cps.toList.map fun k => isL k || isF k).map D.bl := by
  unfold DL.signs
  induction z.cps.toList with
  | nil => rfl
  | cons c r ih => simp only [List.map_cons, List.filterMap_cons, fS, ih]; rfl
theorem Fgt.set {τ0 : DSt} {i : Nat} {v : Option D} (h : τ0[i]? = some none) : Fgt τ0 (τ0.set i v) := by
  refine ⟨List.length_set, fun j d e => ?_⟩
  rw [List.getElem?_set]
  by_cases hj : i = j
  · subst hj; rw [h] at e; cases e
  · rw [if_neg hj]; exact e
noncomputable def spName : SpD := fun ds M Q => ∃ z : Str, ds = [.str z] ∧ z.length ≤ 1000 ∧ Q (.bl (nameL z.cps.toList)) M
theorem ok_is_name (T : Txt K mg) (F_is_letter : FnD P w K mg base 1 "is_letter" ["sign"] (spSign isL)) (F_is_figure : FnD P w K mg base 1 "is_figure" ["sign"] (spSign isF)) : FnD P w K mg base 2 "is_name" ["text"] spName := by
  have m_all := T.m_all
  have m_len := T.m_len
  obtain ⟨t_MOST_NAME_SIGNS, g_MOST_NAME_SIGNS⟩ := T.g_MOST_NAME_SIGNS
  refine def_ok T.f_is_name sc_is_name (fun ds M Q h => ?_) fun f cdv A outer s H E hr => ⟨_, (ss_cons (s_if (dt_not (dt_chain od_le od_le d_int (d_callB cd_len rfl m_len bt_len (a_cons (d_var 0) a_nil)) (d_glob_int rfl g_MOST_NAME_SIGNS ⟨_, rfl⟩))) (ss_one (s_ret d_bl)) ss_nil)
 (ss_cons (s_if (dt_not (dt_val (d_call F_is_letter (hr.mono (by (first | lia | omega))) (a_cons (d_ix (d_var 0) d_int) a_nil)))) (ss_one (s_ret d_bl)) ss_nil)
 (ss_one (s_ret (d_callB (cd_all rfl) rfl m_all bt_all (a_cons (d_comp (Nc := ["sign"]) (js := [none]) (comp_ok0 (by decide +kernel) (by decide +kernel) (by decide +kernel) rfl rfl) rfl (d_var 0) (fun C s H fp => (g_name (i := 0) (by show List.Nodup (["sign"] : List Str); decide +kernel))) (fun C s H fp => Or.inl ⟨rfl, rfl⟩) (fun C s H fp => (d_or (d_call F_is_letter (hr.mono (by (first | lia | omega))) (a_cons (d_var 0) a_nil)) (d_one (d_call F_is_figure (hr.mono (by (first | lia | omega))) (a_cons (d_var 0) a_nil)))))) a_nil)))))), fun ds M Q h => ?_⟩
  · obtain ⟨k, rfl, _⟩ := h; rfl
  · obtain ⟨z, rfl, hz, q⟩ := h
    have hlen : z.length = z.cps.toList.length := by show z.cps.size = _; simp
    simp only [DL.sSeq, DL.sAsg, DL.sRet, DL.sRetN, DL.sIf, DL.sNext, DL.sDrop, DL.sAug, DL.sFor, DL.sFor1, DL.sFor2, DL.sFor3, DL.sWhile, DL.hName, DL.hTup, DL.hCons, DL.hNil, DL.hSub, DL.eVar, DL.eC, DL.eOp, DL.eTest, DL.eChain, DL.eTup, DL.eLst, DL.eCB, DL.eCall, DL.eSl, DL.eBM, DL.eBM0, DL.eTru, DL.eNeg, DL.eIfx, DL.eNil, DL.eCons, DL.oNone, DL.oSome, DL.bAnd, DL.bOr, DL.bNot, DL.vAnd, DL.vOr, DL.vNot, DL.dI, DL.dIC, DL.addD, DL.mulSD, DL.leSD, DL.eqD, DL.neD, DL.inD, DL.inXD, DL.eDict0, DL.ixKD, DL.setKD, DL.hSubK, DL.isDic, DL.getKD, DL.eGet2, DL.lenKD, DL.listKD, DL.keyOf, DL.sForE, DL.forED, DL.sForE1, DL.forE1, DL.sForK, DL.forKD, DL.isD, DL.neXD, DL.compR, DL.eCompR, DL.isiKD, DL.ixD, DL.slD, DL.appendD, DL.popD, DL.lenD, DL.intD, DL.max2D, DL.min2D, DL.tupleD, DL.listD, DL.maxL, DL.allD, DL.truD, DL.tyD, DL.iaddD, DL.startD, DL.onBl, DL.onInt, DL.onVal, DL.onSome, DL.setD, DL.forD, DL.for1D, DL.for2D, DL.for3D, DL.compX, DL.eComp, DL.tTrue, List.map_cons, List.map_nil, List.replicate, List.length_cons, List.length_nil, Nat.sub_self, List.append_nil, List.nil_append, List.cons_append, List.getElem?_cons_zero, List.getElem?_cons_succ, List.set_cons_zero, List.set_cons_succ, Nat.reduceAdd, Nat.reduceSub, Nat.zero_add, if_true, if_false, ite_true, ite_false, Bool.not_true, Bool.not_false, Bool.false_eq_true, reduceCtorEq]
    refine ⟨line1000 hz, ?_⟩
    cases hcs : z.cps.toList with
    | nil =>
      rw [hcs] at hlen q
      have h1 : ¬ (1 : Int) ≤ (z.length : Int) := by rw [hlen]; decide
      rw [if_neg (by simpa using h1)]
      exact rt_done q
    | cons c r =>
      rw [hcs] at hlen q
      have hl : z.length = r.length + 1 := hlen
      have h1 : (1 : Int) ≤ (z.length : Int) := by rw [hl]; (first | lia | omega)
      rw [if_pos (by simpa using h1)]
      by_cases h12 : r.length < 12
      · have h2 : ((z.length : Int) ≤ 12) := by rw [hl]; (first | lia | omega)
        rw [decide_eq_true h2, if_neg (by decide)]
        refine ⟨line1000 hz, c, atI_nat (j := 0) rfl, c, rfl, ?_⟩
        cases hc : isL c with
        | false =>
          have e : nameL (c :: r) = false := by simp [nameL, hc]
          rw [e] at q
          exact rt_done q
        | true =>
          refine ⟨?_, fS, ?_, fun p hp => ?_⟩
          · rw [DL.signs_length]; show z.length ≤ _; (first | lia | omega)
          · intro d hd p acc hp
            obtain ⟨k, hk, rfl⟩ := List.mem_map.mp hd
            refine ⟨Fgt.set rfl, ?_⟩
            refine ⟨k, rfl, ?_⟩
            cases hL : isL k with
            | true => exact ⟨rfl, by simp [fS, hL]⟩
            | false =>
              refine ⟨k, rfl, rfl, ?_⟩
              simp [fS, hL]
          · refine ⟨(c :: r).map fun k => isL k || isF k, ?_, ?_⟩
            · rw [updM_same, signs_f, hcs]
            · refine ⟨M, Sub.new hp, ?_⟩
              have e : nameL (c :: r) = ((c :: r).map fun k => isL k || isF k).all id := by
                simp [nameL, hc, h12, List.all_map]
              rw [e] at q
              exact q
      · have h2 : ¬ ((z.length : Int) ≤ 12) := by rw [hl]; (first | lia | omega)
        rw [decide_eq_false h2, if_pos (by decide)]
        have e : nameL (c :: r) = false := by simp [nameL, h12]
        rw [e] at q
        exact rt_done q
noncomputable def spKnots (n : Nat) : SpD := fun ds M Q => ∃ t : Tree, ds = [t.d] ∧ t.depth ≤ n ∧ Q (.int t.knots) M
noncomputable def spDepth (n : Nat) : SpD := fun ds M Q => ∃ t : Tree, ds = [t.d] ∧ t.depth ≤ n ∧ Q (.int t.depth) M
theorem ok_knots_of (T : Txt K mg) : ∀ n : Nat, FnD P w K mg base (n + 1) "knots_of" ["tree"] (spKnots n)
  | 0 => (fn_none T.f_knots_of fun ds M Q ⟨t, _, h, _⟩ => by have := depth_pos t; (first | lia | omega)).mono (by (first | lia | omega))
  | n + 1 => by
    have F_knots_of := ok_knots_of T n
    have F_parts_of := ok_parts_of (P := P) (w := w) (base := base) T
    refine def_ok T.f_knots_of sc_knots_of (fun ds M Q h => ?_) fun f cdv A outer s H E hr => ⟨_, (ss_cons (s_set (i := 1) sc_knots_of.nd d_int)
 (ss_cons (s_for PassesOwn.never rfl (d_call F_parts_of (hr.mono (by (first | lia | omega))) (a_cons (d_var 0) a_nil)) (g_name (i := 2) sc_knots_of.nd) (ss_one (s_aug (i := 1) sc_knots_of.nd (d_call F_knots_of (hr.mono (by (first | lia | omega))) (a_cons (d_var 2) a_nil)))))
 (ss_one (s_ret (d_var 1))))), fun ds M Q h => ?_⟩
    · obtain ⟨t, rfl, _⟩ := h; rfl
    · obtain ⟨t, rfl, hd, q⟩ := h
      rw [depth_parts] at hd
      rw [knots_parts] at q
      refine ⟨t, rfl, ?_⟩
      refine ⟨fun i τ M' => (∃ v : Option D, τ = [some t.d, some (.int ((Tree.knotss (t.parts.take i) + 1 : Nat) : Int)), v]) ∧ M' = M, ⟨⟨none, rfl⟩, rfl⟩, fun _ _ _ _ _ => trivial, ?_, ?_⟩
      · rintro i d τ M' ed ⟨⟨v, rfl⟩, rfl⟩
        rw [List.getElem?_map] at ed
        cases e : t.parts[i]? with
        | none => rw [e] at ed; cases ed
        | some p =>
          rw [e] at ed
          cases ed
          have h1 := depth_get e
          have h2 := knotss_take _ _ _ e
          refine ⟨p, rfl, by (first | lia | omega), ⟨some p.d, ?_⟩, rfl⟩
          rw [h2]
          show [_, some (D.int (((Tree.knotss (t.parts.take i) + 1 : Nat) : Int) + (p.knots : Int))), _] = _
          have e3 : (((Tree.knotss (t.parts.take i) + 1 : Nat) : Int) + (p.knots : Int)) = ((Tree.knotss (t.parts.take i) + p.knots + 1 : Nat) : Int) := by (first | lia | omega)
          rw [e3]
      · rintro τ M' ⟨⟨v, rfl⟩, rfl⟩
        rw [List.length_map, List.take_length]
        exact rt_done q
theorem ok_depth_of (T : Txt K mg) : ∀ n : Nat, FnD P w K mg base (n + 1) "depth_of" ["tree"] (spDepth n)
  | 0 => (fn_none T.f_depth_of fun ds M Q ⟨t, _, h, _⟩ => by have := depth_pos t; (first | lia | omega)).mono (by (first | lia | omega))
  | n + 1 => by
    have m_max := T.m_max
    have F_depth_of := ok_depth_of T n
    have F_parts_of := ok_parts_of (P := P) (w := w) (base := base) T
    refine def_ok T.f_depth_of sc_depth_of (fun ds M Q h => ?_) fun f cdv A outer s H E hr => ⟨_, (ss_cons (s_set (i := 1) sc_depth_of.nd d_int)
 (ss_cons (s_for PassesOwn.never rfl (d_call F_parts_of (hr.mono (by (first | lia | omega))) (a_cons (d_var 0) a_nil)) (g_name (i := 2) sc_depth_of.nd) (ss_one (s_set (i := 1) sc_depth_of.nd (d_callB (cd_max2 rfl) rfl m_max bt_max (a_cons (d_var 1) (a_cons (d_call F_depth_of (hr.mono (by (first | lia | omega))) (a_cons (d_var 2) a_nil)) a_nil))))))
 (ss_one (s_ret (d_op od_add (d_var 1) d_int))))), fun ds M Q h => ?_⟩
    · obtain ⟨t, rfl, _⟩ := h; rfl
    · obtain ⟨t, rfl, hd, q⟩ := h
      rw [depth_parts] at hd q
      refine ⟨t, rfl, ?_⟩
      refine ⟨fun i τ M' => (∃ v : Option D, τ = [some t.d, some (.int ((Tree.depths (t.parts.take i) : Nat) : Int)), v]) ∧ M' = M, ⟨⟨none, rfl⟩, rfl⟩, fun _ _ _ _ _ => trivial, ?_, ?_⟩
      · rintro i d τ M' ed ⟨⟨v, rfl⟩, rfl⟩
        rw [List.getElem?_map] at ed
        cases e : t.parts[i]? with
        | none => rw [e] at ed; cases ed
        | some p =>
          rw [e] at ed
          cases ed
          have h1 := depth_get e
          have h2 := depths_take _ _ _ e
          refine ⟨p, rfl, by (first | lia | omega), ⟨some p.d, ?_⟩, rfl⟩
          rw [h2]
          show [_, some (D.int (if (p.depth : Int) > ((Tree.depths (t.parts.take i) : Nat) : Int) then (p.depth : Int) else ((Tree.depths (t.parts.take i) : Nat) : Int))), _] = _
          have e3 : (if (p.depth : Int) > ((Tree.depths (t.parts.take i) : Nat) : Int) then (p.depth : Int) else ((Tree.depths (t.parts.take i) : Nat) : Int)) = ((max (Tree.depths (t.parts.take i)) p.depth : Nat) : Int) := by split <;> (first | lia | omega)
          rw [e3]
      · rintro τ M' ⟨⟨v, rfl⟩, rfl⟩
        rw [List.length_map, List.take_length]
        refine rt_done ?_
        have e3 : ((Tree.depths t.parts : Nat) : Int) + 1 = ((Tree.depths t.parts + 1 : Nat) : Int) := by (first | lia | omega)
        rw [e3]
        exact q
mutual
noncomputable def nums : Tree → List Int
  | .block _ ps => numss ps
  | .blank k => [k]
noncomputable def numss : List Tree → List Int
  | [] => []
  | t :: ts => nums t ++ numss ts
end
noncomputable def ins (ks : List Int) (n : Int) : List Int := if n ∈ ks then ks else ks ++ [n]
noncomputable def inss (ks ns : List Int) : List Int := ns.foldl ins ks
theorem inss_app (ks a b : List Int) : inss ks (a ++ b) = inss (inss ks a) b := by simp [inss]
theorem ins_len (ks : List Int) (n : Int) : (ins ks n).length ≤ ks.length + 1 := by unfold ins; split <;> simp
theorem inss_len : ∀ (ns ks : List Int), (inss ks ns).length ≤ ks.length + ns.length
  | [], ks => Nat.le_refl _
  | n :: ns, ks => by
    have h1 := inss_len ns (ins ks n)
    have h2 := ins_len ks n
    show (inss (ins ks n) ns).length ≤ _
    rw [List.length_cons]; (first | lia | omega)
mutual
theorem nums_len : ∀ t : Tree, (nums t).length ≤ t.knots
  | .block _ ps => by rw [nums, Tree.knots]; have := numss_len ps; (first | lia | omega)
  | .blank _ => Nat.le_refl _
theorem numss_len : ∀ ts : List Tree, (numss ts).length ≤ Tree.knotss ts
  | [] => Nat.le_refl _
  | t :: ts => by rw [numss, List.length_append, Tree.knotss]; have := nums_len t; have := numss_len ts; (first | lia | omega)
end
theorem numss_take : ∀ (ts : List Tree) (i : Nat) (t : Tree), ts[i]? = some t → numss (ts.take (i + 1)) = numss (ts.take i) ++ nums t
  | [], _, _, e => by simp at e
  | t :: ts, 0, _, e => by simp at e; subst e; simp [numss]
  | t :: ts, i + 1, _, e => by
    have := numss_take ts i _ (by simpa using e)
    simp only [List.take_succ_cons, numss] at this ⊢
    rw [this, List.append_assoc]
theorem ins_keys (ks : List Int) (n : Int) : putD (ks.map fun k => ((Sum.inl k : Key), D.bl true)) (.inl n) (.bl true) = (ins ks n).map fun k => ((Sum.inl k : Key), D.bl true) := by
  have hv : (valD (ks.map fun k => ((Sum.inl k : Key), D.bl true)) (.inl n)).isSome = decide (n ∈ ks) := by
    rw [← valD_any, List.any_map]
    induction ks with
    | nil => rfl
    | cons k ks ih =>
      rw [List.any_cons, ih]
      by_cases e : k = n
      · subst e; simp
      · have e' : ¬ n = k := fun z => e z.symm
        simp [e, e']
  unfold ins
  by_cases h : n ∈ ks
  · rw [putD_old _ (by rw [hv]; exact decide_eq_true h), if_pos h, List.map_map]
    refine List.map_congr_left fun k _ => ?_
    simp only [Function.comp]
    split <;> rfl
  · rw [if_neg h, putD_new _ (by have := hv; rw [decide_eq_false h] at this; exact Option.isNone_iff_eq_none.mp (by simpa using this)), List.map_append]
    rfl
noncomputable def dk (ks : List Int) : List (Key × D) := ks.map fun k => ((Sum.inl k : Key), D.bl true)
noncomputable def spGather (n : Nat) : SpD := fun ds M Q => ∃ (t : Tree) (l : Addr) (ks : List Int), ds = [t.d, .ref l] ∧ t.depth ≤ n ∧ M l = some (.dic (dk ks)) ∧ ks.length + t.knots ≤ 1000 ∧ Q .non (updM M l (.dic (dk (inss ks (nums t)))))
theorem ok_gather (T : Txt K mg) : ∀ n : Nat, FnD P w K mg base (n + 1) "gather_blanks" ["tree", "found"] (spGather n)
  | 0 => (fn_none T.f_gather_blanks fun ds M Q ⟨t, _, _, _, h, _⟩ => by have := depth_pos t; (first | lia | omega)).mono (by (first | lia | omega))
  | n + 1 => by
    have F_gather_blanks := ok_gather T n
    have F_parts_of := ok_parts_of (P := P) (w := w) (base := base) T
    refine def_ok T.f_gather_blanks sc_gather_blanks (fun ds M Q h => ?_) fun f cdv A outer s H E hr => ⟨_, (ss_cons (s_if (dt_cmp (od_eq hr) (d_ix (d_var 0) d_int) d_str (nomark _)) (ss_one (s_asg d_bl (g_subK hr (d_var 1) (d_ix (d_var 0) d_int)))) ss_nil)
 (ss_one (s_for PassesOwn.never rfl (d_call F_parts_of (hr.mono (by (first | lia | omega))) (a_cons (d_var 0) a_nil)) (g_name (i := 2) sc_gather_blanks.nd) (ss_one (s_expr (d_call F_gather_blanks (hr.mono (by (first | lia | omega))) (a_cons (d_var 2) (a_cons (d_var 1) a_nil)))))))), fun ds M Q h => ?_⟩
    · obtain ⟨t, l, ks, rfl, _⟩ := h; rfl
    · obtain ⟨t, l, ks, rfl, hd, hl, hk, q⟩ := h
      cases t with
      | blank k =>
        refine ⟨_, _, rfl, hl, by unfold dk; rw [List.length_map]; exact small1000 (by have : (Tree.blank k).knots = 1 := rfl; (first | lia | omega)), ?_⟩
        refine ⟨.blank k, rfl, ?_⟩
        have e : putD (dk ks) (.inl k) (.bl true) = dk (inss ks (nums (.blank k))) := ins_keys ks k
        refine ⟨fun _ τ M' => M' = updM M l (.dic (dk (inss ks (nums (.blank k))))), by rw [← e], fun _ _ _ _ _ => trivial, fun i d τ M' ed => ?_, fun τ M' hW => ?_⟩
        · simp [Tree.parts] at ed
        · subst hW
          exact ⟨_, Sub.refl _, q⟩
      | block z ps =>
        rw [Tree.depth] at hd
        rw [Tree.knots] at hk
        refine ⟨.block z ps, rfl, ?_⟩
        refine ⟨fun i τ M' => (∃ v : Option D, τ = [some (Tree.block z ps).d, some (.ref l), v]) ∧ M' = updM M l (.dic (dk (inss ks (numss (ps.take i))))), ⟨⟨none, rfl⟩, (updM_self hl).symm⟩, fun _ _ _ _ _ => trivial, ?_, ?_⟩
        · rintro i d τ M' ed ⟨⟨v, rfl⟩, rfl⟩
          rw [List.getElem?_map] at ed
          cases e : (Tree.block z ps).parts[i]? with
          | none => rw [e] at ed; cases ed
          | some p =>
            rw [e] at ed
            cases ed
            have e' : ps[i]? = some p := e
            have h1 := depth_get e'
            have h2 := knotss_take _ _ _ e'
            have h3 := knotss_take_le ps (i + 1)
            have h4 := inss_len (numss (ps.take i)) ks
            have h5 := numss_len (ps.take i)
            refine ⟨p, l, _, rfl, by (first | lia | omega), updM_same, by (first | lia | omega), ?_⟩
            rw [updM_upd, ← inss_app, ← numss_take _ _ _ e']
            exact ⟨⟨_, rfl⟩, rfl⟩
        · rintro τ M' ⟨⟨v, rfl⟩, rfl⟩
          have e : (((Tree.block z ps).parts.map Tree.d).length : Nat) = ps.length := by rw [List.length_map]; rfl
          rw [e, List.take_length]
          exact ⟨_, Sub.refl _, q⟩
noncomputable def spBlanks (n : Nat) : SpD := fun ds M Q => ∃ t : Tree, ds = [t.d] ∧ t.depth ≤ n ∧ t.knots ≤ 1000 ∧ ∀ l, M l = none → Q (.ref l) (updM M l (.lst ((inss [] (nums t)).map .int)))
theorem ok_blanks_of (T : Txt K mg) (n : Nat) : FnD P w K mg base (n + 2) "blanks_of" ["tree"] (spBlanks n) := by
  have m_list := T.m_list
  have F_gather_blanks := ok_gather (P := P) (w := w) (base := base) T n
  refine def_ok T.f_blanks_of sc_blanks_of (fun ds M Q h => ?_) fun f cdv A outer s H E hr => ⟨_, (ss_cons (s_set (i := 1) sc_blanks_of.nd d_dict0)
 (ss_cons (s_expr (d_call F_gather_blanks (hr.mono (by (first | lia | omega))) (a_cons (d_var 0) (a_cons (d_var 1) a_nil))))
 (ss_one (s_ret (d_callTy (cd_listK rfl) rfl m_list bt_list (a_cons (d_var 1) a_nil)))))), fun ds M Q h => ?_⟩
  · obtain ⟨t, rfl, _⟩ := h; rfl
  · obtain ⟨t, rfl, hd, hk, q⟩ := h
    show ∀ p, M p = none → _
    intro p hp
    refine ⟨t, p, [], rfl, hd, updM_same, by simpa using hk, _, .inl updM_same, fun l hl => ?_⟩
    rw [updM_upd] at hl ⊢
    obtain ⟨l1, l2⟩ := upd_none hl
    refine ⟨updM M l (.lst ((inss [] (nums t)).map .int)), fun a o e => ?_, q l l2⟩
    have em : (dk (inss [] (nums t))).map (fun kv => keyD kv.1) = (inss [] (nums t)).map D.int := by unfold dk; rw [List.map_map]; rfl
    rw [em]
    by_cases ha : a = l
    · subst ha; rw [updM_same] at e ⊢; exact e
    · rw [updM_ne ha] at e ⊢
      rw [updM_ne (by intro z; subst z; rw [hp] at e; cases e)]
      exact e
noncomputable def tupI (p : List Int) : D := .tup (p.map .int)
noncomputable def partN (t : Tree) (k : Int) : Option Tree := if 0 ≤ k then t.parts[k.toNat]? else none
noncomputable def downN : Tree → List Int → Option Tree
  | t, [] => some t
  | t, k :: p => (partN t k).bind fun u => downN u p
theorem partN_in {t : Tree} {k : Int} {u : Tree} (h : partN t k = some u) : ∃ j : Nat, k = (j : Int) ∧ t.parts[j]? = some u ∧ j < t.parts.length := by
  unfold partN at h
  by_cases h0 : 0 ≤ k
  · rw [if_pos h0] at h
    exact ⟨k.toNat, by (first | lia | omega), h, (List.getElem?_eq_some_iff.mp h).1⟩
  · rw [if_neg h0] at h; cases h
theorem partN_out {t : Tree} {k : Int} (h : partN t k = none) : k < 0 ∨ (t.parts.length : Int) ≤ k := by
  unfold partN at h
  by_cases h0 : 0 ≤ k
  · rw [if_pos h0] at h
    have := List.getElem?_eq_none_iff.mp h
    (first | lia | omega)
  · (first | lia | omega)
theorem partN_none {t : Tree} {k : Int} (h : k < 0 ∨ (t.parts.length : Int) ≤ k) : partN t k = none := by
  unfold partN
  by_cases h0 : 0 ≤ k
  · rw [if_pos h0]
    exact List.getElem?_eq_none_iff.mpr (by (first | lia | omega))
  · rw [if_neg h0]
noncomputable def onPart (o : Option Tree) (Q : Tree → Prop) (E : Prop) : Prop := match o with
  | some u => Q u
  | none => E
noncomputable def spNPE (mg : Str → Option Value) : SpE := fun ds M Q EX => ∃ (t : Tree) (k : Int), ds = [t.d, .int k] ∧ onPart (partN t k) (fun u => Q u.d M) (EX (.ref (cl mg "NoPlace")) M)
theorem ok_npE (T : Txt K mg) : FnE P w K mg base 2 "numbered_part" ["tree", "number"] (spNPE mg) := by
  have m_len := T.m_len
  have F_parts_of := ok_parts_of (P := P) (w := w) (base := base) T
  refine def_okE T.f_numbered_part sc_numbered_part (fun ds M Q E h => ?_) fun f cdv A outer s H E EX hr hx hp => ⟨_, (ss_cons (s_set (i := 2) sc_numbered_part.nd (d_call F_parts_of (hr.mono (by (first | lia | omega))) (a_cons (d_var 0) a_nil)))
 (ss_cons (s_if (dt_not (dt_chain od_le od_lt d_int (d_var 1) (d_callB cd_len rfl m_len bt_len (a_cons (d_var 2) a_nil)))) (ss_one (s_raise hx rfl (xc_NoPlace T) (a_cons d_str a_nil))) ss_nil)
 (ss_one (s_ret (d_ix (d_var 2) (d_var 1)))))), fun ds M Q h => ?_⟩
  · obtain ⟨t, k, rfl, _⟩ := h; rfl
  · obtain ⟨t, k, rfl, q⟩ := h
    refine ⟨t, rfl, ?_⟩
    show if decide ((0 : Int) ≤ k) = true then _ else _
    cases e : partN t k with
    | some u =>
      rw [e] at q
      obtain ⟨j, rfl, hj, hlt⟩ := partN_in e
      first | refine ifT (show (0 : Int) ≤ (j : Int) by (first | lia | omega)) ?_ | rw [decide_eq_true (show (0 : Int) ≤ (j : Int) by (first | lia | omega)), if_pos rfl]
      show if (!decide ((j : Int) < (((t.parts.map Tree.d).length : Nat) : Int))) = true then _ else _
      rw [List.length_map, decide_eq_true (show (j : Int) < ((t.parts.length : Nat) : Int) by (first | lia | omega))]
      show onSome (atI (t.parts.map Tree.d) (j : Int)) _
      rw [atI_nat (v := u.d) (by rw [List.getElem?_map, hj]; rfl)]
      exact rt_done q
    | none =>
      rw [e] at q
      have q' : EX (.ref (cl mg "NoPlace")) M := q
      by_cases h0 : (0 : Int) ≤ k
      · first | refine ifT h0 ?_ | rw [decide_eq_true h0, if_pos rfl]
        have hlt : ¬ k < ((t.parts.length : Nat) : Int) := by rcases partN_out e with h | h <;> (first | lia | omega)
        show if (!decide (k < (((t.parts.map Tree.d).length : Nat) : Int))) = true then _ else _
        rw [List.length_map, decide_eq_false hlt]
        exact ⟨by show 1 ≤ 1000; decide, q'⟩
      · first | refine ifF h0 ?_ | rw [decide_eq_false h0, if_neg Bool.false_ne_true]
        exact ⟨by show 1 ≤ 1000; decide, q'⟩
noncomputable def putT : Tree → List Int → Tree → Tree
  | _, [], v => v
  | .block z ps, k :: p, v => .block z (ps.take k.toNat ++ [(match ps[k.toNat]? with
    | some u => putT u p v
    | none => v)] ++ ps.drop (k.toNat + 1))
  | .blank j, _ :: _, _ => .blank j
termination_by _ p => p.length
noncomputable def spPutE (mg : Str → Option Value) (n : Nat) : SpE := fun ds M Q EX => ∃ (t v : Tree) (p : List Int), ds = [t.d, tupI p, v.d] ∧ p.length < n ∧ t.knots ≤ 900 ∧ onPart (downN t p) (fun _ => Q (putT t p v).d M) (EX (.ref (cl mg "NoPlace")) M)
theorem cut_take {α : Type} (xs : List α) (k : Nat) : DL.cutD xs none (some (k : Int)) = xs.take k := by
  unfold DL.cutD
  rw [HT.sIx_none, HT.sIx_nat, List.drop_zero, Nat.sub_zero]
  by_cases h : k ≤ xs.length
  · rw [Nat.min_eq_left h]
  · rw [Nat.min_eq_right (by (first | lia | omega)), List.take_length, List.take_of_length_le (by (first | lia | omega))]
theorem cut_drop {α : Type} (xs : List α) (k : Nat) : DL.cutD xs (some (k : Int)) none = xs.drop k := by
  unfold DL.cutD
  rw [HT.sIx_none, HT.sIx_nat]
  by_cases h : k ≤ xs.length
  · rw [Nat.min_eq_left h, List.take_of_length_le (by rw [List.length_drop]; (first | lia | omega))]
  · rw [Nat.min_eq_right (by (first | lia | omega)), List.drop_length, List.drop_eq_nil_of_le (by (first | lia | omega))]; simp
theorem ok_putE (T : Txt K mg) : ∀ n : Nat, FnE P w K mg base (n + 3) "put_at" ["tree", "place", "part"] (spPutE mg n)
  | 0 => (fnE_none T.f_put_at fun ds M Q E ⟨t, v, p, _, h, _⟩ => by (first | lia | omega)).mono (by (first | lia | omega))
  | n + 1 => by
    have m_len := T.m_len
    have E_put_at := ok_putE T n
    have E_numbered_part := ok_npE (P := P) (w := w) (base := base) T
    have F_parts_of := ok_parts_of (P := P) (w := w) (base := base) T
    refine def_okE T.f_put_at sc_put_at (fun ds M Q E h => ?_) fun f cdv A outer s H E EX hr hx hp => ⟨_, (ss_cons (s_if (dt_cmp (od_eq hr) (d_callB cd_len rfl m_len bt_len (a_cons (d_var 1) a_nil)) d_int (nomark _)) (ss_one (s_ret (d_var 2))) ss_nil)
 (ss_cons (s_set (i := 3) sc_put_at.nd (d_ix (d_var 1) d_int))
 (ss_cons (s_set (i := 4) sc_put_at.nd (d_callE E_put_at hx.toXCame (hr.mono (by (first | lia | omega))) (a_cons (d_callE E_numbered_part hx.toXCame (hr.mono (by (first | lia | omega))) (a_cons (d_var 0) (a_cons (d_var 3) a_nil))) (a_cons (d_sl sd_sl (d_var 1) (o_some d_int) o_none) (a_cons (d_var 2) a_nil)))))
 (ss_cons (s_set (i := 5) sc_put_at.nd (d_call F_parts_of (hr.mono (by (first | lia | omega))) (a_cons (d_var 0) a_nil)))
 (ss_one (s_ret (d_tup (a_cons d_str (a_cons (d_ix (d_var 0) d_int) (a_cons (d_op od_add (d_op od_add (d_sl sd_sl (d_var 5) o_none (o_some (d_var 3))) (d_tup (a_cons (d_var 4) a_nil))) (d_sl sd_sl (d_var 5) (o_some (d_op od_add (d_var 3) d_int)) o_none)) a_nil)))))))))), fun ds M Q h => ?_⟩
    · obtain ⟨t, v, p, rfl, _⟩ := h; rfl
    · obtain ⟨t, v, p, rfl, hp', hk, q⟩ := h
      cases p with
      | nil =>
        have q' : Q v.d M := by rw [downN, putT] at q; exact q
        exact rt_done q'
      | cons k p =>
        simp only [List.length_cons] at hp'
        show onSome (atI ((k :: p).map D.int) 0) _
        rw [show atI ((k :: p).map D.int) 0 = some (.int k) from atI_nat (j := 0) rfl]
        refine ⟨t, k, rfl, ?_⟩
        have ec : DL.cutD ((k :: p).map D.int) (some 1) none = p.map D.int := cut_drop ((k :: p).map D.int) 1
        rw [downN] at q
        cases e : partN t k with
        | none =>
          rw [e] at q
          exact ⟨_, Sub.refl _, q⟩
        | some u =>
          rw [e] at q
          obtain ⟨j, rfl, hj, hlt⟩ := partN_in e
          cases t with
          | blank i => simp [Tree.parts] at hj
          | block z ps =>
            have hj' : ps[j]? = some u := hj
            have hkg := knots_get hj'
            rw [Tree.knots] at hk
            have hlp := length_knotss ps
            refine ⟨u, v, p, by show [u.d, D.tup (DL.cutD (((j : Int) :: p).map D.int) (some 1) none), v.d] = _; rw [ec]; rfl, by (first | lia | omega), by (first | lia | omega), ?_⟩
            have q2 : onPart (downN u p) (fun _ => Q (putT (.block z ps) ((j : Int) :: p) v).d M) (EX (.ref (cl mg "NoPlace")) M) := q
            cases e2 : downN u p with
            | none => rw [e2] at q2; exact ⟨_, Sub.refl _, q2⟩
            | some x =>
              rw [e2] at q2
              have q3 : Q (putT (.block z ps) ((j : Int) :: p) v).d M := q2
              rw [putT, Int.toNat_natCast, hj'] at q3
              refine ⟨.block z ps, rfl, ?_⟩
              have e1 : DL.cutD (ps.map Tree.d) none (some (j : Int)) = (ps.take j).map Tree.d := by rw [cut_take, List.map_take]
              have e3 : DL.cutD (ps.map Tree.d) (some ((j : Int) + 1)) none = (ps.drop (j + 1)).map Tree.d := by rw [show (j : Int) + 1 = ((j + 1 : Nat) : Int) by (first | lia | omega), cut_drop, List.map_drop]
              show (DL.cutD (ps.map Tree.d) none (some (j : Int))).length + 1 ≤ sizeLine ∧ ((DL.cutD (ps.map Tree.d) none (some (j : Int))) ++ [(putT u p v).d]).length + (DL.cutD (ps.map Tree.d) (some ((j : Int) + 1)) none).length ≤ sizeLine ∧ _
              rw [e1, e3]
              refine ⟨?_, ?_, M, Sub.refl M, ?_⟩
              · rw [List.length_map, List.length_take]; exact line1000 (by (first | lia | omega))
              · rw [List.length_append, List.length_map, List.length_take, List.length_map, List.length_drop, List.length_singleton]; exact line1000 (by (first | lia | omega))
              · rw [Tree.d, ds_map, List.map_append, List.map_append, ← e1, ← e3] at q3
                exact q3
noncomputable def sameH : Tree → Tree → Bool
  | .block n ps, .block m qs => decide (n = m) && decide (ps.length = qs.length)
  | _, _ => false
noncomputable def spSame : SpD := fun ds M Q => ∃ t u : Tree, ds = [t.d, u.d] ∧ Q (.bl (sameH t u)) M
theorem ok_same (T : Txt K mg) : FnD P w K mg base 2 "same_head" ["one", "other"] spSame := by
  have m_len := T.m_len
  have F_parts_of := ok_parts_of (P := P) (w := w) (base := base) T
  refine def_ok T.f_same_head sc_same_head (fun ds M Q h => ?_) fun f cdv A outer s H E hr => ⟨_, (ss_cons (s_if (PW.pt (dw_or (dt_cmp (od_eq hr) (d_ix (d_var 0) d_int) d_str (nomark _)) (dw_or1 (dt_cmp (od_eq hr) (d_ix (d_var 1) d_int) d_str (nomark _))))) (ss_one (s_ret d_bl)) ss_nil)
 (ss_one (s_ret (d_and (d_cmp (od_eq hr) (d_ix (d_var 0) d_int) (d_ix (d_var 1) d_int) (nomark _)) (d_one (d_cmp (od_eq hr) (d_callB cd_len rfl m_len bt_len (a_cons (d_call F_parts_of (hr.mono (by (first | lia | omega))) (a_cons (d_var 0) a_nil)) a_nil)) (d_callB cd_len rfl m_len bt_len (a_cons (d_call F_parts_of (hr.mono (by (first | lia | omega))) (a_cons (d_var 1) a_nil)) a_nil)) (nomark _))))))), fun ds M Q h => ?_⟩
  · obtain ⟨t, u, rfl, _⟩ := h; rfl
  · obtain ⟨t, u, rfl, q⟩ := h
    cases t with
    | blank k => exact rt_done q
    | block n ps => cases u with
      | blank k => exact rt_done q
      | block m qs =>
        show if decide (n = m) = true then _ else _
        by_cases h : n = m
        · refine ifT h ?_
          refine ⟨.block n ps, rfl, .block m qs, rfl, ?_⟩
          have e : sameH (.block n ps) (.block m qs) = decide (((ps.map Tree.d).length : Int) = ((qs.map Tree.d).length : Int)) := by
            show (decide (n = m) && decide (ps.length = qs.length)) = _
            rw [decide_eq_true h, Bool.true_and, List.length_map, List.length_map]
            exact decide_eq_decide.mpr ⟨fun z => by (first | lia | omega), fun z => by (first | lia | omega)⟩
          rw [e] at q
          exact rt_done q
        · refine ifF h ?_
          have e : sameH (.block n ps) (.block m qs) = false := by
            show (decide (n = m) && decide (ps.length = qs.length)) = _
            rw [decide_eq_false h, Bool.false_and]
          rw [e] at q
          exact rt_done q
noncomputable def Lf : Tree := .block (Str.ofString "a") []
noncomputable def FitOk (f t : Tree) : Prop := (f = Lf ∧ t = Lf) ∨ ∃ k, f = .blank k
noncomputable def stoodD (f t : Tree) : List (Key × D) := match f with
  | .blank k => [(.inl k, .tup [.tup [], t.d])]
  | _ => []
noncomputable def spBC : SpD := fun ds M Q => ∃ (k : Int) (t : Tree) (st : Addr), ds = [.int k, t.d, .tup [], .ref st] ∧ M st = some (.dic []) ∧ Q .non (updM M st (.dic [(.inl k, .tup [.tup [], t.d])]))
theorem ok_bc (T : Txt K mg) : FnD P w K mg base 1 "blank_clash" ["number", "tree", "place", "stood"] spBC := by
  refine def_ok T.f_blank_clash sc_blank_clash (fun ds M Q h => ?_) fun f cdv A outer s H E hr => ⟨_, (ss_cons (s_if (dt_cmp (od_notinX hr) (d_var 0) (d_var 3) (rfl)) (ss_cons (s_asg (d_tup (a_cons (d_var 2) (a_cons (d_var 1) a_nil))) (g_subK hr (d_var 3) (d_var 0)))
 (ss_one (s_ret d_non))) ss_nil)
 (ss_cons (s_set (i := 4) sc_blank_clash.nd (d_ixK hr (d_var 3) (d_var 0)))
 (ss_cons (s_if (dt_cmp (od_eq hr) (d_ix (d_var 4) d_int) (d_var 1) (nomark _)) (ss_one (s_ret d_non)) ss_nil)
 (ss_one (s_ret (d_tup (a_cons d_str (a_cons (d_ix (d_var 4) d_int) (a_cons (d_var 2) a_nil))))))))), fun ds M Q h => ?_⟩
  · obtain ⟨k, t, st, rfl, _⟩ := h; rfl
  · obtain ⟨k, t, st, rfl, hst, q⟩ := h
    refine .inl ⟨.inl k, [], rfl, .inl hst, ?_⟩
    refine ⟨.inl k, [], rfl, hst, by decide, ?_⟩
    exact ⟨_, Sub.refl _, q⟩
noncomputable def spCl : SpD := fun ds M Q => ∃ (f t : Tree) (st : Addr), ds = [f.d, t.d, .tup [], .ref st] ∧ M st = some (.dic []) ∧ FitOk f t ∧ Q .non (updM M st (.dic (stoodD f t)))
theorem ok_cl (T : Txt K mg) : FnD P w K mg base 3 "clash_from" ["form", "tree", "place", "stood"] spCl := by
  have m_enumerate := T.m_enumerate
  have F_blank_clash := ok_bc (P := P) (w := w) (base := base) T
  have F_same_head := ok_same (P := P) (w := w) (base := base) T
  have F_parts_of := ok_parts_of (P := P) (w := w) (base := base) T
  have F_clash_from : FnD P w K mg base 0 "clash_from" ["form", "tree", "place", "stood"] (fun _ _ _ => False) := fn_none T.f_clash_from fun _ _ _ z => z
  refine def_ok T.f_clash_from sc_clash_from (fun ds M Q h => ?_) fun f cdv A outer s H E hr => ⟨_, (ss_cons (s_if (dt_cmp (od_eq hr) (d_ix (d_var 0) d_int) d_str (nomark _)) (ss_one (s_ret (d_call F_blank_clash (hr.mono (by (first | lia | omega))) (a_cons (d_ix (d_var 0) d_int) (a_cons (d_var 1) (a_cons (d_var 2) (a_cons (d_var 3) a_nil))))))) ss_nil)
 (ss_cons (s_if (dt_not (dt_val (d_call F_same_head (hr.mono (by (first | lia | omega))) (a_cons (d_var 0) (a_cons (d_var 1) a_nil))))) (ss_one (s_ret (d_tup (a_cons d_str (a_cons (d_var 2) a_nil))))) ss_nil)
 (ss_cons (s_set (i := 4) sc_clash_from.nd (d_call F_parts_of (hr.mono (by (first | lia | omega))) (a_cons (d_var 1) a_nil)))
 (ss_cons (s_forE PassesOwn.never rfl m_enumerate (a_cons (d_call F_parts_of (hr.mono (by (first | lia | omega))) (a_cons (d_var 0) a_nil)) a_nil) (g_tup rfl (gs_cons (g_name (i := 5) sc_clash_from.nd) (gs_cons (g_name (i := 6) sc_clash_from.nd) gs_nil)) len_2) (ss_cons (s_set (i := 7) sc_clash_from.nd (d_call F_clash_from (hr.mono (by (first | lia | omega))) (a_cons (d_var 6) (a_cons (d_ix (d_var 4) (d_var 5)) (a_cons (d_op od_add (d_var 2) (d_tup (a_cons (d_var 5) a_nil))) (a_cons (d_var 3) a_nil))))))
 (ss_one (s_if (dt_cmp od_isnot (d_var 7) d_non (nomark _)) (ss_one (s_ret (d_var 7))) ss_nil))))
 (ss_one (s_ret d_non)))))), fun ds M Q h => ?_⟩
  · obtain ⟨g, t, st, rfl, _⟩ := h; rfl
  · obtain ⟨g, t, st, rfl, hst, hf, q⟩ := h
    rcases hf with ⟨rfl, rfl⟩ | ⟨k, rfl⟩
    · have e : updM M st (.dic (stoodD Lf Lf)) = M := updM_self hst
      rw [e] at q
      refine ⟨Lf, Lf, rfl, ?_⟩
      have hs : sameH Lf Lf = true := by decide +kernel
      rw [hs]
      refine ⟨Lf, rfl, Lf, rfl, ?_⟩
      refine ⟨fun i τ M' => i = 0 ∧ M' = M, ⟨rfl, rfl⟩, fun _ _ _ _ _ => trivial, ?_, ?_⟩
      · intro i d τ M' ed hw
        have ed' : ([] : List D)[i]? = some d := ed
        rw [List.getElem?_nil] at ed'
        cases ed'
      · rintro τ M' ⟨_, rfl⟩
        exact rt_done q
    · exact ⟨k, t, st, rfl, hst, ⟨_, Sub.refl _, q⟩⟩
noncomputable def spFit : SpD := fun ds M Q => ∃ f t : Tree, ds = [f.d, t.d] ∧ FitOk f t ∧ ∀ (l : Addr) M', Sub M M' → Q (.ref l) M'
theorem ok_fit (T : Txt K mg) : FnD P w K mg base 4 "fitting" ["form", "tree"] spFit := by
  have F_clash_from := ok_cl (P := P) (w := w) (base := base) T
  refine def_ok T.f_fitting sc_fitting (fun ds M Q h => ?_) fun f cdv A outer s H E hr => ⟨_, (ss_cons (s_set (i := 2) sc_fitting.nd d_dict0)
 (ss_cons (s_if (dt_cmp od_isnot (d_call F_clash_from (hr.mono (by (first | lia | omega))) (a_cons (d_var 0) (a_cons (d_var 1) (a_cons (d_tup a_nil) (a_cons (d_var 2) a_nil))))) d_non (nomark _)) (ss_one (s_ret d_non)) ss_nil)
 (ss_cons (s_set (i := 3) sc_fitting.nd d_dict0)
 (ss_cons (s_forK PassesOwn.never rfl (d_var 2) (g_name (i := 4) sc_fitting.nd) (ss_one (s_asg (d_ix (d_ixK hr (d_var 2) (d_var 4)) d_int) (g_subK hr (d_var 3) (d_var 4)))))
 (ss_one (s_ret (d_var 3))))))), fun ds M Q h => ?_⟩
  · obtain ⟨g, t, rfl, _⟩ := h; rfl
  · obtain ⟨g, t, rfl, hf, q⟩ := h
    show ∀ p, _ → _
    intro st hst
    refine ⟨g, t, st, rfl, updM_same, hf, ?_⟩
    rw [updM_upd]
    have hsd : stoodD g t = [] ∨ ∃ k, stoodD g t = [(.inl k, .tup [.tup [], t.d])] := by
      rcases hf with ⟨rfl, rfl⟩ | ⟨k, rfl⟩
      · exact .inl rfl
      · exact .inr ⟨k, rfl⟩
    generalize stoodD g t = sd at *
    show ∀ p, updM M st (.dic sd) p = none → _
    intro lf hlf
    obtain ⟨f1, f2⟩ := upd_none hlf
    refine ⟨sd, by rw [updM_ne (Ne.symm f1), updM_same], fun i τ M' => (∃ v : Option D, τ = [some g.d, some t.d, some (.ref st), some (.ref lf), v]) ∧ M' st = some (.fdc sd) ∧ (∃ kvs : List (Key × D), M' lf = some (.dic kvs) ∧ kvs.length ≤ i) ∧ Sub M M', ⟨⟨none, rfl⟩, updM_same, ⟨[], by rw [updM_ne f1, updM_same], Nat.le_refl _⟩, sub_upd ((Sub.new hst).trans (Sub.new hlf)) hst⟩, fun i τ M' _ hW => hW.2.1, ?_, ?_⟩
    · rintro i k d τ M' ek ⟨⟨v, rfl⟩, hl', ⟨kvs, hf', hk'⟩, hs'⟩
      rcases hsd with rfl | ⟨k0, rfl⟩
      · rw [List.getElem?_nil] at ek; cases ek
      · have hi : i = 0 := by
          rcases i with _ | i
          · rfl
          · rw [List.getElem?_cons_succ, List.getElem?_nil] at ek; cases ek
        subst hi
        rw [List.getElem?_cons_zero] at ek
        cases ek
        have hv : valD [((.inl k0 : Key), D.tup [.tup [], t.d])] (.inl k0) = some (.tup [.tup [], t.d]) := valD_pos (p := ((Sum.inl k0 : Key), D.tup [.tup [], t.d])) rfl
        refine ⟨_, _, _, rfl, .inr hl', hv, ?_⟩
        refine ⟨_, _, rfl, hf', small1000 (by (first | lia | omega)), ⟨_, rfl⟩, by rw [updM_ne (Ne.symm f1)]; exact hl', ⟨_, updM_same, ?_⟩, sub_upd hs' f2⟩
        cases kvs with
        | nil => exact Nat.le_refl _
        | cons _ _ => simp at hk'
    · rintro τ M' ⟨⟨v, rfl⟩, hl', hf', hs'⟩
      exact ⟨_, Sub.refl _, q lf _ (sub_upd hs' hst)⟩
noncomputable def rowL (n : Nat) : List D := List.replicate n Lf.d
noncomputable def spCom : SpD := fun ds M Q => ∃ (n : Nat) (nu : Addr), ds = [.tup (rowL (n + 1)), .ref nu] ∧ n < 60 ∧ Q Lf.d M
theorem ok_com (T : Txt K mg) : FnD P w K mg base 3 "common" ["row", "numbers"] spCom := by
  have m_all := T.m_all
  have m_len := T.m_len
  have m_range := T.m_range
  have m_tuple := T.m_tuple
  have F_same_head := ok_same (P := P) (w := w) (base := base) T
  have F_parts_of := ok_parts_of (P := P) (w := w) (base := base) T
  have F_common : FnD P w K mg base 0 "common" ["row", "numbers"] (fun _ _ _ => False) := fn_none T.f_common fun _ _ _ z => z
  refine def_ok T.f_common sc_common (fun ds M Q h => ?_) fun f cdv A outer s H E hr => ⟨_, (ss_cons (s_set (i := 2) sc_common.nd (d_ix (d_var 0) d_int))
 (ss_cons (s_if (dt_not (dt_val (d_callB (cd_all rfl) rfl m_all bt_all (a_cons (d_comp (Nc := ["tree", "first"]) (js := [none, some 2]) (comp_okF ["row", "numbers", "first", "parts", "number"] (defScope s_common).names rfl rfl rfl rfl (by decide +kernel) (by decide +kernel) (by decide +kernel) rfl (by decide +kernel)) rfl (d_var 0) (fun C s H fp => (g_name (i := 0) (by show List.Nodup (["tree", "first"] : List Str); decide +kernel))) (fun C s H fp => Or.inl ⟨rfl, rfl⟩) (fun C s H fp => (d_call F_same_head (hr.mono (by (first | lia | omega))) (a_cons (d_var 1) (a_cons (d_var 0) a_nil))))) a_nil)))) (ss_one (s_ret (d_tup (a_cons d_str (a_cons (d_sd2 (d_var 1) (d_var 0) (d_op od_add (d_callB cd_lenK rfl m_len bt_len (a_cons (d_var 1) a_nil)) d_int)) a_nil))))) ss_nil)
 (ss_cons (s_set (i := 3) sc_common.nd (d_lst a_nil))
 (ss_cons (s_for1 PassesOwn.never rfl m_range (a_cons (d_callB cd_len rfl m_len bt_len (a_cons (d_call F_parts_of (hr.mono (by (first | lia | omega))) (a_cons (d_var 2) a_nil)) a_nil)) a_nil) (g_name (i := 4) sc_common.nd) (ss_one (s_expr (d_bm PySem.F.plainAttrs_list PySem.F.slot_list_append PySem.F.type_list_append md_append (d_var 3) (a_cons (d_call F_common (hr.mono (by (first | lia | omega))) (a_cons (d_callTy cd_tuple rfl m_tuple bt_tuple (a_cons (d_comp (Nc := ["tree", "number"]) (js := [none, some 4]) (comp_okF ["row", "numbers", "first", "parts", "number"] (defScope s_common).names rfl rfl rfl rfl (by decide +kernel) (by decide +kernel) (by decide +kernel) rfl (by decide +kernel)) rfl (d_var 0) (fun C s H fp => (g_name (i := 0) (by show List.Nodup (["tree", "number"] : List Str); decide +kernel))) (fun C s H fp => Or.inl ⟨rfl, rfl⟩) (fun C s H fp => (d_ix (d_call F_parts_of (hr.mono (by (first | lia | omega))) (a_cons (d_var 0) a_nil)) (d_var 1)))) a_nil)) (a_cons (d_var 1) a_nil))) a_nil)))))
 (ss_one (s_ret (d_tup (a_cons d_str (a_cons (d_ix (d_var 2) d_int) (a_cons (d_callTy cd_tuple rfl m_tuple bt_tuple (a_cons (d_var 3) a_nil)) a_nil)))))))))), fun ds M Q h => ?_⟩
  · obtain ⟨n, nu, rfl, _⟩ := h; rfl
  · obtain ⟨n, nu, rfl, hn, q⟩ := h
    have h0 : atI (rowL (n + 1)) 0 = some Lf.d := atI_nat (j := 0) rfl
    show onSome (atI (rowL (n + 1)) 0) _
    rw [h0]
    have hl : (rowL (n + 1)).length = n + 1 := List.length_replicate
    refine ⟨by rw [hl]; (first | lia | omega), fun _ => some (.bl true), ?_, fun p hp => ?_⟩
    · intro d hd p acc hp
      cases List.eq_of_mem_replicate hd
      refine ⟨Fgt.set rfl, ?_⟩
      exact ⟨Lf, Lf, rfl, rfl, rfl⟩
    · have ef : (rowL (n + 1)).filterMap (fun _ => some (D.bl true)) = (List.replicate (n + 1) true).map D.bl := by
        unfold rowL
        generalize n + 1 = m
        induction m with
        | zero => rfl
        | succ m ih => rw [List.replicate_succ, List.replicate_succ, List.filterMap_cons, ih]; rfl
      refine ⟨List.replicate (n + 1) true, ?_, ?_⟩
      · rw [updM_same, ef]
      · have ea : (List.replicate (n + 1) true).all id = true := by
          rw [List.all_eq_true]
          intro x hx
          cases List.eq_of_mem_replicate hx
          rfl
        rw [ea]
        show ∀ p, _ → _
        intro lp hlp
        refine ⟨Lf, rfl, ?_⟩
        refine ⟨⟨by decide, by decide⟩, fun i τ M' => τ = [some (.tup (rowL (n + 1))), some (.ref nu), some Lf.d, some (.ref lp), none] ∧ M' lp = some (.lst []) ∧ Sub M M', ⟨rfl, updM_same, (Sub.new hp).trans (Sub.new hlp)⟩, ?_, ?_⟩
        · intro i τ M' hi
          exact absurd hi (Nat.not_lt_zero _)
        · rintro τ M' ⟨rfl, h1, h2⟩
          refine ⟨[], h1, ?_⟩
          exact ⟨M, h2, q⟩
noncomputable def spFillOf : SpD := fun ds M Q => ∃ (nu : Addr) (i : Int), ds = [.ref nu, .int i] ∧ M nu = some (.dic []) ∧ ∀ l M', Sub M M' → Q (.ref l) M'
theorem ok_fillof (T : Txt K mg) : FnD P w K mg base 1 "filling_of" ["numbers", "which"] spFillOf := by
  refine def_ok T.f_filling_of sc_filling_of (fun ds M Q h => ?_) fun f cdv A outer s H E hr => ⟨_, (ss_cons (s_set (i := 2) sc_filling_of.nd d_dict0)
 (ss_cons (s_forI0 PassesOwn.never rfl (d_var 0))
 (ss_one (s_ret (d_var 2))))), fun ds M Q h => ?_⟩
  · obtain ⟨n, nu, rfl, _⟩ := h; rfl
  · obtain ⟨nu, i, rfl, hnu, q⟩ := h
    show ∀ p, M p = none → _
    intro l hl
    have hne : nu ≠ l := fun z => by subst z; rw [hl] at hnu; cases hnu
    refine ⟨nu, rfl, by rw [updM_ne hne]; exact hnu, ?_⟩
    exact ⟨_, Sub.refl _, q l _ (Sub.new hl)⟩
noncomputable def spNO : SpD := fun ds M Q => ∃ (l : Addr) (n : Nat), ds = [.ref l] ∧ M l = some (.lst (rowL (n + 1))) ∧ n < 60 ∧ ∀ a M', Sub M M' → Q (.tup [Lf.d, .ref a]) M'
theorem ok_no (T : Txt K mg) : FnD P w K mg base 4 "nearest_of" ["trees"] spNO := by
  have m_len := T.m_len
  have m_range := T.m_range
  have m_tuple := T.m_tuple
  have F_common := ok_com (P := P) (w := w) (base := base) T
  have F_filling_of := ok_fillof (P := P) (w := w) (base := base) T
  refine def_ok T.f_nearest_of sc_nearest_of (fun ds M Q h => ?_) fun f cdv A outer s H E hr => ⟨_, (ss_cons (s_set (i := 1) sc_nearest_of.nd d_dict0)
 (ss_cons (s_set (i := 2) sc_nearest_of.nd (d_call F_common (hr.mono (by (first | lia | omega))) (a_cons (d_callTy cd_tuple rfl m_tuple bt_tuple (a_cons (d_var 0) a_nil)) (a_cons (d_var 1) a_nil))))
 (ss_one (s_ret (d_tup (a_cons (d_var 2) (a_cons (d_compRW (Nc := ["which", "numbers"]) (js := [none, some 1]) (comp_okF ["trees", "numbers", "form"] (defScope s_nearest_of).names rfl rfl rfl rfl (by decide +kernel) (by decide +kernel) (by decide +kernel) rfl (by decide +kernel)) rfl m_range (a_cons (d_callB cd_len rfl m_len bt_len (a_cons (d_var 0) a_nil)) a_nil) (fun C s H fp => (g_name (i := 0) (by show List.Nodup (["which", "numbers"] : List Str); decide +kernel))) (fun C s H fp => (d_call F_filling_of (hr.mono (by (first | lia | omega))) (a_cons (d_var 1) (a_cons (d_var 0) a_nil))))) a_nil))))))), fun ds M Q h => ?_⟩
  · obtain ⟨l, n, rfl, _⟩ := h; rfl
  · obtain ⟨l, n, rfl, hl, hn, q⟩ := h
    show ∀ p, M p = none → _
    intro nu hnu
    have hne : l ≠ nu := fun z => by subst z; rw [hnu] at hl; cases hl
    have hl1 : (updM M nu (.dic [])) l = some (.lst (rowL (n + 1))) := by rw [updM_ne hne]; exact hl
    refine ⟨_, hl1, ?_⟩
    refine ⟨n, nu, rfl, hn, ?_⟩
    refine ⟨_, hl1, ?_⟩
    have hlen : (rowL (n + 1)).length = n + 1 := List.length_replicate
    refine ⟨⟨by rw [hlen]; (first | lia | omega), by rw [hlen]; (first | lia | omega)⟩, fun p hp => ?_⟩
    have hpn : nu ≠ p := fun z => by subst z; rw [updM_same] at hp; cases hp
    refine ⟨fun i xs M' => xs.length = i ∧ M' p = some (.lst xs) ∧ M' nu = some (.dic []) ∧ Sub M M', ⟨rfl, updM_same, by rw [updM_ne hpn]; exact updM_same, (Sub.new hnu).trans (Sub.new hp)⟩, ?_, ?_⟩
    · rintro i xs M' hi ⟨h1, h2, h3, h4⟩
      refine ⟨h1, Fgt.set rfl, ?_⟩
      refine ⟨nu, i, rfl, h3, fun a M2 s2 => ?_⟩
      have hpM : M p = none := (upd_none hp).2
      exact ⟨s2 _ _ h2, by rw [List.length_append, h1]; rfl, updM_same, by rw [updM_ne hpn]; exact s2 _ _ h3, sub_upd (h4.trans s2) hpM⟩
    · rintro xs M' ⟨_, _, _, h4⟩
      exact ⟨_, Sub.refl _, q p _ h4⟩
noncomputable def spNE : SpD := fun ds M Q => ds = [Lf.d, Lf.d] ∧ ∀ a b M', Sub M M' → Q (.tup [Lf.d, .ref a, .ref b]) M'
theorem ok_ne (T : Txt K mg) : FnD P w K mg base 4 "nearest" ["one", "other"] spNE := by
  have F_common := ok_com (P := P) (w := w) (base := base) T
  have F_filling_of := ok_fillof (P := P) (w := w) (base := base) T
  refine def_ok T.f_nearest sc_nearest (fun ds M Q h => ?_) fun f cdv A outer s H E hr => ⟨_, (ss_cons (s_set (i := 2) sc_nearest.nd d_dict0)
 (ss_cons (s_set (i := 3) sc_nearest.nd (d_call F_common (hr.mono (by (first | lia | omega))) (a_cons (d_tup (a_cons (d_var 0) (a_cons (d_var 1) a_nil))) (a_cons (d_var 2) a_nil))))
 (ss_one (s_ret (d_tup (a_cons (d_var 3) (a_cons (d_call F_filling_of (hr.mono (by (first | lia | omega))) (a_cons (d_var 2) (a_cons d_int a_nil))) (a_cons (d_call F_filling_of (hr.mono (by (first | lia | omega))) (a_cons (d_var 2) (a_cons d_int a_nil))) a_nil)))))))), fun ds M Q h => ?_⟩
  · obtain ⟨rfl, _⟩ := h; rfl
  · obtain ⟨rfl, q⟩ := h
    show ∀ p, M p = none → _
    intro nu hnu
    refine ⟨1, nu, rfl, by (first | lia | omega), ?_⟩
    refine ⟨nu, 0, rfl, updM_same, fun a M1 s1 => ?_⟩
    refine ⟨nu, 1, rfl, s1 _ _ updM_same, fun b M2 s2 => ?_⟩
    exact ⟨_, Sub.refl _, q a b M2 ((Sub.new hnu).trans (s1.trans s2))⟩
noncomputable abbrev Ent := Str × Tree
noncomputable def leafD (e : Ent) : D := .tup [.str (Str.ofString "leaf"), .str e.1, e.2.d]
noncomputable def knotD (es : List Ent) : D := .tup [.str (Str.ofString "knot"), Lf.d, .tup (es.map leafD)]
noncomputable def Bough (k : Nat) (es : List Ent) (b : D) : Prop := (∃ e, es = [e] ∧ b = leafD e) ∨ (0 < k ∧ b = knotD es)
noncomputable def AllLf (es : List Ent) : Prop := ∀ e ∈ es, e.2 = Lf
noncomputable def spFO : SpD := fun ds M Q => ∃ b, ds = [b] ∧ ((∃ e, b = leafD e ∧ Q e.2.d M) ∨ ∃ es, b = knotD es ∧ Q Lf.d M)
theorem ok_fo (T : Txt K mg) : FnD P w K mg base 1 "form_over" ["bough"] spFO := by
  refine def_ok T.f_form_over sc_form_over (fun ds M Q h => ?_) fun f cdv A outer s H E hr => ⟨_, (ss_cons (s_if (dt_cmp (od_eq hr) (d_ix (d_var 0) d_int) d_str (nomark _)) (ss_one (s_ret (d_ix (d_var 0) d_int))) ss_nil)
 (ss_one (s_ret (d_ix (d_var 0) d_int)))), fun ds M Q h => ?_⟩
  · obtain ⟨b, rfl, _⟩ := h; rfl
  · obtain ⟨b, rfl, h⟩ := h
    rcases h with ⟨e, rfl, q⟩ | ⟨es, rfl, q⟩
    · exact ⟨_, Sub.refl _, q⟩
    · exact ⟨_, Sub.refl _, q⟩
noncomputable def fF : D → Option D
  | .tup [_, _, d] => some d
  | _ => none
noncomputable def spKO : SpD := fun ds M Q => ∃ (l : Addr) (es : List Ent), ds = [.ref l] ∧ M l = some (.lst (es.map leafD)) ∧ AllLf es ∧ es ≠ [] ∧ es.length < 60 ∧ Q (knotD es) M
theorem lf_row : ∀ {es : List Ent}, AllLf es → (es.map leafD).filterMap fF = rowL es.length
  | [], _ => rfl
  | e :: es, h => by
    have ih := lf_row (es := es) fun x hx => h x (List.mem_cons_of_mem _ hx)
    have h1 : e.2 = Lf := h e List.mem_cons_self
    rw [List.map_cons, List.filterMap_cons]
    have h2 : fF (leafD e) = some Lf.d := by unfold leafD fF; rw [h1]
    rw [h2, ih]
    rfl
theorem ok_ko (T : Txt K mg) : FnD P w K mg base 5 "knot_over" ["boughs"] spKO := by
  have m_tuple := T.m_tuple
  have F_form_over := ok_fo (P := P) (w := w) (base := base) T
  have F_nearest_of := ok_no (P := P) (w := w) (base := base) T
  refine def_ok T.f_knot_over sc_knot_over (fun ds M Q h => ?_) fun f cdv A outer s H E hr => ⟨_, (ss_one (s_ret (d_tup (a_cons d_str (a_cons (d_ix (d_call F_nearest_of (hr.mono (by (first | lia | omega))) (a_cons (d_comp (Nc := ["bough"]) (js := [none]) (comp_ok0 (by decide +kernel) (by decide +kernel) (by decide +kernel) rfl rfl) rfl (d_var 0) (fun C s H fp => (g_name (i := 0) (by show List.Nodup (["bough"] : List Str); decide +kernel))) (fun C s H fp => Or.inl ⟨rfl, rfl⟩) (fun C s H fp => (d_call F_form_over (hr.mono (by (first | lia | omega))) (a_cons (d_var 0) a_nil)))) a_nil)) d_int) (a_cons (d_callTy cd_tuple rfl m_tuple bt_tuple (a_cons (d_var 0) a_nil)) a_nil)))))), fun ds M Q h => ?_⟩
  · obtain ⟨l, es, rfl, _⟩ := h; rfl
  · obtain ⟨l, es, rfl, hl, ha, hne, hlen, q⟩ := h
    refine ⟨_, hl, ?_⟩
    refine ⟨by rw [List.length_map]; (first | lia | omega), fF, ?_, fun p hp => ?_⟩
    · intro d hd p acc hp
      obtain ⟨e, he, rfl⟩ := List.mem_map.mp hd
      refine ⟨Fgt.set rfl, ?_⟩
      exact ⟨_, rfl, .inl ⟨e, rfl, rfl, rfl⟩⟩
    · obtain ⟨n, hn⟩ : ∃ n, es.length = n + 1 := by
        cases es with
        | nil => exact absurd rfl hne
        | cons e es => exact ⟨_, rfl⟩
      rw [lf_row ha, hn]
      refine ⟨p, n, rfl, updM_same, by (first | lia | omega), fun a M' s' => ?_⟩
      have hs : Sub M M' := (Sub.new hp).trans s'
      refine ⟨_, hs _ _ hl, ?_⟩
      exact ⟨M, hs, q⟩
theorem sub_none {M M' : DH} {a : Addr} (h : Sub M M') (e : M' a = none) : M a = none := by
  cases z : M a with
  | none => rfl
  | some o => rw [h _ _ z] at e; cases e
noncomputable def spNU (k : Nat) : SpD := fun ds M Q => ∃ (es : List Ent) (b : D), ds = [b] ∧ Bough k es b ∧ es.length < 64 ∧ ∀ (p : Addr) (ss : List Str) M', Sub M M' → M p = none → M' p = some (.lst (ss.map .str)) → ss.Perm (es.map (·.1)) → sortedS ss = true → Q (.ref p) M'
theorem ok_nuG (T : Txt K mg) (k j : Nat) (sp0 : SpD) (F_names_under : FnD P w K mg base j "names_under" ["bough"] sp0) (h0 : 0 < k → ∀ ds M Q, spNU 0 ds M Q → sp0 ds M Q) : FnD P w K mg base (j + 1) "names_under" ["bough"] (spNU k) := by
  have m_sorted := T.m_sorted
  refine def_ok T.f_names_under sc_names_under (fun ds M Q h => ?_) fun f cdv A outer s H E hr => ⟨_, (ss_cons (s_if (dt_cmp (od_eq hr) (d_ix (d_var 0) d_int) d_str (nomark _)) (ss_one (s_ret (d_lst (a_cons (d_ix (d_var 0) d_int) a_nil)))) ss_nil)
 (ss_cons (s_set (i := 1) sc_names_under.nd (d_lst a_nil))
 (ss_cons (s_for PassesOwn.never rfl (d_ix (d_var 0) d_int) (g_name (i := 2) sc_names_under.nd) (ss_one (s_expr (d_bm PySem.F.plainAttrs_list PySem.F.slot_list_extend PySem.F.type_list_extend md_extend (d_var 1) (a_cons (d_call F_names_under (hr.mono (by (first | lia | omega))) (a_cons (d_var 2) a_nil)) a_nil)))))
 (ss_one (s_ret (d_callB (cd_sortedS rfl) rfl m_sorted bt_sorted (a_cons (d_var 1) a_nil))))))), fun ds M Q h => ?_⟩
  · obtain ⟨l, es, rfl, _⟩ := h; rfl
  · obtain ⟨es, b, rfl, hb, hlen, q⟩ := h
    rcases hb with ⟨e, rfl, rfl⟩ | ⟨hk, rfl⟩
    · show ∀ p, _ → _
      intro p hp
      exact ⟨_, Sub.refl _, q p [e.1] _ (Sub.new hp) hp updM_same (List.Perm.refl _) rfl⟩
    · show ∀ p, _ → _
      intro p hp
      refine ⟨fun i τ M' => (∃ v, τ = [some (knotD es), some (.ref p), v]) ∧ Sub M M' ∧ ∃ ss : List Str, M' p = some (.lst (ss.map .str)) ∧ ss.Perm ((es.take i).map (·.1)), ⟨⟨none, rfl⟩, Sub.new hp, [], updM_same, List.Perm.refl _⟩, fun _ _ _ _ _ => trivial, ?_, ?_⟩
      · rintro i d τ M' ed ⟨⟨v, rfl⟩, hs, ss, hss, hpm⟩
        rw [List.getElem?_map] at ed
        cases ee : es[i]? with
        | none => rw [ee] at ed; cases ed
        | some e =>
          rw [ee] at ed
          cases ed
          refine ⟨⟨rfl, _, hss⟩, h0 hk _ _ _ ⟨[e], leafD e, rfl, (.inl ⟨e, rfl, rfl⟩), by simp, fun b s1 M2 hs2 hb0 hb hp1 _ => ?_⟩⟩
          have h1 : s1 = [e.1] := List.perm_singleton.mp hp1
          subst h1
          have hpb : p ≠ b := fun z => by subst z; rw [hss] at hb0; cases hb0
          have hle : ss.length ≤ 64 := by rw [hpm.length_eq, List.length_map, List.length_take]; (first | lia | omega)
          refine ⟨ss.map .str, [.str e.1], hs2 _ _ hss, hb, by rw [List.length_map]; exact line1000 (by simp; (first | lia | omega)), ⟨_, rfl⟩, sub_upd (hs.trans hs2) hp, ss ++ [e.1], ?_, ?_⟩
          · rw [updM_same, List.map_append]; rfl
          · rw [List.take_add_one, ee, List.map_append]
            exact hpm.append (List.Perm.refl _)
      · rintro τ M' ⟨⟨v, rfl⟩, hs, ss, hss, hpm⟩
        rw [List.length_map, List.take_length] at hpm
        have hle : ss.length < 64 := by rw [hpm.length_eq, List.length_map]; exact hlen
        refine ⟨ss, .inl hss, hle, fun a ss' ha hp' hs' => ?_⟩
        have ha' : M a = none := sub_none hs ha
        exact ⟨_, Sub.refl _, q a ss' _ (hs.trans (Sub.new ha)) ha' updM_same (hp'.trans hpm) hs'⟩
theorem ok_nu0 (T : Txt K mg) : FnD P w K mg base 1 "names_under" ["bough"] (spNU 0) := ok_nuG T 0 0 (fun _ _ _ => False) (fn_none T.f_names_under fun _ _ _ z => z) fun h => absurd h (by (first | lia | omega))
theorem ok_nu (T : Txt K mg) : FnD P w K mg base 2 "names_under" ["bough"] (spNU 1) := ok_nuG T 1 1 (spNU 0) (ok_nu0 T) fun _ _ _ _ h => h
noncomputable def spWO : SpD := fun ds M Q => ds = [Lf.d] ∧ ∃ M0, Sub M0 M ∧ Q (.int 1) M0
theorem ok_wo (T : Txt K mg) : FnD P w K mg base 5 "weight_of" ["form"] spWO := by
  have m_len := T.m_len
  have F_knots_of := (ok_knots_of (P := P) (w := w) (base := base) T 2).mono (show 3 ≤ 4 by (first | lia | omega))
  have F_blanks_of := ok_blanks_of (P := P) (w := w) (base := base) T 2
  refine def_ok T.f_weight_of sc_weight_of (fun ds M Q h => ?_) fun f cdv A outer s H E hr => ⟨_, (ss_one (s_ret (d_op od_sub (d_call F_knots_of (hr.mono (by (first | lia | omega))) (a_cons (d_var 0) a_nil)) (d_callB cd_len rfl m_len bt_len (a_cons (d_call F_blanks_of (hr.mono (by (first | lia | omega))) (a_cons (d_var 0) a_nil)) a_nil))))), fun ds M Q h => ?_⟩
  · obtain ⟨rfl, _⟩ := h; rfl
  · obtain ⟨rfl, M0, hs, q⟩ := h
    refine ⟨Lf, rfl, by decide, ?_⟩
    refine ⟨Lf, rfl, by decide, by decide, fun l hl => ?_⟩
    refine ⟨_, updM_same, ?_⟩
    exact ⟨M0, hs.trans (Sub.new hl), q⟩
noncomputable def spWL : SpD := fun ds M Q => ∃ (es : List Ent) (b : D) (e : Ent), ds = [b, leafD e] ∧ Bough 1 es b ∧ AllLf (es ++ [e]) ∧ es ≠ [] ∧ es.length < 50 ∧ Q (knotD (es ++ [e])) M
theorem ok_wl (T : Txt K mg) : FnD P w K mg base 6 "with_leaf" ["bough", "leaf"] spWL := by
  have m_list := T.m_list
  have m_max := T.m_max
  have F_form_over := (ok_fo (P := P) (w := w) (base := base) T).mono (show 1 ≤ 5 by (first | lia | omega))
  have F_fitting := (ok_fit (P := P) (w := w) (base := base) T).mono (show 4 ≤ 5 by (first | lia | omega))
  have F_knot_over := ok_ko (P := P) (w := w) (base := base) T
  have F_weight_of := ok_wo (P := P) (w := w) (base := base) T
  have F_nearest := (ok_ne (P := P) (w := w) (base := base) T).mono (show 4 ≤ 5 by (first | lia | omega))
  have F_with_leaf : FnD P w K mg base 0 "with_leaf" ["bough", "leaf"] (fun _ _ _ => False) := fn_none T.f_with_leaf fun _ _ _ z => z
  refine def_ok T.f_with_leaf sc_with_leaf (fun ds M Q h => ?_) fun f cdv A outer s H E hr => ⟨_, (ss_cons (s_set (i := 2) sc_with_leaf.nd (d_call F_form_over (hr.mono (by (first | lia | omega))) (a_cons (d_var 1) a_nil)))
 (ss_cons (s_if (PW.pt (dw_or (dt_cmp (od_eq hr) (d_ix (d_var 0) d_int) d_str (nomark _)) (dw_or1 (dt_cmp od_is (d_call F_fitting (hr.mono (by (first | lia | omega))) (a_cons (d_ix (d_var 0) d_int) (a_cons (d_var 2) a_nil))) d_non (nomark _))))) (ss_one (s_ret (d_call F_knot_over (hr.mono (by (first | lia | omega))) (a_cons (d_lst (a_cons (d_var 0) (a_cons (d_var 1) a_nil))) a_nil)))) ss_nil)
 (ss_cons (s_set (i := 3) sc_with_leaf.nd (d_callTy cd_list rfl m_list bt_list (a_cons (d_ix (d_var 0) d_int) a_nil)))
 (ss_cons (s_setL (i := 4) sc_with_leaf.nd (Nc := ["inner", "form"]) (js := [none, some 2]) (comp_okF ["bough", "leaf", "form", "boughs", "weights", "greatest", "which"] (defScope s_with_leaf).names rfl rfl rfl rfl (by decide +kernel) (by decide +kernel) (by decide +kernel) rfl (by decide +kernel)) rfl (d_var 3) (fun C s H fp => (g_name (i := 0) (by show List.Nodup (["inner", "form"] : List Str); decide +kernel))) (fun C s H fp => Or.inl ⟨rfl, rfl⟩) (fun C s H fp => (d_call F_weight_of (hr.mono (by (first | lia | omega))) (a_cons (d_ix (d_call F_nearest (hr.mono (by (first | lia | omega))) (a_cons (d_call F_form_over (hr.mono (by (first | lia | omega))) (a_cons (d_var 0) a_nil)) (a_cons (d_var 1) a_nil))) d_int) a_nil))))
 (ss_cons (s_set (i := 5) sc_with_leaf.nd (d_callB (cd_maxL rfl) rfl m_max bt_max (a_cons (d_var 4) a_nil)))
 (ss_cons (s_if (dt_cmp od_gt (d_var 5) (d_call F_weight_of (hr.mono (by (first | lia | omega))) (a_cons (d_ix (d_var 0) d_int) a_nil)) (nomark _)) (ss_cons (s_set (i := 6) sc_with_leaf.nd d_never)
 (ss_one (s_asg (d_call F_with_leaf (hr.mono (by (first | lia | omega))) (a_cons (d_ix (d_var 3) (d_var 6)) (a_cons (d_var 1) a_nil))) (g_sub (d_var 3) (d_var 6))))) (ss_one (s_expr (d_bm PySem.F.plainAttrs_list PySem.F.slot_list_append PySem.F.type_list_append md_append (d_var 3) (a_cons (d_var 1) a_nil)))))
 (ss_one (s_ret (d_call F_knot_over (hr.mono (by (first | lia | omega))) (a_cons (d_var 3) a_nil)))))))))), fun ds M Q h => ?_⟩
  · obtain ⟨es, b, e, rfl, _⟩ := h; rfl
  · obtain ⟨es, b, e, rfl, hb, ha, hne, hlen, q⟩ := h
    have he : e.2 = Lf := ha e (List.mem_append_right _ List.mem_cons_self)
    refine ⟨_, rfl, .inl ⟨e, rfl, ?_⟩⟩
    rcases hb with ⟨e0, rfl, rfl⟩ | ⟨_, rfl⟩
    · show ∀ p, _ → _
      intro p hp
      refine ⟨p, [e0, e], rfl, updM_same, ha, by simp, by simp, ?_⟩
      exact ⟨M, Sub.new hp, q⟩
    · have es1 : e.2.d = Lf.d := by rw [he]
      refine ⟨Lf, Lf, by rw [← es1], .inl ⟨rfl, rfl⟩, fun a M1 s1 => ?_⟩
      show ∀ p, M1 p = none → _
      intro lb hlb
      refine ⟨_, updM_same, ?_⟩
      refine ⟨by rw [List.length_map]; (first | lia | omega), fun _ => some (.int 1), ?_, fun p hp => ?_⟩
      · intro d hd p acc hp
        obtain ⟨e1, he1, rfl⟩ := List.mem_map.mp hd
        have he2 : e1.2 = Lf := ha e1 (List.mem_append_left _ he1)
        refine ⟨Fgt.set rfl, ?_⟩
        refine ⟨_, rfl, .inl ⟨e1, rfl, ?_⟩⟩
        refine ⟨by rw [he2, ← es1], fun a b M2 s2 => ?_⟩
        exact ⟨rfl, _, s2, rfl, rfl⟩
      · have hpm := upd_none hp
        have ef : (es.map leafD).filterMap (fun _ => some (D.int 1)) = (List.replicate es.length (1 : Int)).map D.int := by
          clear hne hlen q ha hp hpm hlb
          induction es with
          | nil => rfl
          | cons e es ih => rw [List.map_cons, List.filterMap_cons, ih, List.length_cons, List.replicate_succ]; rfl
        refine ⟨List.replicate es.length 1, ?_, ?_, ?_⟩
        · intro z
          have := congrArg List.length z
          rw [List.length_replicate] at this
          exact hne (List.length_eq_zero_iff.mp this)
        · rw [ef]; exact updM_same
        intro m hm _
        cases List.eq_of_mem_replicate hm
        refine ⟨rfl, _, Sub.refl _, ?_⟩
        have hlb2 : (updM (updM M1 lb (.lst (es.map leafD))) p (.lst ((es.map leafD).filterMap fun _ => some (D.int 1)))) lb = some (.lst (es.map leafD)) := by rw [updM_ne (Ne.symm hpm.1)]; exact updM_same
        refine ⟨⟨rfl, _, hlb2⟩, ?_⟩
        refine ⟨es.map leafD, hlb2, by rw [List.length_map]; exact line1000 (by (first | lia | omega)), ?_⟩
        refine ⟨lb, es ++ [e], rfl, by rw [updM_same, List.map_append]; rfl, ha, by simp, by rw [List.length_append]; simp; (first | lia | omega), ?_⟩
        refine ⟨M, ?_, q⟩
        have hb0 : M lb = none := sub_none s1 hlb
        exact sub_upd ((s1.trans (Sub.new hlb)).trans (Sub.new hp)) hb0
noncomputable def topD : List Ent → D
  | [] => .non
  | [e] => leafD e
  | es => knotD es
noncomputable def less (x : Str) (es : List Ent) : List Ent := es.filter fun e => !decide (e.1 = x)
theorem any_str (x : Str) : ∀ ss : List Str, (ss.map D.str).any (fun y => D.eq y (.str x)) = decide (x ∈ ss)
  | [] => rfl
  | s :: ss => by
    rw [List.map_cons, List.any_cons, any_str x ss]
    show ((s == x) || _) = _
    by_cases h : s = x
    · subst h; simp
    · have h' : (s == x) = false := by simpa using h
      rw [h', Bool.false_or]
      refine decide_eq_decide.mpr ⟨fun z => List.mem_cons_of_mem _ z, fun z => ?_⟩
      rcases List.mem_cons.mp z with z | z
      · exact absurd z.symm h
      · exact z
theorem flat_strs : ∀ ss : List Str, (ss.map D.str).all D.flat = true
  | [] => rfl
  | s :: ss => by rw [List.map_cons, List.all_cons, flat_strs ss]; rfl
noncomputable def spWN (k : Nat) : SpD := fun ds M Q => ∃ (es : List Ent) (b : D) (x : Str), ds = [b, .str x] ∧ Bough k es b ∧ (b = knotD es → AllLf es ∧ x ∈ es.map (·.1) ∧ less x es ≠ []) ∧ es.length < 60 ∧ Q (topD (less x es)) M
theorem leaf_knot {e : Ent} {es : List Ent} : leafD e ≠ knotD es := fun z => by
  have h : ([.str (Str.ofString "leaf"), .str e.1, e.2.d] : List D) = [.str (Str.ofString "knot"), Lf.d, .tup (es.map leafD)] := D.tup.inj z
  have h1 : (D.str (Str.ofString "leaf")) = D.str (Str.ofString "knot") := (List.cons.inj h).1
  exact absurd (D.str.inj h1) (by decide)
theorem ok_wnG (T : Txt K mg) (k j : Nat) (hj : 5 ≤ j) (sp0 : SpD) (F_without_name : FnD P w K mg base j "without_name" ["bough", "name"] sp0) (h0 : 0 < k → ∀ ds M Q, spWN 0 ds M Q → sp0 ds M Q) : FnD P w K mg base (j + 1) "without_name" ["bough", "name"] (spWN k) := by
  have m_len := T.m_len
  have F_knot_over := (ok_ko (P := P) (w := w) (base := base) T).mono hj
  have F_names_under := (ok_nu (P := P) (w := w) (base := base) T).mono (show 2 ≤ j by (first | lia | omega))
  refine def_ok T.f_without_name sc_without_name (fun ds M Q h => ?_) fun f cdv A outer s H E hr => ⟨_, (ss_cons (s_if (dt_cmp (od_notinX hr) (d_var 1) (d_call F_names_under (hr.mono (by (first | lia | omega))) (a_cons (d_var 0) a_nil)) (rfl)) (ss_one (s_ret (d_var 0))) ss_nil)
 (ss_cons (s_if (dt_cmp (od_eq hr) (d_ix (d_var 0) d_int) d_str (nomark _)) (ss_one (s_ret d_non)) ss_nil)
 (ss_cons (s_set (i := 2) sc_without_name.nd (d_lst a_nil))
 (ss_cons (s_for PassesOwn.never rfl (d_ix (d_var 0) d_int) (g_name (i := 3) sc_without_name.nd) (ss_cons (s_set (i := 4) sc_without_name.nd (d_call F_without_name (hr.mono (by (first | lia | omega))) (a_cons (d_var 3) (a_cons (d_var 1) a_nil))))
 (ss_one (s_if (dt_cmp od_isnot (d_var 4) d_non (nomark _)) (ss_one (s_expr (d_bm PySem.F.plainAttrs_list PySem.F.slot_list_append PySem.F.type_list_append md_append (d_var 2) (a_cons (d_var 4) a_nil)))) ss_nil))))
 (ss_cons (s_if (dt_cmp (od_eq hr) (d_callB cd_len rfl m_len bt_len (a_cons (d_var 2) a_nil)) d_int (nomark _)) (ss_one (s_ret (d_ix (d_var 2) d_int))) ss_nil)
 (ss_one (s_ret (d_call F_knot_over (hr.mono (by (first | lia | omega))) (a_cons (d_var 2) a_nil))))))))), fun ds M Q h => ?_⟩
  · obtain ⟨es, b, e, rfl, _⟩ := h; rfl
  · obtain ⟨es, b, x, rfl, hb, hx, hlen, q⟩ := h
    have hb1 : Bough 1 es b := hb.imp id fun z => ⟨Nat.one_pos, z.2⟩
    refine ⟨es, b, rfl, hb1, by (first | lia | omega), fun p ss M1 s1 _ hp hpm _ => ?_⟩
    refine .inr ⟨_, hp, rfl, flat_strs ss, ?_⟩
    rw [any_str]
    have hmem : x ∈ ss ↔ x ∈ es.map (·.1) := hpm.mem_iff
    rcases hb with ⟨e, rfl, rfl⟩ | ⟨hk, rfl⟩
    · by_cases hex : e.1 = x
      · have hin : x ∈ ss := hmem.mpr (by rw [← hex]; simp)
        rw [decide_eq_true hin]
        have er : less x [e] = [] := by simp [less, hex]
        rw [er] at q
        exact ⟨M, s1, q⟩
      · have hin : ¬ x ∈ ss := fun z => by have := hmem.mp z; simp at this; exact hex this.symm
        rw [decide_eq_false hin]
        have er : less x [e] = [e] := by simp [less, hex]
        rw [er] at q
        exact ⟨M, s1, q⟩
    · obtain ⟨ha, hin, hne⟩ := hx rfl
      rw [decide_eq_true (hmem.mpr hin)]
      show ∀ p, M1 p = none → _
      intro lb hlb
      have hb0 : M lb = none := sub_none s1 hlb
      refine ⟨fun i τ M' => (∃ v3 v4, τ = [some (knotD es), some (.str x), some (.ref lb), v3, v4]) ∧ Sub M M' ∧ M' lb = some (.lst ((less x (es.take i)).map leafD)), ⟨⟨none, none, rfl⟩, s1.trans (Sub.new hlb), updM_same⟩, fun _ _ _ _ _ => trivial, ?_, ?_⟩
      · rintro i d τ M' ed ⟨⟨v3, v4, rfl⟩, hs, hlst⟩
        rw [List.getElem?_map] at ed
        cases ee : es[i]? with
        | none => rw [ee] at ed; cases ed
        | some e =>
          rw [ee] at ed
          cases ed
          have et : less x (es.take (i + 1)) = less x (es.take i) ++ less x [e] := by
            unfold less; rw [List.take_add_one, ee, List.filter_append]; rfl
          refine h0 hk _ _ _ ⟨[e], leafD e, x, rfl, .inl ⟨e, rfl, rfl⟩, fun z => absurd z leaf_knot, by simp, ?_⟩
          by_cases hex : e.1 = x
          · have er : less x [e] = [] := by simp [less, hex]
            rw [er, List.append_nil] at et
            rw [er]
            exact ⟨⟨_, _, rfl⟩, hs, by rw [et]; exact hlst⟩
          · have er : less x [e] = [e] := by simp [less, hex]
            rw [er] at et
            rw [er]
            refine ⟨⟨rfl, _, hlst⟩, _, hlst, ?_, ⟨_, _, rfl⟩, sub_upd hs hb0, ?_⟩
            · rw [List.length_map]
              have h1 : (less x (es.take i)).length ≤ (es.take i).length := List.length_filter_le _ _
              rw [List.length_take] at h1
              exact line1000 (by (first | lia | omega))
            · rw [updM_same, et, List.map_append]; rfl
      · rintro τ M' ⟨⟨v3, v4, rfl⟩, hs, hlst⟩
        rw [List.length_map, List.take_length] at hlst
        have hll : (less x es).length ≤ es.length := List.length_filter_le _ _
        have haL : AllLf (less x es) := fun e he => ha e (List.mem_filter.mp he).1
        generalize less x es = r at *
        refine ⟨_, hlst, ?_⟩
        match r, hne with
        | [e], _ =>
          refine ⟨_, _, hlst, rfl, ?_⟩
          exact ⟨M, hs, q⟩
        | e :: e' :: r, _ =>
          refine ⟨lb, e :: e' :: r, rfl, hlst, haL, by simp, by (first | lia | omega), ?_⟩
          exact ⟨M, hs, q⟩
theorem ok_wn0 (T : Txt K mg) : FnD P w K mg base 6 "without_name" ["bough", "name"] (spWN 0) := ok_wnG T 0 5 (by (first | lia | omega)) (fun _ _ _ => False) ((fn_none T.f_without_name fun _ _ _ z => z).mono (by (first | lia | omega))) fun h => absurd h (by (first | lia | omega))
theorem ok_wn (T : Txt K mg) : FnD P w K mg base 7 "without_name" ["bough", "name"] (spWN 1) := ok_wnG T 1 6 (by (first | lia | omega)) (spWN 0) (ok_wn0 T) fun _ _ _ _ h => h
noncomputable def kdic (es : List Ent) : List (Key × D) := es.map fun e => ((Sum.inr e.1 : Key), e.2.d)
theorem kdic_len (es : List Ent) : (kdic es).length = es.length := by unfold kdic; rw [List.length_map]
theorem kdic_keys (es : List Ent) : (kdic es).map (·.1) = (es.map (·.1)).map Sum.inr := by unfold kdic; rw [List.map_map, List.map_map]; rfl
noncomputable def lookE (es : List Ent) (x : Str) : Option Tree := (es.find? fun e => decide (e.1 = x)).map (·.2)
theorem kdic_val (x : Str) : ∀ es : List Ent, valD (kdic es) (.inr x) = (lookE es x).map Tree.d
  | [] => rfl
  | e :: es => by
    have ih := kdic_val x es
    unfold lookE at ih ⊢
    by_cases h : e.1 = x
    · have e1 : valD (kdic (e :: es)) (.inr x) = some e.2.d := valD_pos (p := ((Sum.inr e.1 : Key), e.2.d)) (by rw [h])
      rw [e1, List.find?_cons, decide_eq_true h]
      rfl
    · have e1 : valD (kdic (e :: es)) (.inr x) = valD (kdic es) (.inr x) := valD_neg (p := ((Sum.inr e.1 : Key), e.2.d)) fun z => h (Sum.inr.inj z)
      rw [e1, ih, List.find?_cons, decide_eq_false h]
theorem lookE_none {x : Str} : ∀ {es : List Ent}, lookE es x = none ↔ x ∉ es.map (·.1)
  | [] => by simp [lookE]
  | e :: es => by
    have ih := lookE_none (x := x) (es := es)
    unfold lookE at ih ⊢
    rw [List.find?_cons]
    by_cases h : e.1 = x
    · rw [decide_eq_true h]; simp [h]
    · rw [decide_eq_false h, List.map_cons, List.mem_cons]
      constructor
      · intro z0 z
        rcases z with z | z
        · exact h z.symm
        · exact ih.mp z0 z
      · intro z
        exact ih.mpr fun y => z (.inr y)
theorem kdic_drop (x : Str) : ∀ es : List Ent, dropD (kdic es) (.inr x) = kdic (less x es)
  | [] => rfl
  | e :: es => by
    have ih := kdic_drop x es
    unfold dropD less kdic at ih ⊢
    rw [List.map_cons, List.filter_cons, List.filter_cons]
    by_cases h : e.1 = x
    · rw [decide_eq_false (show ¬ ((Sum.inr e.1 : Key) ≠ Sum.inr x) from fun z => z (by rw [h])), decide_eq_true h]
      exact ih
    · rw [decide_eq_true (show (Sum.inr e.1 : Key) ≠ Sum.inr x from fun z => h (Sum.inr.inj z)), decide_eq_false h]
      show _ :: _ = _ :: _
      rw [ih]
noncomputable def cf (lk : Addr) (tp : D) : List (Str × D) := [("kept", .ref lk), ("top", tp)]
theorem nkt : ¬ (("kept" : Str) = "top") := by decide +kernel
theorem bkk : (("kept" : Str) == "kept") = true := by decide +kernel
theorem btk : (("top" : Str) == "kept") = false := by decide +kernel
theorem btt : (("top" : Str) == "top") = true := by decide +kernel
theorem cf_kept (lk : Addr) (tp : D) : (cf lk tp).lookup ("kept" : Str) = some (.ref lk) := by simp only [cf, List.lookup, bkk]
theorem cf_top (lk : Addr) (tp : D) : (cf lk tp).lookup ("top" : Str) = some tp := by simp only [cf, List.lookup, btk, btt]
theorem cf_no (lk : Addr) (tp : D) {m : Str} (h1 : (m == "kept") = false) (h2 : (m == "top") = false) : (cf lk tp).lookup m = none := by simp only [cf, List.lookup, h1, h2]
theorem cf_put (lk : Addr) (tp tp' : D) : putFD "top" tp' (cf lk tp) = cf lk tp' := by
  show (if ("kept" : Str) = "top" then _ else (("kept" : Str), D.ref lk) :: (if ("top" : Str) = "top" then [(("top" : Str), tp')] else _)) = _
  rw [if_neg nkt, if_pos rfl]; rfl
noncomputable def Cab (mg : Str → Option Value) (M : DH) (a dx lk : Addr) (es : List Ent) : Prop := M a = some (.ins (cl mg "Cabinet") dx (cf lk (topD es))) ∧ M lk = some (.dic (kdic es))
noncomputable def cabM (mg : Str → Option Value) (M : DH) (a dx lk : Addr) (es : List Ent) : DH := updM (updM M a (.ins (cl mg "Cabinet") dx (cf lk (topD es)))) lk (.dic (kdic es))
theorem Cab.ne {mg : Str → Option Value} {M : DH} {a dx lk : Addr} {es : List Ent} (h : Cab mg M a dx lk es) : a ≠ lk := fun z => by
  obtain ⟨h1, h2⟩ := h
  subst z
  rw [h1] at h2
  cases h2
theorem cab_cab {mg : Str → Option Value} {M : DH} {a dx lk : Addr} {es : List Ent} (h : a ≠ lk) : Cab mg (cabM mg M a dx lk es) a dx lk es := ⟨by unfold cabM; rw [updM_ne h, updM_same], updM_same⟩
theorem Cab.sub {mg : Str → Option Value} {M M' : DH} {a dx lk : Addr} {es : List Ent} (h : Cab mg M a dx lk es) (s : Sub M M') : Cab mg M' a dx lk es := ⟨s _ _ h.1, s _ _ h.2⟩
theorem cabM_cabM {mg : Str → Option Value} {M : DH} {a dx lk : Addr} {es es' : List Ent} : cabM mg (cabM mg M a dx lk es) a dx lk es' = cabM mg M a dx lk es' := by
  funext b
  unfold cabM
  by_cases h1 : b = lk
  · subst h1; rw [updM_same, updM_same]
  · rw [updM_ne h1, updM_ne h1]
    by_cases h2 : b = a
    · subst h2; rw [updM_same, updM_same]
    · rw [updM_ne h2, updM_ne h2, updM_ne h1, updM_ne h2]
theorem upd_swap {M : DH} {a b : Addr} {o o' : MO} (h : a ≠ b) : updM (updM M b o') a o = updM (updM M a o) b o' := by
  funext c
  by_cases h1 : c = a
  · subst h1; rw [updM_same, updM_ne h, updM_same]
  · rw [updM_ne h1]
    by_cases h2 : c = b
    · subst h2; rw [updM_same, updM_same]
    · rw [updM_ne h2, updM_ne h2, updM_ne h1]
noncomputable def spNew (mg : Str → Option Value) : SpD := fun ds M Q => ∃ a dx : Addr, ds = [.ref a] ∧ M a = some (.ins (cl mg "Cabinet") dx []) ∧ ∀ lk, M lk = none → Q .non (cabM mg M a dx lk [])
theorem ok_new (T : Txt K mg) : FnI P w K mg base (cl mg "Cabinet") 1 ["self"] (spNew mg) := by
  refine def_okI T.f_Cabinet___init__ sc_Cabinet___init__ (fun ds M Q h => ?_) fun f cdv A outer s H E hr => ⟨_, (ss_cons (s_fld T.c_Cabinet T.a_Cabinet_kept (d_var 0) d_dict0)
 (ss_one (s_fld T.c_Cabinet T.a_Cabinet_top (d_var 0) d_non))), fun ds M Q h => ?_⟩
  · obtain ⟨a, dx, rfl, _⟩ := h; rfl
  · obtain ⟨a, dx, rfl, ha, q⟩ := h
    show ∀ p, _ → _
    intro lk hlk
    have hal : a ≠ lk := fun z => by subst z; rw [ha] at hlk; cases hlk
    refine ⟨a, dx, _, rfl, by rw [updM_ne hal]; exact ha, by decide, ?_⟩
    refine ⟨a, dx, _, rfl, updM_same, by show 1 < 1000; decide, ?_⟩
    refine ⟨_, Sub.refl _, ?_⟩
    have e := q lk hlk
    have ef : putFD "top" .non (putFD "kept" (.ref lk) []) = cf lk (topD []) := by
      show (if ("kept" : Str) = "top" then _ else (("kept" : Str), D.ref lk) :: [(("top" : Str), D.non)]) = _
      rw [if_neg nkt]; rfl
    show Q .non (updM (updM (updM M lk (.dic [])) a (.ins (cl mg "Cabinet") dx (putFD "kept" (.ref lk) []))) a (.ins (cl mg "Cabinet") dx (putFD "top" .non (putFD "kept" (.ref lk) []))))
    rw [updM_upd, ef]
    have eh : updM (updM M lk (.dic [])) a (.ins (cl mg "Cabinet") dx (cf lk (topD []))) = cabM mg M a dx lk [] := upd_swap hal
    rw [eh]
    exact e
noncomputable def spForm (mg : Str → Option Value) : SpE := fun ds M Q EX => ∃ (a dx lk : Addr) (es : List Ent) (x : Str), ds = [.ref a, .str x] ∧ Cab mg M a dx lk es ∧ (lookE es x = none → EX (.ref (cl mg "NoForm")) M) ∧ ∀ t, lookE es x = some t → Q t.d M
theorem ok_form (T : Txt K mg) : FnME P w K mg base (cl mg "Cabinet") 1 "form_of" ["self", "name"] (spForm mg) := by
  refine def_okME T.f_Cabinet_form_of sc_Cabinet_form_of (fun ds M Q E h => ?_) fun f cdv A outer s H E EX hr hx hp => ⟨_, (ss_cons (s_if (dt_cmp (od_notinX hr) (d_var 1) (d_fld T.c_Cabinet T.a_Cabinet_kept (d_var 0)) (rfl)) (ss_one (s_raise hx rfl (xc_NoForm T) (a_cons d_str a_nil))) ss_nil)
 (ss_one (s_ret (d_ixK hr (d_fld T.c_Cabinet T.a_Cabinet_kept (d_var 0)) (d_var 1))))), fun ds M Q h => ?_⟩
  · obtain ⟨a, dx, lk, es, x, rfl, _⟩ := h; rfl
  · obtain ⟨a, dx, lk, es, x, rfl, hc, hE, q⟩ := h
    refine ⟨a, dx, _, _, rfl, hc.1, cf_kept lk _, ?_⟩
    refine .inl ⟨_, _, rfl, .inl hc.2, ?_⟩
    rw [kdic_val]
    cases e : lookE es x with
    | none => exact ⟨by show 1 ≤ 1000; decide, hE e⟩
    | some t =>
      refine ⟨a, dx, _, _, rfl, hc.1, cf_kept lk _, ?_⟩
      refine ⟨_, _, _, rfl, .inl hc.2, by rw [kdic_val, e]; rfl, ?_⟩
      exact ⟨M, Sub.refl M, q t e⟩
noncomputable def spNames (mg : Str → Option Value) : SpD := fun ds M Q => ∃ (a dx lk : Addr) (es : List Ent), ds = [.ref a] ∧ Cab mg M a dx lk es ∧ es.length < 64 ∧ ∀ p (ss : List Str), M p = none → ss.Perm (es.map (·.1)) → sortedS ss = true → Q (.ref p) (updM M p (.lst (ss.map .str)))
theorem ok_names (T : Txt K mg) : FnM P w K mg base (cl mg "Cabinet") 1 "names" ["self"] (spNames mg) := by
  have m_sorted := T.m_sorted
  refine def_okM T.f_Cabinet_names sc_Cabinet_names (fun ds M Q h => ?_) fun f cdv A outer s H E hr => ⟨_, (ss_one (s_ret (d_callB (cd_sortedS rfl) rfl m_sorted bt_sorted (a_cons (d_fld T.c_Cabinet T.a_Cabinet_kept (d_var 0)) a_nil)))), fun ds M Q h => ?_⟩
  · obtain ⟨a, dx, lk, es, rfl, _⟩ := h; rfl
  · obtain ⟨a, dx, lk, es, rfl, hc, hlen, q⟩ := h
    refine ⟨a, dx, _, _, rfl, hc.1, cf_kept lk _, ?_⟩
    refine ⟨es.map (·.1), .inr ⟨_, .inl hc.2, kdic_keys es⟩, by rw [List.length_map]; exact hlen, fun p ss hp h1 h2 => ?_⟩
    exact ⟨_, Sub.refl _, q p ss hp h1 h2⟩
theorem bough_top : ∀ {es : List Ent}, es ≠ [] → Bough 1 es (topD es)
  | [], h => absurd rfl h
  | [e], _ => .inl ⟨e, rfl, rfl⟩
  | _ :: _ :: _, _ => .inr ⟨Nat.one_pos, rfl⟩
theorem kdic_put {es : List Ent} {x : Str} (t : Tree) (h : lookE es x = none) : putD (kdic es) (.inr x) t.d = kdic (es ++ [(x, t)]) := by
  rw [putD_new _ (by rw [kdic_val, h]; rfl)]
  unfold kdic
  rw [List.map_append]
  rfl
noncomputable def spPut (mg : Str → Option Value) : SpE := fun ds M Q EX => ∃ (a dx lk : Addr) (es : List Ent) (x : Str) (t : Tree), ds = [.ref a, .str x, t.d] ∧ Cab mg M a dx lk es ∧ es.length ≤ 40 ∧ x.length ≤ 1000 ∧ (es ≠ [] → es.length < 40 → AllLf (es ++ [(x, t)])) ∧
  (nameL x.cps.toList = false → EX (.ref (cl mg "BadName")) M) ∧ (nameL x.cps.toList = true → x ∈ es.map (·.1) → EX (.ref (cl mg "Twice")) M) ∧ (nameL x.cps.toList = true → x ∉ es.map (·.1) → es.length = 40 → EX (.ref (cl mg "TooLong")) M) ∧
  (nameL x.cps.toList = true → x ∉ es.map (·.1) → es.length < 40 → Q .non (cabM mg M a dx lk (es ++ [(x, t)])))
theorem ok_put (T : Txt K mg) : FnME P w K mg base (cl mg "Cabinet") 7 "put" ["self", "name", "form"] (spPut mg) := by
  have m_len := T.m_len
  obtain ⟨t_MOST_FORMS, g_MOST_FORMS⟩ := T.g_MOST_FORMS
  have F_is_name := (ok_is_name (P := P) (w := w) (base := base) T (ok_is_letter T) (ok_is_figure T)).mono (show 2 ≤ 6 by (first | lia | omega))
  have F_with_leaf := ok_wl (P := P) (w := w) (base := base) T
  refine def_okME T.f_Cabinet_put sc_Cabinet_put (fun ds M Q E h => ?_) fun f cdv A outer s H E EX hr hx hp => ⟨_, (ss_cons (s_if (dt_not (dt_val (d_call F_is_name (hr.mono (by (first | lia | omega))) (a_cons (d_var 1) a_nil)))) (ss_one (s_raise hx rfl (xc_BadName T) (a_cons d_str a_nil))) ss_nil)
 (ss_cons (s_if (dt_cmp (od_inX hr) (d_var 1) (d_fld T.c_Cabinet T.a_Cabinet_kept (d_var 0)) (rfl)) (ss_one (s_raise hx rfl (xc_Twice T) (a_cons d_str a_nil))) ss_nil)
 (ss_cons (s_if (dt_cmp od_ge (d_callB cd_lenK rfl m_len bt_len (a_cons (d_fld T.c_Cabinet T.a_Cabinet_kept (d_var 0)) a_nil)) (d_glob_int rfl g_MOST_FORMS ⟨_, rfl⟩) (nomark _)) (ss_one (s_raise hx rfl (xc_TooLong T) (a_cons d_str a_nil))) ss_nil)
 (ss_cons (s_set (i := 3) sc_Cabinet_put.nd (d_tup (a_cons d_str (a_cons (d_var 1) (a_cons (d_var 2) a_nil)))))
 (ss_cons (s_fld T.c_Cabinet T.a_Cabinet_top (d_var 0) (d_ifx (dt_cmp od_is (d_fld T.c_Cabinet T.a_Cabinet_top (d_var 0)) d_non (nomark _)) (d_var 3) (d_call F_with_leaf (hr.mono (by (first | lia | omega))) (a_cons (d_fld T.c_Cabinet T.a_Cabinet_top (d_var 0)) (a_cons (d_var 3) a_nil)))))
 (ss_one (s_asg (d_var 2) (g_subK hr (d_fld T.c_Cabinet T.a_Cabinet_kept (d_var 0)) (d_var 1))))))))), fun ds M Q h => ?_⟩
  · obtain ⟨a, dx, lk, es, x, t, rfl, _⟩ := h; rfl
  · obtain ⟨a, dx, lk, es, x, t, rfl, hc, hle, hxl, ha, e1, e2, e3, q⟩ := h
    refine ⟨x, rfl, hxl, ?_⟩
    cases hn : nameL x.cps.toList with
    | false => exact ⟨by show 1 ≤ 1000; decide, e1 hn⟩
    | true =>
      refine ⟨a, dx, _, _, rfl, hc.1, cf_kept lk _, ?_⟩
      refine .inl ⟨_, _, rfl, .inl hc.2, ?_⟩
      rw [kdic_val]
      cases e : lookE es x with
      | some u =>
        have hin : x ∈ es.map (·.1) := Decidable.byContradiction fun z => by rw [lookE_none.mpr z] at e; cases e
        exact ⟨by show 1 ≤ 1000; decide, e2 hn hin⟩
      | none =>
        have hin := lookE_none.mp e
        refine ⟨a, dx, _, _, rfl, hc.1, cf_kept lk _, ?_⟩
        refine ⟨_, .inl hc.2, ?_⟩
        rw [kdic_len]
        show if decide ((40 : Int) ≤ (es.length : Int)) = true then _ else _
        by_cases hlt : es.length < 40
        · refine ifF (by (first | lia | omega)) ?_
          have qq := q hn hin hlt
          have fin : ∀ tp, tp = topD (es ++ [(x, t)]) → sFldD (cl mg (Str.ofString "Cabinet")) (Str.ofString "top") (eVar 0) (fun _ M Q => Q tp M) { (endsOf Q) with nx := (sAsg (eVar 2) (hSubK (eFld (cl mg (Str.ofString "Cabinet")) (Str.ofString "kept") (eVar 0)) (eVar 1))) (endsOf Q) } [some (.ref a), some (.str x), some t.d, some (leafD (x, t))] M := by
            rintro tp rfl
            refine ⟨a, dx, _, rfl, hc.1, by show 2 < 1000; decide, ?_⟩
            have ecf := cf_put lk (topD es) (topD (es ++ [(x, t)]))
            rw [ecf]
            refine ⟨a, dx, _, _, rfl, updM_same, cf_kept lk _, ?_⟩
            refine ⟨.inr x, _, rfl, by rw [updM_ne (Ne.symm hc.ne)]; exact hc.2, by rw [kdic_len]; exact small1000 (by (first | lia | omega)), ?_⟩
            rw [kdic_put t e]
            exact ⟨_, Sub.refl _, qq⟩
          refine ⟨a, dx, _, _, rfl, hc.1, cf_top lk _, ?_⟩
          match es, ha with
          | [], _ => exact fin _ rfl
          | [e0], ha =>
            refine ⟨a, dx, _, _, rfl, hc.1, cf_top lk _, ?_⟩
            refine ⟨[e0], leafD e0, (x, t), rfl, .inl ⟨e0, rfl, rfl⟩, ha (by simp) hlt, by simp, by simp, ?_⟩
            exact fin _ rfl
          | e0 :: e4 :: r, ha =>
            refine ⟨a, dx, _, _, rfl, hc.1, cf_top lk _, ?_⟩
            refine ⟨e0 :: e4 :: r, knotD (e0 :: e4 :: r), (x, t), rfl, .inr ⟨Nat.one_pos, rfl⟩, ha (by simp) hlt, by simp, by (first | lia | omega), ?_⟩
            exact fin _ rfl
        · refine ifT (by (first | lia | omega)) ?_
          exact ⟨by show 1 ≤ 1000; decide, e3 hn hin (by (first | lia | omega))⟩
theorem less_some {x : Str} : ∀ {es : List Ent}, (es.map (·.1)).Nodup → 2 ≤ es.length → less x es ≠ []
  | [], _, h => by simp at h
  | [_], _, h => by simp at h
  | e :: e' :: r, hn, _ => fun z => by
    have hd : e.1 ≠ e'.1 := fun y => by
      rw [List.map_cons, List.map_cons, y] at hn
      exact (List.nodup_cons.mp hn).1 List.mem_cons_self
    have h1 : ∀ y ∈ (e :: e' :: r), y.1 = x := fun y hy => Decidable.byContradiction fun w => by
      have : y ∈ less x (e :: e' :: r) := List.mem_filter.mpr ⟨hy, by simpa using w⟩
      rw [z] at this
      cases this
    exact hd ((h1 e List.mem_cons_self).trans (h1 e' (List.mem_cons_of_mem _ List.mem_cons_self)).symm)
noncomputable def spTake (mg : Str → Option Value) : SpE := fun ds M Q EX => ∃ (a dx lk : Addr) (es : List Ent) (x : Str), ds = [.ref a, .str x] ∧ Cab mg M a dx lk es ∧ es.length ≤ 40 ∧ (es.map (·.1)).Nodup ∧ (2 ≤ es.length → AllLf es) ∧
  (x ∉ es.map (·.1) → EX (.ref (cl mg "NoForm")) M) ∧ (x ∈ es.map (·.1) → Q .non (cabM mg M a dx lk (less x es)))
theorem ok_take (T : Txt K mg) : FnME P w K mg base (cl mg "Cabinet") 8 "take" ["self", "name"] (spTake mg) := by
  have E_Cabinet_form_of := (ok_form (P := P) (w := w) (base := base) T).mono (show 1 ≤ 7 by (first | lia | omega))
  have F_without_name := ok_wn (P := P) (w := w) (base := base) T
  refine def_okME T.f_Cabinet_take sc_Cabinet_take (fun ds M Q E h => ?_) fun f cdv A outer s H E EX hr hx hp => ⟨_, (ss_cons (s_expr (d_methE T.c_Cabinet E_Cabinet_form_of hx.toXCame (hr.mono (by (first | lia | omega))) (d_var 0) (a_cons (d_var 1) a_nil)))
 (ss_cons (s_expr (d_popK (d_fld T.c_Cabinet T.a_Cabinet_kept (d_var 0)) (a_cons (d_var 1) a_nil)))
 (ss_one (s_fld T.c_Cabinet T.a_Cabinet_top (d_var 0) (d_call F_without_name (hr.mono (by (first | lia | omega))) (a_cons (d_fld T.c_Cabinet T.a_Cabinet_top (d_var 0)) (a_cons (d_var 1) a_nil))))))), fun ds M Q h => ?_⟩
  · obtain ⟨a, dx, lk, es, x, rfl, _⟩ := h; rfl
  · obtain ⟨a, dx, lk, es, x, rfl, hc, hle, hnd, ha, hE, q⟩ := h
    refine ⟨a, dx, _, rfl, hc.1, cf_no lk _ (by decide +kernel) (by decide +kernel), ?_⟩
    refine ⟨a, dx, lk, es, x, rfl, hc, fun z => ⟨M, Sub.refl M, hE (lookE_none.mp z)⟩, fun t ht => ?_⟩
    have hin : x ∈ es.map (·.1) := Decidable.byContradiction fun z => by rw [lookE_none.mpr z] at ht; cases ht
    have qq := q hin
    have hne : es ≠ [] := fun z => by rw [z] at hin; cases hin
    refine ⟨a, dx, _, _, rfl, hc.1, cf_kept lk _, ?_⟩
    refine ⟨⟨lk, _, rfl, hc.2⟩, lk, _, _, _, _, rfl, rfl, rfl, hc.2, by rw [kdic_val, ht]; rfl, ?_⟩
    rw [kdic_drop]
    refine ⟨a, dx, _, _, rfl, by rw [updM_ne hc.ne]; exact hc.1, cf_top lk _, ?_⟩
    refine ⟨es, topD es, x, rfl, bough_top hne, fun z => ?_, by (first | lia | omega), ?_⟩
    · have h2 : 2 ≤ es.length := by
        match es, hne, z with
        | [e], _, z => exact absurd z leaf_knot
        | _ :: _ :: _, _, _ => simp
      exact ⟨ha h2, hin, less_some hnd h2⟩
    · refine ⟨a, dx, _, rfl, by rw [updM_ne hc.ne]; exact hc.1, by show 2 < 1000; decide, ?_⟩
      have ecf := cf_put lk (topD es) (topD (less x es))
      rw [ecf, upd_swap hc.ne]
      exact ⟨_, Sub.refl _, qq⟩
noncomputable def spChange (mg : Str → Option Value) : SpE := fun ds M Q EX => ∃ (a dx lk : Addr) (es : List Ent) (x : Str) (p : List Int) (v : Tree), ds = [.ref a, .str x, tupI p, v.d] ∧ Cab mg M a dx lk es ∧ es.length ≤ 1 ∧ nameL x.cps.toList = true ∧ x.length ≤ 1000 ∧ p.length < 10 ∧
  (x ∉ es.map (·.1) → EX (.ref (cl mg "NoForm")) M) ∧ ∀ t, es = [(x, t)] → t.knots ≤ 900 ∧ (downN t p = none → EX (.ref (cl mg "NoPlace")) M) ∧ ∀ u, downN t p = some u → (putT t p v).depth ≤ 40 ∧
    ((200 < (putT t p v).knots ∨ 30 < (putT t p v).depth) → EX (.ref (cl mg "TooLong")) M) ∧ (¬ (200 < (putT t p v).knots ∨ 30 < (putT t p v).depth) → Q .non (cabM mg M a dx lk [(x, putT t p v)]))
theorem ok_change (T : Txt K mg) : FnME P w K mg base (cl mg "Cabinet") 42 "change" ["self", "name", "place", "part"] (spChange mg) := by
  obtain ⟨t_MOST_DEPTH, g_MOST_DEPTH⟩ := T.g_MOST_DEPTH
  obtain ⟨t_MOST_KNOTS, g_MOST_KNOTS⟩ := T.g_MOST_KNOTS
  have E_Cabinet_form_of := (ok_form (P := P) (w := w) (base := base) T).mono (show 1 ≤ 41 by (first | lia | omega))
  have E_Cabinet_take := (ok_take (P := P) (w := w) (base := base) T).mono (show 8 ≤ 41 by (first | lia | omega))
  have E_Cabinet_put := (ok_put (P := P) (w := w) (base := base) T).mono (show 7 ≤ 41 by (first | lia | omega))
  have E_put_at := (ok_putE (P := P) (w := w) (base := base) T 10).mono (show 13 ≤ 41 by (first | lia | omega))
  have F_knots_of := ok_knots_of (P := P) (w := w) (base := base) T 40
  have F_depth_of := ok_depth_of (P := P) (w := w) (base := base) T 40
  refine def_okME T.f_Cabinet_change sc_Cabinet_change (fun ds M Q E h => ?_) fun f cdv A outer s H E EX hr hx hp => ⟨_, (ss_cons (s_set (i := 4) sc_Cabinet_change.nd (d_callE E_put_at hx.toXCame (hr.mono (by (first | lia | omega))) (a_cons (d_methE T.c_Cabinet E_Cabinet_form_of hx.toXCame (hr.mono (by (first | lia | omega))) (d_var 0) (a_cons (d_var 1) a_nil)) (a_cons (d_var 2) (a_cons (d_var 3) a_nil)))))
 (ss_cons (s_if (PW.pt (dw_or (dt_cmp od_gt (d_call F_knots_of (hr.mono (by (first | lia | omega))) (a_cons (d_var 4) a_nil)) (d_glob_int rfl g_MOST_KNOTS ⟨_, rfl⟩) (nomark _)) (dw_or1 (dt_cmp od_gt (d_call F_depth_of (hr.mono (by (first | lia | omega))) (a_cons (d_var 4) a_nil)) (d_glob_int rfl g_MOST_DEPTH ⟨_, rfl⟩) (nomark _))))) (ss_one (s_raise hx rfl (xc_TooLong T) (a_cons d_str a_nil))) ss_nil)
 (ss_cons (s_expr (d_methE T.c_Cabinet E_Cabinet_take hx.toXCame (hr.mono (by (first | lia | omega))) (d_var 0) (a_cons (d_var 1) a_nil)))
 (ss_one (s_expr (d_methE T.c_Cabinet E_Cabinet_put hx.toXCame (hr.mono (by (first | lia | omega))) (d_var 0) (a_cons (d_var 1) (a_cons (d_var 4) a_nil)))))))), fun ds M Q h => ?_⟩
  · obtain ⟨a, dx, lk, es, x, p, v, rfl, _⟩ := h; rfl
  · obtain ⟨a, dx, lk, es, x, p, v, rfl, hc, hle, hn, hxl, hpl, hE, q⟩ := h
    have hno : ∀ (tp : D) (m : Str), (m == "kept") = false → (m == "top") = false → (cf lk tp).lookup m = none := fun tp m h1 h2 => cf_no lk tp h1 h2
    refine ⟨a, dx, _, rfl, hc.1, hno _ _ (by decide +kernel) (by decide +kernel), ?_⟩
    refine ⟨a, dx, lk, es, x, rfl, hc, fun z => ⟨M, Sub.refl M, hE (lookE_none.mp z)⟩, fun t ht => ?_⟩
    have hes : es = [(x, t)] := by
      match es, hle, ht with
      | [(x0, t0)], _, ht =>
        by_cases hx0 : x0 = x
        · have e1 : lookE [(x0, t0)] x = some t0 := by unfold lookE; rw [List.find?_cons, decide_eq_true hx0]; rfl
          rw [e1] at ht
          cases ht
          rw [hx0]
        · have e1 : lookE [(x0, t0)] x = none := by unfold lookE; rw [List.find?_cons, decide_eq_false hx0]; rfl
          rw [e1] at ht
          cases ht
      | _ :: _ :: _, hle, _ => simp at hle
    obtain ⟨hk, q1, q2⟩ := q t hes
    refine ⟨t, v, p, rfl, hpl, hk, ?_⟩
    cases hd : downN t p with
    | none => exact ⟨M, Sub.refl M, q1 hd⟩
    | some u =>
      obtain ⟨hdep, qe, qq⟩ := q2 u hd
      generalize putT t p v = c at *
      have go : ¬ (200 < c.knots ∨ 30 < c.depth) → sSeq (sDrop (eMethE (cl mg (Str.ofString "Cabinet")) (Str.ofString "take") (spTake mg) (fun x => EX) (eVar 0) (eCons (eVar 1) eNil))) (sDrop (eMethE (cl mg (Str.ofString "Cabinet")) (Str.ofString "put") (spPut mg) (fun x => EX) (eVar 0) (eCons (eVar 1) (eCons (eVar 4) eNil)))) (endsOf Q) [some (.ref a), some (.str x), some (tupI p), some v.d, some c.d] M := by
        intro hok
        have hq := qq hok
        subst hes
        refine ⟨a, dx, _, rfl, hc.1, hno _ _ (by decide +kernel) (by decide +kernel), ?_⟩
        refine ⟨a, dx, lk, [(x, t)], x, rfl, hc, by simp, by simp, fun z => absurd z (by simp), fun z => absurd (show x ∈ [(x, t)].map (·.1) by simp) z, fun _ => ?_⟩
        have el : less x [(x, t)] = [] := by simp [less]
        rw [el]
        have hc2 : Cab mg (cabM mg M a dx lk []) a dx lk [] := cab_cab hc.ne
        refine ⟨a, dx, _, rfl, hc2.1, hno _ _ (by decide +kernel) (by decide +kernel), ?_⟩
        refine ⟨a, dx, lk, [], x, c, rfl, hc2, by simp, hxl, fun z => absurd rfl z, fun z => absurd (z.symm.trans hn) (by decide), fun _ z => absurd z (by simp), fun _ _ z => absurd z (by simp), fun _ _ _ => ?_⟩
        rw [cabM_cabM]
        exact ⟨_, Sub.refl _, hq⟩
      refine ⟨c, rfl, hdep, ?_⟩
      show if decide ((200 : Int) < (c.knots : Int)) = true then _ else _
      by_cases h1 : 200 < c.knots
      · refine ifT (by (first | lia | omega)) ?_
        exact ⟨by show 1 ≤ 1000; decide, qe (.inl h1)⟩
      · refine ifF (by (first | lia | omega)) ?_
        refine ⟨c, rfl, hdep, ?_⟩
        show if decide ((30 : Int) < (c.depth : Int)) = true then _ else _
        by_cases h2 : 30 < c.depth
        · refine ifT (by (first | lia | omega)) ?_
          exact ⟨by show 1 ≤ 1000; decide, qe (.inr h2)⟩
        · refine ifF (by (first | lia | omega)) ?_
          exact go fun z => z.elim h1 h2
noncomputable def RowOf (es : List Ent) (d : D) (M : DH) : Prop := (∃ e, es = [e] ∧ d = .tup [.str (Str.ofString "one"), .str e.1, .bl true]) ∨ ∃ (p : Addr) (ss : List Str), d = .tup [.str (Str.ofString "all"), .ref p] ∧ M p = some (.lst (ss.map .str)) ∧ ss.Perm (es.map (·.1))
noncomputable def spRB : SpD := fun ds M Q => ∃ (es : List Ent) (b : D) (k : Int), ds = [b, (Tree.blank k).d] ∧ Bough 1 es b ∧ es.length < 64 ∧ ∀ d M', Sub M M' → RowOf es d M' → Q d M'
theorem ok_rb (T : Txt K mg) : FnD P w K mg base 5 "row_below" ["bough", "form"] spRB := by
  have F_fitting := ok_fit (P := P) (w := w) (base := base) T
  have F_form_over := (ok_fo (P := P) (w := w) (base := base) T).mono (show 1 ≤ 4 by (first | lia | omega))
  have F_names_under := (ok_nu (P := P) (w := w) (base := base) T).mono (show 2 ≤ 4 by (first | lia | omega))
  have F_barring_paper : FnD P w K mg base 0 "barring_paper" ["one", "other"] (fun _ _ _ => False) := fn_none T.f_barring_paper fun _ _ _ z => z
  have F_barred_row : FnD P w K mg base 0 "barred_row" ["bough", "reason"] (fun _ _ _ => False) := fn_none T.f_barred_row fun _ _ _ z => z
  refine def_ok T.f_row_below sc_row_below (fun ds M Q h => ?_) fun f cdv A outer s H E hr => ⟨_, (ss_cons (s_set (i := 2) sc_row_below.nd (d_cmp od_isnot (d_call F_fitting (hr.mono (by (first | lia | omega))) (a_cons (d_var 1) (a_cons (d_call F_form_over (hr.mono (by (first | lia | omega))) (a_cons (d_var 0) a_nil)) a_nil))) d_non (nomark _)))
 (ss_cons (s_if (dt_cmp (od_eq hr) (d_ix (d_var 0) d_int) d_str (nomark _)) (ss_one (s_ret (d_tup (a_cons d_str (a_cons (d_ix (d_var 0) d_int) (a_cons (d_var 2) a_nil)))))) ss_nil)
 (ss_cons (s_if (dt_val (d_var 2)) (ss_one (s_ret (d_tup (a_cons d_str (a_cons (d_call F_names_under (hr.mono (by (first | lia | omega))) (a_cons (d_var 0) a_nil)) a_nil))))) ss_nil)
 (ss_one (s_ret (d_call F_barred_row (hr.mono (by (first | lia | omega))) (a_cons (d_var 0) (a_cons (d_call F_barring_paper (hr.mono (by (first | lia | omega))) (a_cons (d_var 1) (a_cons (d_call F_form_over (hr.mono (by (first | lia | omega))) (a_cons (d_var 0) a_nil)) a_nil))) a_nil)))))))), fun ds M Q h => ?_⟩
  · obtain ⟨es, b, k, rfl, _⟩ := h; rfl
  · obtain ⟨es, b, k, rfl, hb, hlen, q⟩ := h
    rcases hb with ⟨e, rfl, rfl⟩ | ⟨_, rfl⟩
    · refine ⟨_, rfl, .inl ⟨e, rfl, ?_⟩⟩
      refine ⟨.blank k, e.2, rfl, .inr ⟨k, rfl⟩, fun l M1 s1 => ?_⟩
      exact ⟨_, Sub.refl _, q _ M1 s1 (.inl ⟨e, rfl, rfl⟩)⟩
    · refine ⟨_, rfl, .inr ⟨es, rfl, ?_⟩⟩
      refine ⟨.blank k, Lf, rfl, .inr ⟨k, rfl⟩, fun l M1 s1 => ?_⟩
      refine ⟨es, knotD es, rfl, .inr ⟨Nat.one_pos, rfl⟩, hlen, fun p ss M2 s2 _ hp hpm _ => ?_⟩
      exact ⟨_, Sub.refl _, q _ M2 (s1.trans s2) (.inr ⟨p, ss, rfl, hp, hpm⟩)⟩
noncomputable def spGR (mg : Str → Option Value) : SpD := fun ds M Q => ∃ (es : List Ent) (b : D) (k : Int) (r : Addr), ds = [b, (Tree.blank k).d, .ref (cl mg "row_below"), .ref r] ∧ Bough 1 es b ∧ es ≠ [] ∧ es.length < 64 ∧ M r = some (.lst []) ∧ ∀ d M', M' r = some (.lst [d]) → (∀ c o, c ≠ r → M c = some o → M' c = some o) → RowOf es d M' → Q .non M'
theorem ok_gr (T : Txt K mg) : FnD P w K mg base 6 "gather_rows" ["bough", "form", "row_of", "rows"] (spGR mg) := by
  have F_row_below := ok_rb (P := P) (w := w) (base := base) T
  have F_gather_rows : FnD P w K mg base 0 "gather_rows" ["bough", "form", "row_of", "rows"] (fun _ _ _ => False) := fn_none T.f_gather_rows fun _ _ _ z => z
  refine def_ok T.f_gather_rows sc_gather_rows (fun ds M Q h => ?_) fun f cdv A outer s H E hr => ⟨_, (ss_cons (s_set (i := 4) sc_gather_rows.nd (d_callV 2 F_row_below (hr.mono (by (first | lia | omega))) (a_cons (d_var 0) (a_cons (d_var 1) a_nil))))
 (ss_one (s_if (dt_cmp od_isnot (d_var 4) d_non (nomark _)) (ss_one (s_expr (d_bm PySem.F.plainAttrs_list PySem.F.slot_list_append PySem.F.type_list_append md_append (d_var 3) (a_cons (d_var 4) a_nil)))) (ss_one (s_for PassesOwn.never rfl (d_ix (d_var 0) d_int) (g_name (i := 5) sc_gather_rows.nd) (ss_one (s_expr (d_call F_gather_rows (hr.mono (by (first | lia | omega))) (a_cons (d_var 5) (a_cons (d_var 1) (a_cons (d_var 2) (a_cons (d_var 3) a_nil)))))))))))), fun ds M Q h => ?_⟩
  · obtain ⟨es, b, k, r, rfl, _⟩ := h; rfl
  · obtain ⟨es, b, k, r, rfl, hb, hne, hlen, hr0, q⟩ := h
    refine ⟨rfl, ?_⟩
    refine ⟨es, b, k, rfl, hb, hlen, fun d M1 s1 hd => ?_⟩
    have hr1 := s1 _ _ hr0
    rcases hd with ⟨e, rfl, rfl⟩ | ⟨p, ss, rfl, hp, hpm⟩
    · refine ⟨⟨rfl, _, hr1⟩, [], hr1, line1000 (by simp), ?_⟩
      exact ⟨_, Sub.refl _, q _ _ updM_same (fun c o hc e => by rw [updM_ne hc]; exact s1 _ _ e) (.inl ⟨e, rfl, rfl⟩)⟩
    · have hpr : p ≠ r := fun z => by
        subst z
        rw [hr1] at hp
        have h1 : ([] : List D) = ss.map .str := MO.lst.inj (Option.some.inj hp)
        have h2 : ss = [] := List.map_eq_nil_iff.mp h1.symm
        rw [h2] at hpm
        exact hne (List.map_eq_nil_iff.mp (List.nil_perm.mp hpm))
      refine ⟨⟨rfl, _, hr1⟩, [], hr1, line1000 (by simp), ?_⟩
      exact ⟨_, Sub.refl _, q _ _ updM_same (fun c o hc e => by rw [updM_ne hc]; exact s1 _ _ e) (.inr ⟨p, ss, rfl, by rw [updM_ne hpr]; exact hp, hpm⟩)⟩
noncomputable def spAI : SpD := fun ds M Q => ∃ (es : List Ent) (r : Addr) (rows : List D), ds = [.ref r] ∧ es.length < 64 ∧ M r = some (.lst rows) ∧ ((es = [] ∧ rows = []) ∨ ∃ d, rows = [d] ∧ RowOf es d M) ∧ ∀ p (ss : List Str) M', Sub M M' → M' p = some (.lst (ss.map .str)) → ss.Perm (es.map (·.1)) → sortedS ss = true → Q (.ref p) M'
theorem ok_ai (T : Txt K mg) : FnD P w K mg base 1 "answers_in" ["rows"] spAI := by
  have m_sorted := T.m_sorted
  refine def_ok T.f_answers_in sc_answers_in (fun ds M Q h => ?_) fun f cdv A outer s H E hr => ⟨_, (ss_cons (s_set (i := 1) sc_answers_in.nd (d_lst a_nil))
 (ss_cons (s_for PassesOwn.never rfl (d_var 0) (g_name (i := 2) sc_answers_in.nd) (ss_one (s_if (dt_cmp (od_eq hr) (d_ix (d_var 2) d_int) d_str (nomark _)) (ss_one (s_expr (d_bm PySem.F.plainAttrs_list PySem.F.slot_list_extend PySem.F.type_list_extend md_extend (d_var 1) (a_cons (d_ix (d_var 2) d_int) a_nil)))) (ss_one (s_if (PW.pt (dw_and (dt_cmp (od_eq hr) (d_ix (d_var 2) d_int) d_str (nomark _)) (dw_and1 (dt_val (d_ix (d_var 2) d_int))))) (ss_one (s_expr (d_bm PySem.F.plainAttrs_list PySem.F.slot_list_append PySem.F.type_list_append md_append (d_var 1) (a_cons (d_ix (d_var 2) d_int) a_nil)))) ss_nil)))))
 (ss_one (s_ret (d_callB (cd_sortedS rfl) rfl m_sorted bt_sorted (a_cons (d_var 1) a_nil)))))), fun ds M Q h => ?_⟩
  · obtain ⟨es, r, rows, rfl, _⟩ := h; rfl
  · obtain ⟨es, r, rows, rfl, hlen, hr0, hrow, q⟩ := h
    show ∀ p, _ → _
    intro p hp
    have hrp : r ≠ p := fun z => by subst z; rw [hr0] at hp; cases hp
    refine ⟨rows, by rw [updM_ne hrp]; exact hr0, fun i τ M' => (∃ v, τ = [some (.ref r), some (.ref p), v]) ∧ M' r = some (.lst rows) ∧ Sub M M' ∧ ∃ ss : List Str, M' p = some (.lst (ss.map .str)) ∧ (i = 0 → ss = []) ∧ (i = 1 → ss.Perm (es.map (·.1))), ⟨⟨none, rfl⟩, by rw [updM_ne hrp]; exact hr0, Sub.new hp, [], updM_same, fun _ => rfl, fun z => absurd z (by (first | lia | omega))⟩, fun i τ M' _ hW => hW.2.1, ?_, ?_⟩
    · rintro i d τ M' ed ⟨⟨v, rfl⟩, hr1, hs, ss, hss, z0, _⟩
      rcases hrow with ⟨_, rfl⟩ | ⟨d0, rfl, hd⟩
      · rw [List.getElem?_nil] at ed; cases ed
      · have hi : i = 0 := by
          rcases i with _ | i
          · rfl
          · rw [List.getElem?_cons_succ, List.getElem?_nil] at ed; cases ed
        subst hi
        rw [List.getElem?_cons_zero] at ed
        cases ed
        cases z0 rfl
        rcases hd with ⟨e, rfl, rfl⟩ | ⟨p1, ss1, rfl, hp1, hpm⟩
        · refine ⟨⟨rfl, _, hss⟩, [], hss, line1000 (by simp), ⟨_, rfl⟩, by rw [updM_ne hrp]; exact hr1, sub_upd hs hp, [e.1], by rw [updM_same]; rfl, fun z => absurd z (by (first | lia | omega)), fun _ => List.Perm.refl _⟩
        · have hle : ss1.length < 64 := by rw [hpm.length_eq, List.length_map]; exact hlen
          refine ⟨⟨rfl, _, hss⟩, [], _, hss, hs _ _ hp1, by rw [List.length_map]; exact line1000 (by simp; (first | lia | omega)), ⟨_, rfl⟩, by rw [updM_ne hrp]; exact hr1, sub_upd hs hp, ss1, by rw [updM_same]; rfl, fun z => absurd z (by (first | lia | omega)), fun _ => hpm⟩
    · rintro τ M' ⟨⟨v, rfl⟩, hr1, hs, ss, hss, z0, z1⟩
      have hpm : ss.Perm (es.map (·.1)) := by
        rcases hrow with ⟨rfl, rfl⟩ | ⟨d0, rfl, hd⟩
        · rw [z0 rfl]; exact List.Perm.refl _
        · exact z1 rfl
      have hle : ss.length < 64 := by rw [hpm.length_eq, List.length_map]; exact hlen
      refine ⟨ss, .inl hss, hle, fun b ss' hb hp' hs' => ?_⟩
      exact ⟨_, Sub.refl _, q b ss' _ (hs.trans (Sub.new hb)) updM_same (hp'.trans hpm) hs'⟩
noncomputable def spAnsQ (Q : KD) (es : List Ent) (M : DH) : Prop := ∀ (p r : Addr) (ss : List Str) M', Sub M M' → M' p = some (.lst (ss.map .str)) → ss.Perm (es.map (·.1)) → sortedS ss = true → Q (.tup [.ref p, .ref r]) M'
noncomputable def spAns (mg : Str → Option Value) : SpD := fun ds M Q => ∃ (a dx lk : Addr) (es : List Ent) (k : Int), ds = [.ref a, (Tree.blank k).d, .ref (cl mg "row_below")] ∧ Cab mg M a dx lk es ∧ es.length < 64 ∧ spAnsQ Q es M
theorem ok_ans (T : Txt K mg) : FnM P w K mg base (cl mg "Cabinet") 7 "answered" ["self", "form", "row_of"] (spAns mg) := by
  have F_gather_rows := ok_gr (P := P) (w := w) (base := base) T
  have F_answers_in := (ok_ai (P := P) (w := w) (base := base) T).mono (show 1 ≤ 6 by (first | lia | omega))
  refine def_okM T.f_Cabinet_answered sc_Cabinet_answered (fun ds M Q h => ?_) fun f cdv A outer s H E hr => ⟨_, (ss_cons (s_set (i := 3) sc_Cabinet_answered.nd (d_lst a_nil))
 (ss_cons (s_if (dt_cmp od_isnot (d_fld T.c_Cabinet T.a_Cabinet_top (d_var 0)) d_non (nomark _)) (ss_one (s_expr (d_call F_gather_rows (hr.mono (by (first | lia | omega))) (a_cons (d_fld T.c_Cabinet T.a_Cabinet_top (d_var 0)) (a_cons (d_var 1) (a_cons (d_var 2) (a_cons (d_var 3) a_nil))))))) ss_nil)
 (ss_one (s_ret (d_tup (a_cons (d_call F_answers_in (hr.mono (by (first | lia | omega))) (a_cons (d_var 3) a_nil)) (a_cons (d_var 3) a_nil))))))), fun ds M Q h => ?_⟩
  · obtain ⟨a, dx, lk, es, k, rfl, _⟩ := h; rfl
  · obtain ⟨a, dx, lk, es, k, rfl, hc, hlen, q⟩ := h
    show ∀ p, _ → _
    intro r hr0
    have har : a ≠ r := fun z => by subst z; rw [hc.1] at hr0; cases hr0
    have fin : ∀ M2 rows, Sub M M2 → M2 r = some (.lst rows) → ((es = [] ∧ rows = []) ∨ ∃ d, rows = [d] ∧ RowOf es d M2) → sRet (eTup (eCons (eCall spAI (eCons (eVar 3) eNil)) (eCons (eVar 3) eNil))) (endsOf Q) [some (.ref a), some (Tree.blank k).d, some (.ref (cl mg "row_below")), some (.ref r)] M2 := by
      intro M2 rows s2 h2 hrow
      refine ⟨es, r, rows, rfl, hlen, h2, hrow, fun p ss M3 s3 h3 hp hs => ?_⟩
      exact ⟨_, Sub.refl _, q p r ss M3 (s2.trans s3) h3 hp hs⟩
    have hc1 : Cab mg (updM M r (.lst [])) a dx lk es := hc.sub (Sub.new hr0)
    refine ⟨a, dx, _, _, rfl, hc1.1, cf_top lk _, ?_⟩
    have go : es ≠ [] → sDrop (eCall (spGR mg) (eCons (eFld (cl mg (Str.ofString "Cabinet")) (Str.ofString "top") (eVar 0)) (eCons (eVar 1) (eCons (eVar 2) (eCons (eVar 3) eNil))))) { (endsOf Q) with nx := sRet (eTup (eCons (eCall spAI (eCons (eVar 3) eNil)) (eCons (eVar 3) eNil))) (endsOf Q) } [some (.ref a), some (Tree.blank k).d, some (.ref (cl mg "row_below")), some (.ref r)] (updM M r (.lst [])) := by
      intro hne
      refine ⟨a, dx, _, _, rfl, hc1.1, cf_top lk _, ?_⟩
      refine ⟨es, topD es, k, r, rfl, bough_top hne, hne, hlen, updM_same, fun d M2 h1 h2 h3 => ?_⟩
      refine fin M2 [d] (fun c o e => ?_) h1 (.inr ⟨d, rfl, h3⟩)
      have hcr : c ≠ r := fun z => by subst z; rw [hr0] at e; cases e
      exact h2 c o hcr (by rw [updM_ne hcr]; exact e)
    match es, go, fin with
    | [], _, fin => exact fin _ [] (Sub.new hr0) updM_same (.inl ⟨rfl, rfl⟩)
    | [e], go, _ => exact go (by simp)
    | e :: e' :: t, go, _ => exact go (by simp)
noncomputable def spBelow (mg : Str → Option Value) : SpD := fun ds M Q => ∃ (a dx lk : Addr) (es : List Ent) (k : Int), ds = [.ref a, (Tree.blank k).d] ∧ Cab mg M a dx lk es ∧ es.length < 64 ∧ spAnsQ Q es M
theorem ok_below (T : Txt K mg) : FnM P w K mg base (cl mg "Cabinet") 8 "below" ["self", "form"] (spBelow mg) := by
  have F_Cabinet_answered := ok_ans (P := P) (w := w) (base := base) T
  refine def_okM T.f_Cabinet_below sc_Cabinet_below (fun ds M Q h => ?_) fun f cdv A outer s H E hr => ⟨_, (ss_one (s_ret (d_meth T.c_Cabinet F_Cabinet_answered (hr.mono (by (first | lia | omega))) (d_var 0) (a_cons (d_var 1) (a_cons (d_cls rfl (Stands.nm T.f_row_below)) a_nil))))), fun ds M Q h => ?_⟩
  · obtain ⟨a, dx, lk, es, k, rfl, _⟩ := h; rfl
  · obtain ⟨a, dx, lk, es, k, rfl, hc, hlen, q⟩ := h
    refine ⟨a, dx, _, rfl, hc.1, cf_no lk _ (by decide +kernel) (by decide +kernel), ?_⟩
    refine ⟨a, dx, lk, es, k, rfl, hc, hlen, fun p r ss M' s' h1 h2 h3 => ?_⟩
    exact ⟨_, Sub.refl _, q p r ss M' s' h1 h2 h3⟩
noncomputable def spMix : SpD := fun ds M Q => ∃ c : Int, ds = [.int c] ∧ ∀ n : Int, 0 ≤ n → n < 2305843009213693951 → Q (.int n) M
theorem ok_mix (T : Txt K mg) : FnD P w K mg base 1 "_law_mixed" ["cell"] spMix := by
  refine def_ok T.f__law_mixed sc__law_mixed (fun ds M Q h => ?_) fun f cdv A outer s H E hr => ⟨_, (ss_one (s_ret (d_op od_mod (d_op od_mulS (d_op od_add (d_var 0) d_int) d_int) d_int))), fun ds M Q h => ?_⟩
  · obtain ⟨c, rfl, _⟩ := h; rfl
  · obtain ⟨c, rfl, q⟩ := h
    refine ⟨.inr ⟨by decide, by decide⟩, (by decide : (0 : Int) < 2305843009213693951), ?_⟩
    exact ⟨M, Sub.refl M, q _ (Int.emod_nonneg _ (by decide)) (Int.emod_lt_of_pos _ (by decide))⟩
noncomputable def chainT : Nat → Tree
  | 0 => .block (Str.ofString "c") []
  | n + 1 => .block (Str.ofString "c") [chainT n]
noncomputable def spChain : SpD := fun ds M Q => ∃ n : Nat, ds = [.int ((n + 1 : Nat) : Int)] ∧ n < 100 ∧ Q (chainT n).d M
theorem ok_chain (T : Txt K mg) : FnD P w K mg base 1 "_law_chain" ["deep"] spChain := by
  have m_range := T.m_range
  refine def_ok T.f__law_chain sc__law_chain (fun ds M Q h => ?_) fun f cdv A outer s H E hr => ⟨_, (ss_cons (s_set (i := 1) sc__law_chain.nd (d_tup (a_cons d_str (a_cons d_str (a_cons (d_tup a_nil) a_nil)))))
 (ss_cons (s_for1 PassesOwn.never rfl m_range (a_cons (d_op od_sub (d_var 0) d_int) a_nil) (g_name (i := 2) sc__law_chain.nd) (ss_one (s_set (i := 1) sc__law_chain.nd (d_tup (a_cons d_str (a_cons d_str (a_cons (d_tup (a_cons (d_var 1) a_nil)) a_nil)))))))
 (ss_one (s_ret (d_var 1))))), fun ds M Q h => ?_⟩
  · obtain ⟨c, rfl, _⟩ := h; rfl
  · obtain ⟨n, rfl, hn, q⟩ := h
    have e1 : (((n + 1 : Nat) : Int) - 1) = (n : Int) := by (first | lia | omega)
    show for1D _ _ _ _ [.int (((n + 1 : Nat) : Int) - 1)] M
    rw [e1]
    refine ⟨⟨by (first | lia | omega), by (first | lia | omega)⟩, fun i τ M' => (∃ v, τ = [some (.int ((n + 1 : Nat) : Int)), some (chainT i).d, v]) ∧ M' = M, ⟨⟨none, rfl⟩, rfl⟩, ?_, ?_⟩
    · rintro i τ M' hi ⟨⟨v, rfl⟩, rfl⟩
      exact ⟨⟨_, rfl⟩, rfl⟩
    · rintro τ M' ⟨⟨v, rfl⟩, rfl⟩
      exact ⟨_, Sub.refl _, q⟩
noncomputable def Uf : Tree := .block (Str.ofString "u") []
noncomputable def spine : Nat → Tree
  | 0 => Uf
  | n + 1 => .block (Str.ofString "u") (spine n :: List.replicate 8 Uf)
noncomputable def ofKT (j r : Nat) : Tree := if r = 0 then spine j else .block (Str.ofString "u") (spine j :: List.replicate (r - 1) Uf)
theorem ds_rep (t : Tree) : ∀ n, Tree.ds (List.replicate n t) = (List.replicate n [t.d]).flatten
  | 0 => rfl
  | n + 1 => by
    rw [List.replicate_succ, List.replicate_succ, Tree.ds, ds_rep t n]
    rfl
noncomputable def spOfK : SpD := fun ds M Q => ∃ j r : Nat, ds = [.int ((1 + 9 * j + r : Nat) : Int)] ∧ j < 30 ∧ r < 9 ∧ Q (ofKT j r).d M
theorem ok_ofk (T : Txt K mg) : FnD P w K mg base 1 "_law_of_knots" ["many"] spOfK := by
  refine def_ok T.f__law_of_knots sc__law_of_knots (fun ds M Q h => ?_) fun f cdv A outer s H E hr => ⟨_, (ss_cons (s_set (i := 1) sc__law_of_knots.nd (d_tup (a_cons d_str (a_cons d_str (a_cons (d_tup a_nil) a_nil)))))
 (ss_cons (s_set (i := 2) sc__law_of_knots.nd (d_var 1))
 (ss_cons (s_set (i := 3) sc__law_of_knots.nd d_int)
 (ss_cons (s_while PassesOwn.never (dt_cmp od_le (d_op od_add (d_var 3) d_int) (d_var 0) (nomark _)) (ss_cons (s_set (i := 2) sc__law_of_knots.nd (d_tup (a_cons d_str (a_cons d_str (a_cons (d_op od_add (d_tup (a_cons (d_var 2) a_nil)) (d_op od_mulT (d_tup (a_cons (d_var 1) a_nil)) d_int)) a_nil)))))
 (ss_one (s_set (i := 3) sc__law_of_knots.nd (d_op od_add (d_var 3) d_int)))))
 (ss_cons (s_if (dt_cmp od_lt (d_var 3) (d_var 0) (nomark _)) (ss_one (s_set (i := 2) sc__law_of_knots.nd (d_tup (a_cons d_str (a_cons d_str (a_cons (d_op od_add (d_tup (a_cons (d_var 2) a_nil)) (d_op od_mulT (d_tup (a_cons (d_var 1) a_nil)) (d_op od_sub (d_op od_sub (d_var 0) (d_var 3)) d_int))) a_nil)))))) ss_nil)
 (ss_one (s_ret (d_var 2)))))))), fun ds M Q h => ?_⟩
  · obtain ⟨j, r, rfl, _⟩ := h; rfl
  · obtain ⟨j, r, rfl, hj, hr9, q⟩ := h
    refine ⟨fun m τ M' => ∃ i, m = j - i ∧ i ≤ j ∧ τ = [some (.int ((1 + 9 * j + r : Nat) : Int)), some Uf.d, some (spine i).d, some (.int ((1 + 9 * i : Nat) : Int))] ∧ M' = M, ⟨_, 0, rfl, by (first | lia | omega), rfl, rfl⟩, ?_⟩
    rintro m τ M' ⟨i, rfl, hi, rfl, rfl⟩
    show if decide (((1 + 9 * i : Nat) : Int) + 9 ≤ ((1 + 9 * j + r : Nat) : Int)) = true then _ else _
    by_cases hij : i < j
    · refine ifT (by (first | lia | omega)) ?_
      refine ⟨⟨by simp, by decide, by decide⟩, ?_⟩
      have e1 : D.int (((1 + 9 * i : Nat) : Int) + 9) = .int ((1 + 9 * (i + 1) : Nat) : Int) := congrArg D.int (by (first | lia | omega))
      refine ⟨line1000 (show 1 + 8 ≤ 1000 by decide), ?_⟩
      refine ⟨j - (i + 1), by (first | lia | omega), i + 1, rfl, by (first | lia | omega), ?_, rfl⟩
      rw [← e1]
      rfl
    · have ei : i = j := by (first | lia | omega)
      subst ei
      refine ifF (by (first | lia | omega)) ?_
      show if decide (((1 + 9 * i : Nat) : Int) < ((1 + 9 * i + r : Nat) : Int)) = true then _ else _
      unfold ofKT at q
      by_cases hr0 : r = 0
      · rw [if_pos hr0] at q
        refine ifF (by (first | lia | omega)) ?_
        exact ⟨_, Sub.refl _, q⟩
      · rw [if_neg hr0] at q
        refine ifT (by (first | lia | omega)) ?_
        have e3 : (((1 + 9 * i + r : Nat) : Int) - ((1 + 9 * i : Nat) : Int) - 1).toNat = r - 1 := by (first | lia | omega)
        refine ⟨⟨by simp, by (first | lia | omega), by (first | lia | omega)⟩, ?_⟩
        rw [Tree.d, Tree.ds, ds_rep] at q
        have hlen : ([(spine i).d].length + (List.replicate (r - 1) [Uf.d]).flatten.length) ≤ 1000 := by
          rw [← ds_rep]
          have : (Tree.ds (List.replicate (r - 1) Uf)).length = r - 1 := by rw [ds_rep]; simp
          rw [this]; simp; (first | lia | omega)
        refine ⟨by rw [e3]; exact line1000 hlen, ?_⟩
        refine ⟨_, Sub.refl _, ?_⟩
        show Q (.tup [.str _, .str _, .tup ([(spine i).d] ++ (List.replicate (((1 + 9 * i + r : Nat) : Int) - ((1 + 9 * i : Nat) : Int) - 1).toNat [Uf.d]).flatten)]) M'
        rw [e3]
        exact q
theorem put_mono {mg : Str → Option Value} {ds : List D} {M : DH} {Q Q' : KD} {E E' : Value → DH → Prop} (h : spPut mg ds M Q E) (hq : ∀ d M, Q d M → Q' d M) (he : ∀ c M, E c M → E' c M) : spPut mg ds M Q' E' := by
  obtain ⟨a, dx, lk, es, x, t, h1, h2, h3, h4, h5, h6, h7, h8, h9⟩ := h
  exact ⟨a, dx, lk, es, x, t, h1, h2, h3, h4, h5, fun z => he _ _ (h6 z), fun z y => he _ _ (h7 z y), fun z y u => he _ _ (h8 z y u), fun z y u => hq _ _ (h9 z y u)⟩
theorem take_mono {mg : Str → Option Value} {ds : List D} {M : DH} {Q Q' : KD} {E E' : Value → DH → Prop} (h : spTake mg ds M Q E) (hq : ∀ d M, Q d M → Q' d M) (he : ∀ c M, E c M → E' c M) : spTake mg ds M Q' E' := by
  obtain ⟨a, dx, lk, es, x, h1, h2, h3, h4, h5, h6, h7⟩ := h
  exact ⟨a, dx, lk, es, x, h1, h2, h3, h4, h5, fun z => he _ _ (h6 z), fun z => hq _ _ (h7 z)⟩
theorem form_mono {mg : Str → Option Value} {ds : List D} {M : DH} {Q Q' : KD} {E E' : Value → DH → Prop} (h : spForm mg ds M Q E) (hq : ∀ d M, Q d M → Q' d M) (he : ∀ c M, E c M → E' c M) : spForm mg ds M Q' E' := by
  obtain ⟨a, dx, lk, es, x, h1, h2, h6, h7⟩ := h
  exact ⟨a, dx, lk, es, x, h1, h2, fun z => he _ _ (h6 z), fun t z => hq _ _ (h7 t z)⟩
theorem change_mono {mg : Str → Option Value} {ds : List D} {M : DH} {Q Q' : KD} {E E' : Value → DH → Prop} (h : spChange mg ds M Q E) (hq : ∀ d M, Q d M → Q' d M) (he : ∀ c M, E c M → E' c M) : spChange mg ds M Q' E' := by
  obtain ⟨a, dx, lk, es, x, p, v, h1, h2, h3, h4, h5, h6, h7, h8⟩ := h
  refine ⟨a, dx, lk, es, x, p, v, h1, h2, h3, h4, h5, h6, fun z => he _ _ (h7 z), fun t z => ?_⟩
  obtain ⟨k1, k2, k3⟩ := h8 t z
  refine ⟨k1, fun z => he _ _ (k2 z), fun u z => ?_⟩
  obtain ⟨l1, l2, l3⟩ := k3 u z
  exact ⟨l1, fun z => he _ _ (l2 z), fun z => hq _ _ (l3 z)⟩
noncomputable def deedD (k x : Str) (p : List Int) (v : Tree) : D := .tup [.str k, .str x, tupI p, v.d]
noncomputable def spDo (mg : Str → Option Value) : SpE := fun ds M Q EX => ∃ (a : Addr) (k x : Str) (p : List Int) (v : Tree), ds = [.ref a, deedD k x p v] ∧
  ((k = Str.ofString "put" ∧ spPut mg [.ref a, .str x, v.d] M Q EX) ∨ (k = Str.ofString "take" ∧ spTake mg [.ref a, .str x] M Q EX) ∨ (k = Str.ofString "form" ∧ spForm mg [.ref a, .str x] M Q EX) ∨ (k = Str.ofString "change" ∧ spChange mg [.ref a, .str x, tupI p, v.d] M Q EX))
theorem ok_do (T : Txt K mg) : FnE P w K mg base 43 "_law_do" ["cabinet", "deed"] (spDo mg) := by
  have E_Cabinet_form_of := (ok_form (P := P) (w := w) (base := base) T).mono (show 1 ≤ 42 by (first | lia | omega))
  have E_Cabinet_take := (ok_take (P := P) (w := w) (base := base) T).mono (show 8 ≤ 42 by (first | lia | omega))
  have E_Cabinet_put := (ok_put (P := P) (w := w) (base := base) T).mono (show 7 ≤ 42 by (first | lia | omega))
  have E_Cabinet_change := ok_change (P := P) (w := w) (base := base) T
  refine def_okE T.f__law_do sc__law_do (fun ds M Q E h => ?_) fun f cdv A outer s H E EX hr hx hp => ⟨_, (ss_cons (s_asg (d_var 1) (g_tup rfl (gs_cons (g_name (i := 2) sc__law_do.nd) (gs_cons (g_name (i := 3) sc__law_do.nd) (gs_cons (g_name (i := 4) sc__law_do.nd) (gs_cons (g_name (i := 5) sc__law_do.nd) gs_nil)))) len_4))
 (ss_cons (s_if (dt_cmp (od_eq hr) (d_var 2) d_str (nomark _)) (ss_one (s_ret (d_methE T.c_Cabinet E_Cabinet_put hx.toXCame (hr.mono (by (first | lia | omega))) (d_var 0) (a_cons (d_var 3) (a_cons (d_var 5) a_nil))))) ss_nil)
 (ss_cons (s_if (dt_cmp (od_eq hr) (d_var 2) d_str (nomark _)) (ss_one (s_ret (d_methE T.c_Cabinet E_Cabinet_take hx.toXCame (hr.mono (by (first | lia | omega))) (d_var 0) (a_cons (d_var 3) a_nil)))) ss_nil)
 (ss_cons (s_if (dt_cmp (od_eq hr) (d_var 2) d_str (nomark _)) (ss_one (s_ret (d_methE T.c_Cabinet E_Cabinet_form_of hx.toXCame (hr.mono (by (first | lia | omega))) (d_var 0) (a_cons (d_var 3) a_nil)))) ss_nil)
 (ss_one (s_ret (d_methE T.c_Cabinet E_Cabinet_change hx.toXCame (hr.mono (by (first | lia | omega))) (d_var 0) (a_cons (d_var 3) (a_cons (d_var 4) (a_cons (d_var 5) a_nil)))))))))), fun ds M Q h => ?_⟩
  · obtain ⟨a, k, x, p, v, rfl, _⟩ := h; rfl
  · obtain ⟨a, k, x, p, v, rfl, h⟩ := h
    rcases h with ⟨rfl, h⟩ | ⟨rfl, h⟩ | ⟨rfl, h⟩ | ⟨rfl, h⟩
    · have h1 := h
      obtain ⟨a1, dx, lk, es, x1, t1, e1, hc, _⟩ := h1
      have ea : a = a1 := by injection e1 with e1 _; injection e1
      subst ea
      refine ⟨a, dx, _, rfl, hc.1, cf_no lk _ (by decide +kernel) (by decide +kernel), ?_⟩
      have h2 : spPut mg [.ref a, .str x, v.d] M (endsOf Q).rt (fun cls M3 => ∃ M0, Sub M0 M3 ∧ EX cls M0) := put_mono h (fun d M q => ⟨M, Sub.refl M, q⟩) fun c M q => ⟨M, Sub.refl M, q⟩
      exact h2
    · have h1 := h
      obtain ⟨a1, dx, lk, es, x1, e1, hc, _⟩ := h1
      cases e1
      refine ⟨a, dx, _, rfl, hc.1, cf_no lk _ (by decide +kernel) (by decide +kernel), ?_⟩
      have h2 : spTake mg [.ref a, .str x] M (endsOf Q).rt (fun cls M3 => ∃ M0, Sub M0 M3 ∧ EX cls M0) := take_mono h (fun d M q => ⟨M, Sub.refl M, q⟩) fun c M q => ⟨M, Sub.refl M, q⟩
      exact h2
    · have h1 := h
      obtain ⟨a1, dx, lk, es, x1, e1, hc, _⟩ := h1
      cases e1
      refine ⟨a, dx, _, rfl, hc.1, cf_no lk _ (by decide +kernel) (by decide +kernel), ?_⟩
      have h2 : spForm mg [.ref a, .str x] M (endsOf Q).rt (fun cls M3 => ∃ M0, Sub M0 M3 ∧ EX cls M0) := form_mono h (fun d M q => ⟨M, Sub.refl M, q⟩) fun c M q => ⟨M, Sub.refl M, q⟩
      exact h2
    · have h1 := h
      obtain ⟨a1, dx, lk, es, x1, p1, v1, e1, hc, _⟩ := h1
      have ea : a = a1 := by injection e1 with e1 _; injection e1
      subst ea
      refine ⟨a, dx, _, rfl, hc.1, cf_no lk _ (by decide +kernel) (by decide +kernel), ?_⟩
      have h2 : spChange mg [.ref a, .str x, tupI p, v.d] M (endsOf Q).rt (fun cls M3 => ∃ M0, Sub M0 M3 ∧ EX cls M0) := change_mono h (fun d M q => ⟨M, Sub.refl M, q⟩) fun c M q => ⟨M, Sub.refl M, q⟩
      exact h2
theorem do_mono {mg : Str → Option Value} {ds : List D} {M : DH} {Q Q' : KD} {E E' : Value → DH → Prop} (h : spDo mg ds M Q E) (hq : ∀ d M, Q d M → Q' d M) (he : ∀ c M, E c M → E' c M) : spDo mg ds M Q' E' := by
  obtain ⟨a, k, x, p, v, e, h⟩ := h
  refine ⟨a, k, x, p, v, e, ?_⟩
  rcases h with ⟨z, h⟩ | ⟨z, h⟩ | ⟨z, h⟩ | ⟨z, h⟩
  · exact .inl ⟨z, put_mono h hq he⟩
  · exact .inr (.inl ⟨z, take_mono h hq he⟩)
  · exact .inr (.inr (.inl ⟨z, form_mono h hq he⟩))
  · exact .inr (.inr (.inr ⟨z, change_mono h hq he⟩))
noncomputable def XOf (K : PySem.W.Frag) (mg : Str → Option Value) (c : Str) (bs : List Bool) : Prop := XCl K (cl mg c) ∧ IsA K (cl mg c) (cl mg "FormError") true ∧ ∃ b0 b1 b2 b3 b4 b5 b6, bs = [b0, b1, b2, b3, b4, b5, b6] ∧ PySem.W.kitOne K (.ref (cl mg c)) (.ref (cl mg "BadName")) = some b0 ∧ PySem.W.kitOne K (.ref (cl mg c)) (.ref (cl mg "Twice")) = some b1 ∧ PySem.W.kitOne K (.ref (cl mg c)) (.ref (cl mg "TooLong")) = some b2 ∧ PySem.W.kitOne K (.ref (cl mg c)) (.ref (cl mg "NoForm")) = some b3 ∧ PySem.W.kitOne K (.ref (cl mg c)) (.ref (cl mg "NoPlace")) = some b4 ∧ PySem.W.kitOne K (.ref (cl mg c)) (.ref (cl mg "BadPaper")) = some b5 ∧ PySem.W.kitOne K (.ref (cl mg c)) (.ref (cl mg "BadText")) = some b6 ∧ PySem.W.kitOne K (.ref (cl mg c)) (.type "ValueError") = some true
noncomputable def clsN : Nat → Str
  | 0 => Str.ofString "BadName"
  | 1 => Str.ofString "Twice"
  | 2 => Str.ofString "TooLong"
  | 3 => Str.ofString "NoForm"
  | _ => Str.ofString "NoPlace"
noncomputable def duesL (j : Nat) : List Bool := (List.range 7).map fun k => decide (k = j)
theorem x_of (T : Txt K mg) : ∀ j, j < 5 → XOf K mg (clsN j) (duesL j)
  | 0, _ => ⟨xcl_BadName T, isa_BadName_FormError T, _, _, _, _, _, _, _, rfl, kit_BadName_BadName T, kit_BadName_Twice T, kit_BadName_TooLong T, kit_BadName_NoForm T, kit_BadName_NoPlace T, kit_BadName_BadPaper T, kit_BadName_BadText T, vee_BadName T⟩
  | 1, _ => ⟨xcl_Twice T, isa_Twice_FormError T, _, _, _, _, _, _, _, rfl, kit_Twice_BadName T, kit_Twice_Twice T, kit_Twice_TooLong T, kit_Twice_NoForm T, kit_Twice_NoPlace T, kit_Twice_BadPaper T, kit_Twice_BadText T, vee_Twice T⟩
  | 2, _ => ⟨xcl_TooLong T, isa_TooLong_FormError T, _, _, _, _, _, _, _, rfl, kit_TooLong_BadName T, kit_TooLong_Twice T, kit_TooLong_TooLong T, kit_TooLong_NoForm T, kit_TooLong_NoPlace T, kit_TooLong_BadPaper T, kit_TooLong_BadText T, vee_TooLong T⟩
  | 3, _ => ⟨xcl_NoForm T, isa_NoForm_FormError T, _, _, _, _, _, _, _, rfl, kit_NoForm_BadName T, kit_NoForm_Twice T, kit_NoForm_TooLong T, kit_NoForm_NoForm T, kit_NoForm_NoPlace T, kit_NoForm_BadPaper T, kit_NoForm_BadText T, vee_NoForm T⟩
  | 4, _ => ⟨xcl_NoPlace T, isa_NoPlace_FormError T, _, _, _, _, _, _, _, rfl, kit_NoPlace_BadName T, kit_NoPlace_Twice T, kit_NoPlace_TooLong T, kit_NoPlace_NoForm T, kit_NoPlace_NoPlace T, kit_NoPlace_BadPaper T, kit_NoPlace_BadText T, vee_NoPlace T⟩
  | n + 5, h => absurd h (by (first | lia | omega))
noncomputable def spRef (mg : Str → Option Value) : SpD := fun ds M Q => ∃ (a : Addr) (d : D) (j : Nat), ds = [.ref a, d] ∧ j < 5 ∧ spDo mg [.ref a, d] M (fun _ _ => False) (fun cls M' => cls = .ref (cl mg (clsN j)) ∧ M' = M) ∧ ∀ p M', Sub M M' → M' p = some (.lst ((duesL j ++ [true]).map .bl)) → Q (.ref p) M'
theorem ok_ref (T : Txt K mg) : FnD P w K mg base 44 "_law_refused" ["cabinet", "deed"] (spRef mg) := by
  have m_ValueError := T.m_ValueError
  have m_isinstance := T.m_isinstance
  have E__law_do := ok_do (P := P) (w := w) (base := base) T
  refine def_ok T.f__law_refused sc__law_refused (fun ds M Q h => ?_) fun f cdv A outer s H E hr => ⟨_, (ss_cons (s_set (i := 2) sc__law_refused.nd d_non)
 (ss_cons (s_tryE E__law_do rfl rfl rfl (hr.mono (by (first | lia | omega))) (a_cons (d_var 0) (a_cons (d_var 1) a_nil)) (h_catchAs (i := 3) rfl rfl rfl sc__law_refused.nd (xc_FormError T).nm (fun a => (ss_cons (s_set (i := 2) sc__law_refused.nd (d_lst (a_cons (d_callB (cd_isiE (K := K) rfl) rfl m_isinstance bt_isinstance (a_cons (d_var 3) (a_cons (d_cls rfl (xc_BadName T).nm) a_nil))) (a_cons (d_callB (cd_isiE (K := K) rfl) rfl m_isinstance bt_isinstance (a_cons (d_var 3) (a_cons (d_cls rfl (xc_Twice T).nm) a_nil))) (a_cons (d_callB (cd_isiE (K := K) rfl) rfl m_isinstance bt_isinstance (a_cons (d_var 3) (a_cons (d_cls rfl (xc_TooLong T).nm) a_nil))) (a_cons (d_callB (cd_isiE (K := K) rfl) rfl m_isinstance bt_isinstance (a_cons (d_var 3) (a_cons (d_cls rfl (xc_NoForm T).nm) a_nil))) a_nil))))))
 (ss_cons (s_set (i := 2) sc__law_refused.nd (d_op od_add (d_var 2) (d_lst (a_cons (d_callB (cd_isiE (K := K) rfl) rfl m_isinstance bt_isinstance (a_cons (d_var 3) (a_cons (d_cls rfl (xc_NoPlace T).nm) a_nil))) (a_cons (d_callB (cd_isiE (K := K) rfl) rfl m_isinstance bt_isinstance (a_cons (d_var 3) (a_cons (d_cls rfl (xc_BadPaper T).nm) a_nil))) (a_cons (d_callB (cd_isiE (K := K) rfl) rfl m_isinstance bt_isinstance (a_cons (d_var 3) (a_cons (d_cls rfl (xc_BadText T).nm) a_nil))) a_nil))))))
 (ss_one (s_set (i := 2) sc__law_refused.nd (d_op od_add (d_var 2) (d_lst (a_cons (d_callB (cd_isiE (K := K) rfl) rfl m_isinstance bt_isinstance (a_cons (d_var 3) (a_cons (d_ty rfl m_ValueError bt_ValueError) a_nil))) a_nil)))))))) h_none))
 (ss_one (s_ret (d_var 2))))), fun ds M Q h => ?_⟩
  · obtain ⟨a, d, j, rfl, _⟩ := h; rfl
  · obtain ⟨a, d, j, rfl, hj, hdo, q⟩ := h
    obtain ⟨xn, isa, b0, b1, b2, b3, b4, b5, b6, hb, k0, k1, k2, k3, k4, k5, k6, kv⟩ := x_of T j hj
    rw [hb] at q
    refine do_mono hdo (fun _ _ z => z.elim) ?_
    rintro cls M' ⟨rfl, rfl⟩
    generalize clsN j = c at *
    refine ⟨_, Sub.refl _, _, _, rfl, isa, ?_⟩
    rw [if_pos rfl]
    intro pe hpe
    have hS : Sub M' (updM M' pe (.exc (.ref (cl mg c)))) := Sub.new hpe
    have he : updM M' pe (.exc (.ref (cl mg c))) pe = some (.exc (.ref (cl mg c))) := updM_same
    generalize updM M' pe (.exc (.ref (cl mg c))) = M1 at *
    refine ⟨_, _, he, xn, k0, _, _, he, xn, k1, _, _, he, xn, k2, _, _, he, xn, k3, ?_⟩
    show ∀ l, M1 l = none → _
    intro l1 hl1
    have hS1 := hS.trans (Sub.new (o := .lst [.bl b0, .bl b1, .bl b2, .bl b3]) hl1)
    have he1 := Sub.new (o := .lst [.bl b0, .bl b1, .bl b2, .bl b3]) hl1 _ _ he
    have hw : updM M1 l1 (.lst [.bl b0, .bl b1, .bl b2, .bl b3]) l1 = some (.lst [.bl b0, .bl b1, .bl b2, .bl b3]) := updM_same
    generalize updM M1 l1 (.lst [.bl b0, .bl b1, .bl b2, .bl b3]) = M2 at *
    refine ⟨_, _, he1, xn, k4, _, _, he1, xn, k5, _, _, he1, xn, k6, ?_⟩
    show ∀ l, M2 l = none → _
    intro l2 hl2
    refine ⟨_, _, Sub.new hl2 _ _ hw, updM_same, line1000 (by simp), ?_⟩
    intro l3 hl3
    have hS3 := (hS1.trans (Sub.new (o := .lst [.bl b4, .bl b5, .bl b6]) hl2)).trans (Sub.new (o := .lst [.bl b0, .bl b1, .bl b2, .bl b3, .bl b4, .bl b5, .bl b6]) hl3)
    have he3 := Sub.new (o := .lst [.bl b0, .bl b1, .bl b2, .bl b3, .bl b4, .bl b5, .bl b6]) hl3 _ _ (Sub.new (o := .lst [.bl b4, .bl b5, .bl b6]) hl2 _ _ he1)
    have hw3 : updM (updM M2 l2 (.lst [.bl b4, .bl b5, .bl b6])) l3 (.lst [.bl b0, .bl b1, .bl b2, .bl b3, .bl b4, .bl b5, .bl b6]) l3 = some (.lst [.bl b0, .bl b1, .bl b2, .bl b3, .bl b4, .bl b5, .bl b6]) := updM_same
    show _
    generalize hM3 : updM (updM M2 l2 (.lst [.bl b4, .bl b5, .bl b6])) l3 (.lst [.bl b0, .bl b1, .bl b2, .bl b3, .bl b4, .bl b5, .bl b6]) = M3 at *
    have hM3' : updM (updM M2 l2 (.lst [.bl b4, .bl b5, .bl b6])) l3 (.lst ([D.bl b0, D.bl b1, D.bl b2, D.bl b3] ++ [D.bl b4, D.bl b5, D.bl b6])) = M3 := hM3
    rw [hM3']
    refine ⟨_, _, he3, xn, kv, ?_⟩
    show ∀ l, M3 l = none → _
    intro l4 hl4
    refine ⟨_, _, Sub.new hl4 _ _ hw3, updM_same, line1000 (by simp), ?_⟩
    intro l5 hl5
    exact ⟨_, Sub.refl _, q l5 _ ((hS3.trans (Sub.new hl4)).trans (Sub.new hl5)) updM_same⟩
noncomputable def pn (k : Nat) : Str := Str.ofString "p" ++ DL.numT (k : Int)
theorem pn_ok : ∀ k : Nat, k < 40 → nameL (pn k).cps.toList = true ∧ (pn k).length ≤ 1000 := by decide +kernel
theorem pn_len : ∀ k : Nat, k < 40 → (Str.ofString "p").length + (DL.numT (k : Int)).length ≤ 1000 := by decide +kernel
noncomputable def pnames : List Str := (List.range 40).map pn
theorem pn_nodup : pnames.Nodup := by decide +kernel
theorem pn_new : Str.ofString "new" ∉ pnames := by decide +kernel
noncomputable def esP (n : Nat) : List Ent := (List.range n).map fun k => (pn k, Lf)
theorem esP_len (n : Nat) : (esP n).length = n := by unfold esP; rw [List.length_map, List.length_range]
theorem esP_all (n : Nat) : AllLf (esP n) := fun e he => by
  obtain ⟨k, _, rfl⟩ := List.mem_map.mp he
  rfl
theorem esP_names (n : Nat) : (esP n).map (·.1) = (List.range n).map pn := by unfold esP; rw [List.map_map]; rfl
theorem esP_succ (n : Nat) : esP (n + 1) = esP n ++ [(pn n, Lf)] := by unfold esP; rw [List.range_succ, List.map_append]; rfl
theorem esP_sub {n : Nat} (h : n < 40) : pn n ∉ (esP n).map (·.1) := by
  have h1 : (((List.range 40).take (n + 1)).map pn).Nodup := List.Nodup.sublist ((List.take_sublist _ _).map _) pn_nodup
  have h2 : (List.range 40).take (n + 1) = List.range n ++ [n] := by rw [List.take_range, ← List.range_succ]; congr 1; (first | lia | omega)
  rw [h2, List.map_append] at h1
  rw [esP_names]
  intro z
  exact (List.nodup_append.mp h1).2.2 _ z _ (by simp) rfl
noncomputable def openL (kind : Nat) : List Ent := if kind < 3 then esP 40 else if 5 < kind then [(Str.ofString "m", chainT 2)] else []
noncomputable def lessD (kind : Nat) (deed : D) : D := if kind = 8 then deedD (Str.ofString "change") (Str.ofString "m") [0, 0] (ofKT 21 8) else if kind = 9 then deedD (Str.ofString "change") (Str.ofString "m") [0, 0] (chainT 27) else deed
noncomputable def spLess : SpD := fun ds M Q => ∃ (kind : Nat) (deed : D), ds = [.int kind, deed] ∧ kind < 10 ∧ Q (lessD kind deed) M
theorem ok_less (T : Txt K mg) : FnD P w K mg base 2 "_law_less" ["kind", "deed"] spLess := by
  have F__law_chain := ok_chain (P := P) (w := w) (base := base) T
  have F__law_of_knots := ok_ofk (P := P) (w := w) (base := base) T
  refine def_ok T.f__law_less sc__law_less (fun ds M Q h => ?_) fun f cdv A outer s H E hr => ⟨_, (ss_cons (s_if (dt_cmp (od_eq hr) (d_var 0) d_int (nomark _)) (ss_one (s_ret (d_tup (a_cons d_str (a_cons d_str (a_cons (d_tup (a_cons d_int (a_cons d_int a_nil))) (a_cons (d_call F__law_of_knots (hr.mono (by (first | lia | omega))) (a_cons d_int a_nil)) a_nil))))))) ss_nil)
 (ss_cons (s_if (dt_cmp (od_eq hr) (d_var 0) d_int (nomark _)) (ss_one (s_ret (d_tup (a_cons d_str (a_cons d_str (a_cons (d_tup (a_cons d_int (a_cons d_int a_nil))) (a_cons (d_call F__law_chain (hr.mono (by (first | lia | omega))) (a_cons d_int a_nil)) a_nil))))))) ss_nil)
 (ss_one (s_ret (d_var 1))))), fun ds M Q h => ?_⟩
  · obtain ⟨k, d, rfl, _⟩ := h; rfl
  · obtain ⟨k, d, rfl, hk, q⟩ := h
    unfold lessD at q
    show if decide ((k : Int) = 8) = true then _ else _
    by_cases h8 : k = 8
    · refine ifT (by (first | lia | omega)) ?_
      rw [if_pos h8] at q
      refine ⟨21, 8, rfl, by decide, by decide, ?_⟩
      exact ⟨_, Sub.refl _, q⟩
    · refine ifF (by (first | lia | omega)) ?_
      rw [if_neg h8] at q
      show if decide ((k : Int) = 9) = true then _ else _
      by_cases h9 : k = 9
      · refine ifT (by (first | lia | omega)) ?_
        rw [if_pos h9] at q
        refine ⟨27, rfl, by decide, ?_⟩
        exact ⟨_, Sub.refl _, q⟩
      · refine ifF (by (first | lia | omega)) ?_
        rw [if_neg h9] at q
        exact ⟨_, Sub.refl _, q⟩
noncomputable def spOpen (mg : Str → Option Value) : SpD := fun ds M Q => ∃ kind : Nat, ds = [.int kind] ∧ kind < 10 ∧ ∀ a dx lk M', Sub M M' → M a = none → M lk = none → Cab mg M' a dx lk (openL kind) → Q (.ref a) M'
theorem ok_open (T : Txt K mg) : FnD P w K mg base 8 "_law_opened" ["kind"] (spOpen mg) := by
  have m_range := T.m_range
  have m_str := T.m_str
  have F__law_chain := (ok_chain (P := P) (w := w) (base := base) T).mono (show 1 ≤ 7 by (first | lia | omega))
  have F_Cabinet_put := (ok_put (P := P) (w := w) (base := base) T).nox
  have F_Cabinet___init__ := ok_new (P := P) (w := w) (base := base) T
  refine def_ok T.f__law_opened sc__law_opened (fun ds M Q h => ?_) fun f cdv A outer s H E hr => ⟨_, (ss_cons (s_set (i := 1) sc__law_opened.nd (d_make0 F_Cabinet___init__ (hr.mono (by (first | lia | omega))) T.n_Cabinet))
 (ss_cons (s_if (dt_cmp od_lt (d_var 0) d_int (nomark _)) (ss_one (s_for1 PassesOwn.never rfl m_range (a_cons d_int a_nil) (g_name (i := 2) sc__law_opened.nd) (ss_one (s_expr (d_meth T.c_Cabinet F_Cabinet_put (hr.mono (by (first | lia | omega))) (d_var 1) (a_cons (d_op od_add d_str (d_callTy cd_str rfl m_str bt_str (a_cons (d_var 2) a_nil))) (a_cons (d_tup (a_cons d_str (a_cons d_str (a_cons (d_tup a_nil) a_nil)))) a_nil))))))) ss_nil)
 (ss_cons (s_if (dt_cmp od_gt (d_var 0) d_int (nomark _)) (ss_one (s_expr (d_meth T.c_Cabinet F_Cabinet_put (hr.mono (by (first | lia | omega))) (d_var 1) (a_cons d_str (a_cons (d_call F__law_chain (hr.mono (by (first | lia | omega))) (a_cons d_int a_nil)) a_nil))))) ss_nil)
 (ss_one (s_ret (d_var 1)))))), fun ds M Q h => ?_⟩
  · obtain ⟨k, rfl, _⟩ := h; rfl
  · obtain ⟨k, rfl, hk, q⟩ := h
    show ∀ a dx, M a = none → _
    intro a dx ha
    refine ⟨a, dx, rfl, updM_same, fun lk hlk => ?_⟩
    refine ⟨rfl, ?_⟩
    obtain ⟨hla, hl⟩ := upd_none hlk
    have hal : a ≠ lk := Ne.symm hla
    have hC : Cab mg (cabM mg (updM M a (.ins (cl mg "Cabinet") dx [])) a dx lk []) a dx lk [] := cab_cab hal
    have hS : Sub M (cabM mg (updM M a (.ins (cl mg "Cabinet") dx [])) a dx lk []) := by
      unfold cabM
      exact sub_upd (sub_upd (Sub.new ha) ha) hl
    generalize cabM mg (updM M a (.ins (cl mg "Cabinet") dx [])) a dx lk [] = M1 at *
    have hcM : ∀ M2 es, Sub M M2 → Sub M (cabM mg M2 a dx lk es) := fun M2 es h => by
      unfold cabM
      exact sub_upd (sub_upd h ha) hl
    have hput : ∀ tp, (cf lk tp).lookup ("put" : Str) = none := fun tp => cf_no lk tp (by decide +kernel) (by decide +kernel)
    show if decide ((k : Int) < 3) = true then _ else _
    by_cases h3 : k < 3
    · refine ifT (by (first | lia | omega)) ?_
      have eo : openL k = esP 40 := by unfold openL; rw [if_pos h3]
      rw [eo] at q
      refine ⟨⟨by decide, by decide⟩, fun i τ M' => (∃ v, τ = [some (.int k), some (.ref a), v]) ∧ i ≤ 40 ∧ Sub M M' ∧ Cab mg M' a dx lk (esP i), ⟨⟨none, rfl⟩, by decide, hS, hC⟩, ?_, ?_⟩
      · rintro i τ M' hi ⟨⟨v, rfl⟩, _, hs, hc⟩
        have hi' : i < 40 := hi
        refine ⟨a, dx, _, rfl, hc.1, hput _, ?_⟩
        refine ⟨⟨by show (0 : Int) ≤ (i : Int); (first | lia | omega), by show (i : Int) < 10 ^ 10; (first | lia | omega)⟩, ?_⟩
        obtain ⟨p1, p2⟩ := pn_ok i hi'
        refine ⟨line1000 (pn_len i hi'), ?_⟩
        refine ⟨a, dx, lk, esP i, pn i, Lf, rfl, hc, by rw [esP_len]; (first | lia | omega), p2, fun _ _ => ?_, fun z => absurd (z.symm.trans p1) (by decide), fun _ z => absurd z (esP_sub hi'), fun _ _ z => absurd z (by rw [esP_len]; (first | lia | omega)), fun _ _ _ => ?_⟩
        · rw [← esP_succ]; exact esP_all _
        · rw [← esP_succ]
          exact ⟨⟨_, rfl⟩, by (first | lia | omega), hcM _ _ hs, cab_cab hal⟩
      · rintro τ M' ⟨⟨v, rfl⟩, _, hs, hc⟩
        have hc' : Cab mg M' a dx lk (esP 40) := hc
        show if decide ((5 : Int) < (k : Int)) = true then _ else _
        refine ifF (by (first | lia | omega)) ?_
        exact ⟨_, Sub.refl _, q a dx lk M' hs ha hl hc'⟩
    · refine ifF (by (first | lia | omega)) ?_
      show if decide ((5 : Int) < (k : Int)) = true then _ else _
      by_cases h5 : 5 < k
      · refine ifT (by (first | lia | omega)) ?_
        have eo : openL k = [(Str.ofString "m", chainT 2)] := by unfold openL; rw [if_neg h3, if_pos h5]
        rw [eo] at q
        refine ⟨a, dx, _, rfl, hC.1, hput _, ?_⟩
        refine ⟨2, rfl, by decide, ?_⟩
        refine ⟨a, dx, lk, [], Str.ofString "m", chainT 2, rfl, hC, by simp, by decide, fun z => absurd rfl z, fun z => absurd z (by decide), fun _ z => absurd z (by simp), fun _ _ z => absurd z (by simp), fun _ _ _ => ?_⟩
        exact ⟨_, Sub.refl _, q a dx lk _ (hcM M1 _ hS) ha hl (cab_cab hal)⟩
      · refine ifF (by (first | lia | omega)) ?_
        have eo : openL k = [] := by unfold openL; rw [if_neg h3, if_neg h5]
        rw [eo] at q
        exact ⟨_, Sub.refl _, q a dx lk M1 hS ha hl hC⟩
noncomputable def planOk (mg : Str → Option Value) (kind due : Nat) (good : List D) (deed : D) : Prop := due < 5 ∧
  (∀ M a dx lk, Cab mg M a dx lk (openL kind) → spDo mg [.ref a, deed] M (fun _ _ => False) (fun cls M' => cls = .ref (cl mg (clsN due)) ∧ M' = M)) ∧
  (good = [] ∨ ∃ g es1, good = [g] ∧ D.deps [g] ≤ 150 ∧ (∀ M a dx lk, Cab mg M a dx lk (openL kind) → spDo mg [.ref a, g] M (fun _ M' => M' = cabM mg M a dx lk es1) (fun _ _ => False)) ∧
    ∀ M a dx lk, Cab mg M a dx lk es1 → spDo mg [.ref a, lessD kind deed] M (fun d M' => (M' = M ∨ ∃ es2, M' = cabM mg M a dx lk es2) ∧ (kind ≠ 4 → d = .non) ∧ (kind = 4 → d = Lf.d)) (fun _ _ => False))
theorem open0 {k : Nat} (h : k < 3) : openL k = esP 40 := by unfold openL; rw [if_pos h]
theorem open3 {k : Nat} (h : ¬ k < 3) (h' : ¬ 5 < k) : openL k = [] := by unfold openL; rw [if_neg h, if_neg h']
theorem open6 {k : Nat} (h' : 5 < k) : openL k = [(Str.ofString "m", chainT 2)] := by unfold openL; rw [if_neg (by (first | lia | omega)), if_pos h']
theorem pn_mem {k : Nat} (h : k < 40) : pn k ∈ (esP 40).map (·.1) := by rw [esP_names]; exact List.mem_map.mpr ⟨k, List.mem_range.mpr h, rfl⟩
theorem esP_nodup : ((esP 40).map (·.1)).Nodup := by rw [esP_names]; exact pn_nodup
theorem esP_new : Str.ofString "new" ∉ (esP 40).map (·.1) := by rw [esP_names]; exact pn_new
theorem plan0 {mg : Str → Option Value} {x : Str} (hx : nameL x.cps.toList = false) (hl : x.length ≤ 1000) : planOk mg 0 0 [] (deedD (Str.ofString "put") x [] Lf) := by
  refine ⟨by decide, fun M a dx lk hc => ?_, .inl rfl⟩
  rw [open0 (by decide)] at hc
  refine ⟨a, _, x, [], Lf, rfl, .inl ⟨rfl, a, dx, lk, esP 40, x, Lf, rfl, hc, by rw [esP_len]; (first | lia | omega), hl, fun _ z => absurd z (by rw [esP_len]; (first | lia | omega)), fun _ => ⟨rfl, rfl⟩, fun z => absurd (hx.symm.trans z) (by decide), fun z => absurd (hx.symm.trans z) (by decide), fun z => absurd (hx.symm.trans z) (by decide)⟩⟩
theorem plan1 {mg : Str → Option Value} {k : Nat} (hk : k < 40) : planOk mg 1 1 [] (deedD (Str.ofString "put") (pn k) [] Lf) := by
  obtain ⟨h1, h2⟩ := pn_ok k hk
  refine ⟨by decide, fun M a dx lk hc => ?_, .inl rfl⟩
  rw [open0 (by decide)] at hc
  refine ⟨a, _, pn k, [], Lf, rfl, .inl ⟨rfl, a, dx, lk, esP 40, pn k, Lf, rfl, hc, by rw [esP_len]; (first | lia | omega), h2, fun _ z => absurd z (by rw [esP_len]; (first | lia | omega)), fun z => absurd (h1.symm.trans z) (by decide), fun _ _ => ⟨rfl, rfl⟩, fun _ z => absurd (pn_mem hk) z, fun _ z => absurd (pn_mem hk) z⟩⟩
theorem less_len {x : Str} {es : List Ent} (h : x ∈ es.map (·.1)) : (less x es).length < es.length := by
  obtain ⟨e, he, rfl⟩ := List.mem_map.mp h
  unfold less
  refine List.length_filter_lt_length_iff_exists.mpr ⟨e, he, ?_⟩
  simp
theorem less_in {x : Str} {es : List Ent} {e : Ent} (h : e ∈ less x es) : e ∈ es := (List.mem_filter.mp h).1
theorem new_ok : nameL (Str.ofString "new").cps.toList = true ∧ (Str.ofString "new").length ≤ 1000 := by decide +kernel
theorem x_ok : nameL (Str.ofString "x").cps.toList = true ∧ (Str.ofString "x").length ≤ 1000 := by decide +kernel
theorem m_ok : nameL (Str.ofString "m").cps.toList = true ∧ (Str.ofString "m").length ≤ 1000 := by decide +kernel
theorem plan2 {mg : Str → Option Value} {k : Nat} (hk : k < 40) : planOk mg 2 2 [deedD (Str.ofString "take") (pn k) [] Lf] (deedD (Str.ofString "put") (Str.ofString "new") [] Lf) := by
  obtain ⟨h1, h2⟩ := new_ok
  have el : (less (pn k) (esP 40)).length < 40 := by have := less_len (pn_mem hk); rw [esP_len] at this; exact this
  have hni : Str.ofString "new" ∉ (less (pn k) (esP 40)).map (·.1) := fun z => by
    obtain ⟨e, he, e1⟩ := List.mem_map.mp z
    exact esP_new (e1 ▸ List.mem_map.mpr ⟨e, less_in he, rfl⟩)
  refine ⟨by decide, fun M a dx lk hc => ?_, .inr ⟨_, less (pn k) (esP 40), rfl, Nat.le_of_ble_eq_true rfl, fun M a dx lk hc => ?_, fun M a dx lk hc => ?_⟩⟩
  · rw [open0 (by decide)] at hc
    exact ⟨a, _, _, [], Lf, rfl, .inl ⟨rfl, a, dx, lk, esP 40, _, Lf, rfl, hc, by rw [esP_len]; (first | lia | omega), h2, fun _ z => absurd z (by rw [esP_len]; (first | lia | omega)), fun z => absurd (h1.symm.trans z) (by decide), fun _ z => absurd z esP_new, fun _ _ _ => ⟨rfl, rfl⟩, fun _ _ z => absurd z (by rw [esP_len]; (first | lia | omega))⟩⟩
  · rw [open0 (by decide)] at hc
    exact ⟨a, _, _, [], Lf, rfl, .inr (.inl ⟨rfl, a, dx, lk, esP 40, _, rfl, hc, by rw [esP_len]; (first | lia | omega), esP_nodup, fun _ => esP_all 40, fun z => absurd (pn_mem hk) z, fun _ => rfl⟩)⟩
  · refine ⟨a, _, _, [], Lf, rfl, .inl ⟨rfl, a, dx, lk, _, _, Lf, rfl, hc, by (first | lia | omega), h2, fun _ _ => ?_, fun z => absurd (h1.symm.trans z) (by decide), fun _ z => absurd z hni, fun _ _ z => absurd z (by (first | lia | omega)), fun _ _ _ => ⟨.inr ⟨_, rfl⟩, fun _ => rfl, fun z => absurd z (by decide)⟩⟩⟩
    intro e he
    rcases List.mem_append.mp he with h | h
    · exact esP_all 40 e (less_in h)
    · rw [List.mem_singleton.mp h]
theorem do_put1 {mg : Str → Option Value} {M : DH} {a dx lk : Addr} {t : Tree} (hc : Cab mg M a dx lk []) : spDo mg [.ref a, deedD (Str.ofString "put") (Str.ofString "x") [] t] M (fun _ M' => M' = cabM mg M a dx lk [(Str.ofString "x", t)]) (fun _ _ => False) := by
  obtain ⟨h1, h2⟩ := x_ok
  exact ⟨a, _, _, [], t, rfl, .inl ⟨rfl, a, dx, lk, [], _, t, rfl, hc, by simp, h2, fun z => absurd rfl z, fun z => absurd (h1.symm.trans z) (by decide), fun _ z => absurd z (by simp), fun _ _ z => absurd z (by simp), fun _ _ _ => rfl⟩⟩
theorem plan3 {mg : Str → Option Value} : planOk mg 3 3 [deedD (Str.ofString "put") (Str.ofString "x") [] Lf] (deedD (Str.ofString "take") (Str.ofString "x") [] Lf) := by
  refine ⟨by decide, fun M a dx lk hc => ?_, .inr ⟨_, [(Str.ofString "x", Lf)], rfl, Nat.le_of_ble_eq_true rfl, fun M a dx lk hc => ?_, fun M a dx lk hc => ?_⟩⟩
  · rw [open3 (by decide) (by decide)] at hc
    exact ⟨a, _, _, [], Lf, rfl, .inr (.inl ⟨rfl, a, dx, lk, [], _, rfl, hc, by simp, by simp, fun z => absurd z (by simp), fun _ => ⟨rfl, rfl⟩, fun z => absurd z (by simp)⟩)⟩
  · rw [open3 (by decide) (by decide)] at hc
    exact do_put1 hc
  · exact ⟨a, _, _, [], Lf, rfl, .inr (.inl ⟨rfl, a, dx, lk, _, _, rfl, hc, by simp, by simp, fun z => absurd z (by simp), fun z => absurd (List.mem_singleton.mpr rfl) z, fun _ => ⟨.inr ⟨_, rfl⟩, fun _ => rfl, fun z => absurd z (by decide)⟩⟩)⟩
theorem look1 (x : Str) (t : Tree) : lookE [(x, t)] x = some t := by unfold lookE; rw [List.find?_cons, decide_eq_true rfl]; rfl
theorem plan4 {mg : Str → Option Value} : planOk mg 4 3 [deedD (Str.ofString "put") (Str.ofString "x") [] Lf] (deedD (Str.ofString "form") (Str.ofString "x") [] Lf) := by
  refine ⟨by decide, fun M a dx lk hc => ?_, .inr ⟨_, [(Str.ofString "x", Lf)], rfl, Nat.le_of_ble_eq_true rfl, fun M a dx lk hc => ?_, fun M a dx lk hc => ?_⟩⟩
  · rw [open3 (by decide) (by decide)] at hc
    exact ⟨a, _, _, [], Lf, rfl, .inr (.inr (.inl ⟨rfl, a, dx, lk, [], _, rfl, hc, fun _ => ⟨rfl, rfl⟩, fun t z => absurd z (by intro h; cases h)⟩))⟩
  · rw [open3 (by decide) (by decide)] at hc
    exact do_put1 hc
  · exact ⟨a, _, _, [], Lf, rfl, .inr (.inr (.inl ⟨rfl, a, dx, lk, _, _, rfl, hc, fun z => absurd ((look1 _ _).symm.trans z) (by intro h; cases h), fun t z => by
      rw [look1] at z
      cases z
      exact ⟨.inl rfl, fun z => absurd rfl z, fun _ => rfl⟩⟩))⟩
theorem do_cok {mg : Str → Option Value} {M : DH} {a dx lk : Addr} {x : Str} {t v : Tree} {p : List Int} {Q : KD} {EX : Value → DH → Prop} (hx : nameL x.cps.toList = true ∧ x.length ≤ 1000) (hc : Cab mg M a dx lk [(x, t)]) (hp : p.length < 10) (hk : t.knots ≤ 900) (hd : (downN t p).isSome = true) (h1 : (putT t p v).knots ≤ 200) (h2 : (putT t p v).depth ≤ 30) (q : Q .non (cabM mg M a dx lk [(x, putT t p v)])) : spDo mg [.ref a, deedD (Str.ofString "change") x p v] M Q EX :=
  ⟨a, _, _, p, v, rfl, .inr (.inr (.inr ⟨rfl, a, dx, lk, _, x, p, v, rfl, hc, by simp, hx.1, hx.2, hp, fun z => absurd (List.mem_singleton.mpr rfl) z, fun t' z => by
    cases z
    exact ⟨hk, fun z => absurd hd (by rw [z]; intro h; cases h), fun _ _ => ⟨by (first | lia | omega), fun z => absurd z (by (first | lia | omega)), fun _ => q⟩⟩⟩))⟩
theorem do_cno {mg : Str → Option Value} {M : DH} {a dx lk : Addr} {x : Str} {t v : Tree} {p : List Int} {Q : KD} (hx : nameL x.cps.toList = true ∧ x.length ≤ 1000) (hc : Cab mg M a dx lk [(x, t)]) (hp : p.length < 10) (hk : t.knots ≤ 900) (hd : downN t p = none) : spDo mg [.ref a, deedD (Str.ofString "change") x p v] M Q (fun cls M' => cls = .ref (cl mg (clsN 4)) ∧ M' = M) :=
  ⟨a, _, _, p, v, rfl, .inr (.inr (.inr ⟨rfl, a, dx, lk, _, x, p, v, rfl, hc, by simp, hx.1, hx.2, hp, fun z => absurd (List.mem_singleton.mpr rfl) z, fun t' z => by
    cases z
    exact ⟨hk, fun _ => ⟨rfl, rfl⟩, fun _ z => absurd (hd.symm.trans z) (by intro h; cases h)⟩⟩))⟩
theorem do_clong {mg : Str → Option Value} {M : DH} {a dx lk : Addr} {x : Str} {t v : Tree} {p : List Int} (u : Tree) {Q : KD} (hx : nameL x.cps.toList = true ∧ x.length ≤ 1000) (hc : Cab mg M a dx lk [(x, t)]) (hp : p.length < 10) (hk : t.knots ≤ 900) (hd : downN t p = some u) (h1 : 200 < (putT t p v).knots ∨ 30 < (putT t p v).depth) (h2 : (putT t p v).depth ≤ 40) : spDo mg [.ref a, deedD (Str.ofString "change") x p v] M Q (fun cls M' => cls = .ref (cl mg (clsN 2)) ∧ M' = M) :=
  ⟨a, _, _, p, v, rfl, .inr (.inr (.inr ⟨rfl, a, dx, lk, _, x, p, v, rfl, hc, by simp, hx.1, hx.2, hp, fun z => absurd (List.mem_singleton.mpr rfl) z, fun t' z => by
    cases z
    exact ⟨hk, fun z => absurd (hd.symm.trans z) (by intro h; cases h), fun _ _ => ⟨h2, fun _ => ⟨rfl, rfl⟩, fun z => absurd h1 z⟩⟩⟩))⟩
theorem plan5 {mg : Str → Option Value} {p : List Int} (hp : p.length < 10) (hd : (downN (chainT 2) p).isSome = true) (h1 : (putT (chainT 2) p Lf).knots ≤ 200) (h2 : (putT (chainT 2) p Lf).depth ≤ 30) : planOk mg 5 3 [deedD (Str.ofString "put") (Str.ofString "x") [] (chainT 2)] (deedD (Str.ofString "change") (Str.ofString "x") p Lf) := by
  obtain ⟨x1, x2⟩ := x_ok
  refine ⟨by decide, fun M a dx lk hc => ?_, .inr ⟨_, [(Str.ofString "x", chainT 2)], rfl, Nat.le_of_ble_eq_true rfl, fun M a dx lk hc => ?_, fun M a dx lk hc => ?_⟩⟩
  · rw [open3 (by decide) (by decide)] at hc
    exact ⟨a, _, _, p, Lf, rfl, .inr (.inr (.inr ⟨rfl, a, dx, lk, [], _, p, Lf, rfl, hc, by simp, x1, x2, hp, fun _ => ⟨rfl, rfl⟩, fun t z => absurd z (by intro h; cases h)⟩))⟩
  · rw [open3 (by decide) (by decide)] at hc
    exact do_put1 hc
  · exact do_cok ⟨x1, x2⟩ hc hp (by decide +kernel) hd h1 h2 ⟨.inr ⟨_, rfl⟩, fun _ => rfl, fun z => absurd z (by decide)⟩
theorem plan6 {mg : Str → Option Value} {p : List Int} (hp : p.length < 10) (hd : downN (chainT 2) p = none) : planOk mg 6 4 [] (deedD (Str.ofString "change") (Str.ofString "m") p (ofKT 22 1)) := by
  refine ⟨by decide, fun M a dx lk hc => ?_, .inl rfl⟩
  rw [open6 (by decide)] at hc
  exact do_cno m_ok hc hp (by decide +kernel) hd
theorem plan7 {mg : Str → Option Value} : planOk mg 7 4 [deedD (Str.ofString "change") (Str.ofString "m") [0, 0] (chainT 1)] (deedD (Str.ofString "change") (Str.ofString "m") [0, 0, 0] Lf) := by
  refine ⟨by decide, fun M a dx lk hc => ?_, .inr ⟨_, [(Str.ofString "m", putT (chainT 2) [0, 0] (chainT 1))], rfl, Nat.le_of_ble_eq_true rfl, fun M a dx lk hc => ?_, fun M a dx lk hc => ?_⟩⟩
  · rw [open6 (by decide)] at hc
    exact do_cno m_ok hc (by decide) (by decide +kernel) rfl
  · rw [open6 (by decide)] at hc
    exact do_cok m_ok hc (by decide) (by decide +kernel) (by decide +kernel) (by decide +kernel) (by decide +kernel) rfl
  · exact do_cok m_ok hc (by decide) (by decide +kernel) (by decide +kernel) (by decide +kernel) (by decide +kernel) ⟨.inr ⟨_, rfl⟩, fun _ => rfl, fun z => absurd z (by decide)⟩
theorem plan8 {mg : Str → Option Value} : planOk mg 8 2 [deedD (Str.ofString "change") (Str.ofString "m") [0, 0] Lf] (deedD (Str.ofString "change") (Str.ofString "m") [0, 0] (ofKT 22 0)) := by
  refine ⟨by decide, fun M a dx lk hc => ?_, .inr ⟨_, [(Str.ofString "m", putT (chainT 2) [0, 0] Lf)], rfl, Nat.le_of_ble_eq_true rfl, fun M a dx lk hc => ?_, fun M a dx lk hc => ?_⟩⟩
  · rw [open6 (by decide)] at hc
    exact do_clong _ m_ok hc (by decide) (by decide +kernel) rfl (.inl (by decide +kernel)) (by decide +kernel)
  · rw [open6 (by decide)] at hc
    exact do_cok m_ok hc (by decide) (by decide +kernel) (by decide +kernel) (by decide +kernel) (by decide +kernel) rfl
  · exact do_cok m_ok hc (by decide) (by decide +kernel) (by decide +kernel) (by decide +kernel) (by decide +kernel) ⟨.inr ⟨_, rfl⟩, fun _ => rfl, fun z => absurd z (by decide)⟩
theorem plan9 {mg : Str → Option Value} : planOk mg 9 2 [deedD (Str.ofString "change") (Str.ofString "m") [0, 0] Lf] (deedD (Str.ofString "change") (Str.ofString "m") [0, 0] (chainT 28)) := by
  refine ⟨by decide, fun M a dx lk hc => ?_, .inr ⟨_, [(Str.ofString "m", putT (chainT 2) [0, 0] Lf)], rfl, Nat.le_of_ble_eq_true rfl, fun M a dx lk hc => ?_, fun M a dx lk hc => ?_⟩⟩
  · rw [open6 (by decide)] at hc
    exact do_clong _ m_ok hc (by decide) (by decide +kernel) rfl (.inr (by decide +kernel)) (by decide +kernel)
  · rw [open6 (by decide)] at hc
    exact do_cok m_ok hc (by decide) (by decide +kernel) (by decide +kernel) (by decide +kernel) (by decide +kernel) rfl
  · exact do_cok m_ok hc (by decide) (by decide +kernel) (by decide +kernel) (by decide +kernel) (by decide +kernel) ⟨.inr ⟨_, rfl⟩, fun _ => rfl, fun z => absurd z (by decide)⟩
noncomputable def spCase (mg : Str → Option Value) : SpD := fun ds M Q => ∃ (kind : Nat) (number : Int), ds = [.int kind, .int number] ∧ kind < 10 ∧ 0 ≤ number ∧ ∀ due good deed l M', planOk mg kind due good deed → Sub M M' → M l = none → M' l = some (.lst good) → Q (.tup [.int (due : Nat), .ref l, deed]) M'
theorem down_out {b : Int} (h : b < 0 ∨ 1 ≤ b) : downN (chainT 2) [b] = none := by
  show (partN (chainT 2) b).bind _ = none
  rw [partN_none (t := chainT 2) h]
  rfl
theorem down_out1 {b : Int} (h : b < 0 ∨ 1 ≤ b) : downN (chainT 2) [0, b] = none := by
  show (partN (chainT 1) b).bind _ = none
  rw [partN_none (t := chainT 1) h]
  rfl
theorem down_out2 {b : Int} (h : b < 0 ∨ 0 ≤ b) : downN (chainT 2) [0, 0, b] = none := by
  show (partN (chainT 0) b).bind _ = none
  rw [partN_none (t := chainT 0) h]
  rfl
theorem ok_case (T : Txt K mg) : FnD P w K mg base 2 "_law_case" ["kind", "number"] (spCase mg) := by
  have m_str := T.m_str
  have F__law_chain := ok_chain (P := P) (w := w) (base := base) T
  have F__law_of_knots := ok_ofk (P := P) (w := w) (base := base) T
  refine def_ok T.f__law_case sc__law_case (fun ds M Q h => ?_) fun f cdv A outer s H E hr => ⟨_, (ss_cons (s_set (i := 2) sc__law_case.nd (d_tup (a_cons d_str (a_cons d_str (a_cons (d_tup a_nil) a_nil)))))
 (ss_cons (s_set (i := 3) sc__law_case.nd (d_op od_add d_str (d_callTy cd_str rfl m_str bt_str (a_cons (d_op od_mod (d_var 1) d_int) a_nil))))
 (ss_cons (s_if (dt_cmp (od_eq hr) (d_var 0) d_int (nomark _)) (by
   refine' ss_one ?x45
   case x45 =>
    refine' s_ret ?x46
    case x46 =>
     refine' d_tup ?x47
     case x47 =>
      refine' a_cons ?x49 ?x48
      case x49 =>
       exact d_int
      case x48 =>
       refine' a_cons ?x51 ?x50
       case x51 =>
        refine' d_lst ?x52
        case x52 =>
         exact a_nil
       case x50 =>
        refine' a_cons ?x54 ?x53
        case x54 =>
         refine' d_tup ?x55
         case x55 =>
          refine' a_cons ?x57 ?x56
          case x57 =>
           exact d_str
          case x56 =>
           refine' a_cons ?x59 ?x58
           case x59 =>
            refine' d_ix ?x61 ?x60
            case x61 =>
             refine' d_lst ?x62
             case x62 =>
              refine' a_cons ?x64 ?x63
              case x64 =>
               exact d_str
              case x63 =>
               refine' a_cons ?x66 ?x65
               case x66 =>
                exact d_str
               case x65 =>
                refine' a_cons ?x68 ?x67
                case x68 =>
                 exact d_str
                case x67 =>
                 refine' a_cons ?x70 ?x69
                 case x70 =>
                  exact d_str
                 case x69 =>
                  exact a_nil
            case x60 =>
             exact (d_op od_mod (d_var 1) d_int)
           case x58 =>
            refine' a_cons ?x72 ?x71
            case x72 =>
             refine' d_tup ?x73
             case x73 =>
              exact a_nil
            case x71 =>
             refine' a_cons ?x75 ?x74
             case x75 =>
              exact (d_var 2)
             case x74 =>
              exact a_nil
        case x53 =>
         exact a_nil
          ) ss_nil)
 (ss_cons (s_if (dt_cmp (od_eq hr) (d_var 0) d_int (nomark _)) (by
   refine' ss_one ?x76
   case x76 =>
    refine' s_ret ?x77
    case x77 =>
     refine' d_tup ?x78
     case x78 =>
      refine' a_cons ?x80 ?x79
      case x80 =>
       exact d_int
      case x79 =>
       refine' a_cons ?x82 ?x81
       case x82 =>
        refine' d_lst ?x83
        case x83 =>
         exact a_nil
       case x81 =>
        refine' a_cons ?x85 ?x84
        case x85 =>
         refine' d_tup ?x86
         case x86 =>
          refine' a_cons ?x88 ?x87
          case x88 =>
           exact d_str
          case x87 =>
           refine' a_cons ?x90 ?x89
           case x90 =>
            exact (d_var 3)
           case x89 =>
            refine' a_cons ?x92 ?x91
            case x92 =>
             refine' d_tup ?x93
             case x93 =>
              exact a_nil
            case x91 =>
             refine' a_cons ?x95 ?x94
             case x95 =>
              exact (d_var 2)
             case x94 =>
              exact a_nil
        case x84 =>
         exact a_nil
          ) ss_nil)
 (ss_cons (s_if (dt_cmp (od_eq hr) (d_var 0) d_int (nomark _)) (by
   refine' ss_one ?x96
   case x96 =>
    refine' s_ret ?x97
    case x97 =>
     refine' d_tup ?x98
     case x98 =>
      refine' a_cons ?x100 ?x99
      case x100 =>
       exact d_int
      case x99 =>
       refine' a_cons ?x102 ?x101
       case x102 =>
        refine' d_lst ?x103
        case x103 =>
         refine' a_cons ?x105 ?x104
         case x105 =>
          refine' d_tup ?x106
          case x106 =>
           refine' a_cons ?x108 ?x107
           case x108 =>
            exact d_str
           case x107 =>
            refine' a_cons ?x110 ?x109
            case x110 =>
             exact (d_var 3)
            case x109 =>
             refine' a_cons ?x112 ?x111
             case x112 =>
              refine' d_tup ?x113
              case x113 =>
               exact a_nil
             case x111 =>
              refine' a_cons ?x115 ?x114
              case x115 =>
               exact (d_var 2)
              case x114 =>
               exact a_nil
         case x104 =>
          exact a_nil
       case x101 =>
        refine' a_cons ?x117 ?x116
        case x117 =>
         refine' d_tup ?x118
         case x118 =>
          refine' a_cons ?x120 ?x119
          case x120 =>
           exact d_str
          case x119 =>
           refine' a_cons ?x122 ?x121
           case x122 =>
            exact d_str
           case x121 =>
            refine' a_cons ?x124 ?x123
            case x124 =>
             refine' d_tup ?x125
             case x125 =>
              exact a_nil
            case x123 =>
             refine' a_cons ?x127 ?x126
             case x127 =>
              exact (d_var 2)
             case x126 =>
              exact a_nil
        case x116 =>
         exact a_nil
          ) ss_nil)
 (ss_cons (s_if (dt_cmp (od_eq hr) (d_var 0) d_int (nomark _)) (by
   refine' ss_one ?x128
   case x128 =>
    refine' s_ret ?x129
    case x129 =>
     refine' d_tup ?x130
     case x130 =>
      refine' a_cons ?x132 ?x131
      case x132 =>
       exact d_int
      case x131 =>
       refine' a_cons ?x134 ?x133
       case x134 =>
        refine' d_lst ?x135
        case x135 =>
         refine' a_cons ?x137 ?x136
         case x137 =>
          refine' d_tup ?x138
          case x138 =>
           refine' a_cons ?x140 ?x139
           case x140 =>
            exact d_str
           case x139 =>
            refine' a_cons ?x142 ?x141
            case x142 =>
             exact d_str
            case x141 =>
             refine' a_cons ?x144 ?x143
             case x144 =>
              refine' d_tup ?x145
              case x145 =>
               exact a_nil
             case x143 =>
              refine' a_cons ?x147 ?x146
              case x147 =>
               exact (d_var 2)
              case x146 =>
               exact a_nil
         case x136 =>
          exact a_nil
       case x133 =>
        refine' a_cons ?x149 ?x148
        case x149 =>
         refine' d_tup ?x150
         case x150 =>
          refine' a_cons ?x152 ?x151
          case x152 =>
           exact d_str
          case x151 =>
           refine' a_cons ?x154 ?x153
           case x154 =>
            exact d_str
           case x153 =>
            refine' a_cons ?x156 ?x155
            case x156 =>
             refine' d_tup ?x157
             case x157 =>
              exact a_nil
            case x155 =>
             refine' a_cons ?x159 ?x158
             case x159 =>
              exact (d_var 2)
             case x158 =>
              exact a_nil
        case x148 =>
         exact a_nil
          ) ss_nil)
 (ss_cons (s_if (dt_cmp (od_eq hr) (d_var 0) d_int (nomark _)) (by
   refine' ss_one ?x160
   case x160 =>
    refine' s_ret ?x161
    case x161 =>
     refine' d_tup ?x162
     case x162 =>
      refine' a_cons ?x164 ?x163
      case x164 =>
       exact d_int
      case x163 =>
       refine' a_cons ?x166 ?x165
       case x166 =>
        refine' d_lst ?x167
        case x167 =>
         refine' a_cons ?x169 ?x168
         case x169 =>
          refine' d_tup ?x170
          case x170 =>
           refine' a_cons ?x172 ?x171
           case x172 =>
            exact d_str
           case x171 =>
            refine' a_cons ?x174 ?x173
            case x174 =>
             exact d_str
            case x173 =>
             refine' a_cons ?x176 ?x175
             case x176 =>
              refine' d_tup ?x177
              case x177 =>
               exact a_nil
             case x175 =>
              refine' a_cons ?x179 ?x178
              case x179 =>
               exact (d_var 2)
              case x178 =>
               exact a_nil
         case x168 =>
          exact a_nil
       case x165 =>
        refine' a_cons ?x181 ?x180
        case x181 =>
         refine' d_tup ?x182
         case x182 =>
          refine' a_cons ?x184 ?x183
          case x184 =>
           exact d_str
          case x183 =>
           refine' a_cons ?x186 ?x185
           case x186 =>
            exact d_str
           case x185 =>
            refine' a_cons ?x188 ?x187
            case x188 =>
             refine' d_tup ?x189
             case x189 =>
              exact a_nil
            case x187 =>
             refine' a_cons ?x191 ?x190
             case x191 =>
              exact (d_var 2)
             case x190 =>
              exact a_nil
        case x180 =>
         exact a_nil
          ) ss_nil)
 (ss_cons (s_if (dt_cmp (od_eq hr) (d_var 0) d_int (nomark _)) (by
   refine' ss_one ?x192
   case x192 =>
    refine' s_ret ?x193
    case x193 =>
     refine' d_tup ?x194
     case x194 =>
      refine' a_cons ?x196 ?x195
      case x196 =>
       exact d_int
      case x195 =>
       refine' a_cons ?x198 ?x197
       case x198 =>
        refine' d_lst ?x199
        case x199 =>
         refine' a_cons ?x201 ?x200
         case x201 =>
          refine' d_tup ?x202
          case x202 =>
           refine' a_cons ?x204 ?x203
           case x204 =>
            exact d_str
           case x203 =>
            refine' a_cons ?x206 ?x205
            case x206 =>
             exact d_str
            case x205 =>
             refine' a_cons ?x208 ?x207
             case x208 =>
              refine' d_tup ?x209
              case x209 =>
               exact a_nil
             case x207 =>
              refine' a_cons ?x211 ?x210
              case x211 =>
               exact (d_call F__law_chain (hr.mono (by (first | lia | omega))) (a_cons d_int a_nil))
              case x210 =>
               exact a_nil
         case x200 =>
          exact a_nil
       case x197 =>
        refine' a_cons ?x213 ?x212
        case x213 =>
         refine' d_tup ?x214
         case x214 =>
          refine' a_cons ?x216 ?x215
          case x216 =>
           exact d_str
          case x215 =>
           refine' a_cons ?x218 ?x217
           case x218 =>
            exact d_str
           case x217 =>
            refine' a_cons ?x220 ?x219
            case x220 =>
             refine' d_ix ?x222 ?x221
             case x222 =>
              refine' d_lst ?x223
              case x223 =>
               refine' a_cons ?x225 ?x224
               case x225 =>
                refine' d_tup ?x226
                case x226 =>
                 exact a_nil
               case x224 =>
                refine' a_cons ?x228 ?x227
                case x228 =>
                 refine' d_tup ?x229
                 case x229 =>
                  refine' a_cons ?x231 ?x230
                  case x231 =>
                   exact d_int
                  case x230 =>
                   exact a_nil
                case x227 =>
                 refine' a_cons ?x233 ?x232
                 case x233 =>
                  refine' d_tup ?x234
                  case x234 =>
                   refine' a_cons ?x236 ?x235
                   case x236 =>
                    exact d_int
                   case x235 =>
                    refine' a_cons ?x238 ?x237
                    case x238 =>
                     exact d_int
                    case x237 =>
                     exact a_nil
                 case x232 =>
                  exact a_nil
             case x221 =>
              exact (d_op od_mod (d_var 1) d_int)
            case x219 =>
             refine' a_cons ?x240 ?x239
             case x240 =>
              exact (d_var 2)
             case x239 =>
              exact a_nil
        case x212 =>
         exact a_nil
          ) ss_nil)
 (ss_cons (s_if (dt_cmp (od_eq hr) (d_var 0) d_int (nomark _)) (by
   refine' ss_cons ?x261 ?x260
   case x261 =>
    refine' s_set (i := 4) ?x263 ?x262
    case x263 =>
     exact sc__law_case.nd
    case x262 =>
     refine' d_ix ?x265 ?x264
     case x265 =>
      refine' d_lst ?x266
      case x266 =>
       refine' a_cons ?x268 ?x267
       case x268 =>
        refine' d_tup ?x269
        case x269 =>
         refine' a_cons ?x271 ?x270
         case x271 =>
          exact d_int
         case x270 =>
          exact a_nil
       case x267 =>
        refine' a_cons ?x273 ?x272
        case x273 =>
         refine' d_tup ?x274
         case x274 =>
          refine' a_cons ?x276 ?x275
          case x276 =>
           exact (d_neg d_int)
          case x275 =>
           exact a_nil
        case x272 =>
         refine' a_cons ?x278 ?x277
         case x278 =>
          refine' d_tup ?x279
          case x279 =>
           refine' a_cons ?x281 ?x280
           case x281 =>
            exact d_int
           case x280 =>
            refine' a_cons ?x283 ?x282
            case x283 =>
             exact d_int
            case x282 =>
             refine' a_cons ?x285 ?x284
             case x285 =>
              exact d_int
             case x284 =>
              exact a_nil
         case x277 =>
          refine' a_cons ?x287 ?x286
          case x287 =>
           refine' d_tup ?x288
           case x288 =>
            refine' a_cons ?x290 ?x289
            case x290 =>
             exact d_int
            case x289 =>
             refine' a_cons ?x292 ?x291
             case x292 =>
              exact d_int
             case x291 =>
              exact a_nil
          case x286 =>
           refine' a_cons ?x294 ?x293
           case x294 =>
            refine' d_tup ?x295
            case x295 =>
             refine' a_cons ?x297 ?x296
             case x297 =>
              exact d_int
             case x296 =>
              refine' a_cons ?x299 ?x298
              case x299 =>
               exact (d_op od_add d_int (d_op od_mod (d_var 1) (d_op od_pow d_int d_int)))
              case x298 =>
               exact a_nil
           case x293 =>
            exact a_nil
     case x264 =>
      exact (d_op od_mod (d_var 1) d_int)
   case x260 =>
    exact (by
   refine' ss_one ?x241
   case x241 =>
    refine' s_ret ?x242
    case x242 =>
     refine' d_tup ?x243
     case x243 =>
      refine' a_cons ?x245 ?x244
      case x245 =>
       exact d_int
      case x244 =>
       refine' a_cons ?x247 ?x246
       case x247 =>
        refine' d_lst ?x248
        case x248 =>
         exact a_nil
       case x246 =>
        refine' a_cons ?x250 ?x249
        case x250 =>
         refine' d_tup ?x251
         case x251 =>
          refine' a_cons ?x253 ?x252
          case x253 =>
           exact d_str
          case x252 =>
           refine' a_cons ?x255 ?x254
           case x255 =>
            exact d_str
           case x254 =>
            refine' a_cons ?x257 ?x256
            case x257 =>
             exact (d_var 4)
            case x256 =>
             refine' a_cons ?x259 ?x258
             case x259 =>
              exact (d_call F__law_of_knots (hr.mono (by (first | lia | omega))) (a_cons d_int a_nil))
             case x258 =>
              exact a_nil
        case x249 =>
         exact a_nil
          )
          ) ss_nil)
 (ss_cons (s_if (dt_cmp (od_eq hr) (d_var 0) d_int (nomark _)) (by
   refine' ss_one ?x300
   case x300 =>
    refine' s_ret ?x301
    case x301 =>
     refine' d_tup ?x302
     case x302 =>
      refine' a_cons ?x304 ?x303
      case x304 =>
       exact d_int
      case x303 =>
       refine' a_cons ?x306 ?x305
       case x306 =>
        refine' d_lst ?x307
        case x307 =>
         refine' a_cons ?x309 ?x308
         case x309 =>
          refine' d_tup ?x310
          case x310 =>
           refine' a_cons ?x312 ?x311
           case x312 =>
            exact d_str
           case x311 =>
            refine' a_cons ?x314 ?x313
            case x314 =>
             exact d_str
            case x313 =>
             refine' a_cons ?x316 ?x315
             case x316 =>
              refine' d_tup ?x317
              case x317 =>
               refine' a_cons ?x319 ?x318
               case x319 =>
                exact d_int
               case x318 =>
                refine' a_cons ?x321 ?x320
                case x321 =>
                 exact d_int
                case x320 =>
                 exact a_nil
             case x315 =>
              refine' a_cons ?x323 ?x322
              case x323 =>
               exact (d_call F__law_chain (hr.mono (by (first | lia | omega))) (a_cons d_int a_nil))
              case x322 =>
               exact a_nil
         case x308 =>
          exact a_nil
       case x305 =>
        refine' a_cons ?x325 ?x324
        case x325 =>
         refine' d_tup ?x326
         case x326 =>
          refine' a_cons ?x328 ?x327
          case x328 =>
           exact d_str
          case x327 =>
           refine' a_cons ?x330 ?x329
           case x330 =>
            exact d_str
           case x329 =>
            refine' a_cons ?x332 ?x331
            case x332 =>
             refine' d_tup ?x333
             case x333 =>
              refine' a_cons ?x335 ?x334
              case x335 =>
               exact d_int
              case x334 =>
               refine' a_cons ?x337 ?x336
               case x337 =>
                exact d_int
               case x336 =>
                refine' a_cons ?x339 ?x338
                case x339 =>
                 exact d_int
                case x338 =>
                 exact a_nil
            case x331 =>
             refine' a_cons ?x341 ?x340
             case x341 =>
              exact (d_var 2)
             case x340 =>
              exact a_nil
        case x324 =>
         exact a_nil
          ) ss_nil)
 (ss_cons (s_if (dt_cmp (od_eq hr) (d_var 0) d_int (nomark _)) (by
   refine' ss_one ?x342
   case x342 =>
    refine' s_ret ?x343
    case x343 =>
     refine' d_tup ?x344
     case x344 =>
      refine' a_cons ?x346 ?x345
      case x346 =>
       exact d_int
      case x345 =>
       refine' a_cons ?x348 ?x347
       case x348 =>
        refine' d_lst ?x349
        case x349 =>
         refine' a_cons ?x351 ?x350
         case x351 =>
          refine' d_tup ?x352
          case x352 =>
           refine' a_cons ?x354 ?x353
           case x354 =>
            exact d_str
           case x353 =>
            refine' a_cons ?x356 ?x355
            case x356 =>
             exact d_str
            case x355 =>
             refine' a_cons ?x358 ?x357
             case x358 =>
              refine' d_tup ?x359
              case x359 =>
               refine' a_cons ?x361 ?x360
               case x361 =>
                exact d_int
               case x360 =>
                refine' a_cons ?x363 ?x362
                case x363 =>
                 exact d_int
                case x362 =>
                 exact a_nil
             case x357 =>
              refine' a_cons ?x365 ?x364
              case x365 =>
               exact (d_var 2)
              case x364 =>
               exact a_nil
         case x350 =>
          exact a_nil
       case x347 =>
        refine' a_cons ?x367 ?x366
        case x367 =>
         refine' d_tup ?x368
         case x368 =>
          refine' a_cons ?x370 ?x369
          case x370 =>
           exact d_str
          case x369 =>
           refine' a_cons ?x372 ?x371
           case x372 =>
            exact d_str
           case x371 =>
            refine' a_cons ?x374 ?x373
            case x374 =>
             refine' d_tup ?x375
             case x375 =>
              refine' a_cons ?x377 ?x376
              case x377 =>
               exact d_int
              case x376 =>
               refine' a_cons ?x379 ?x378
               case x379 =>
                exact d_int
               case x378 =>
                exact a_nil
            case x373 =>
             refine' a_cons ?x381 ?x380
             case x381 =>
              exact (d_call F__law_of_knots (hr.mono (by (first | lia | omega))) (a_cons d_int a_nil))
             case x380 =>
              exact a_nil
        case x366 =>
         exact a_nil
          ) ss_nil)
 (by
   refine' ss_one ?x382
   case x382 =>
    refine' s_ret ?x383
    case x383 =>
     refine' d_tup ?x384
     case x384 =>
      refine' a_cons ?x386 ?x385
      case x386 =>
       exact d_int
      case x385 =>
       refine' a_cons ?x388 ?x387
       case x388 =>
        refine' d_lst ?x389
        case x389 =>
         refine' a_cons ?x391 ?x390
         case x391 =>
          refine' d_tup ?x392
          case x392 =>
           refine' a_cons ?x394 ?x393
           case x394 =>
            exact d_str
           case x393 =>
            refine' a_cons ?x396 ?x395
            case x396 =>
             exact d_str
            case x395 =>
             refine' a_cons ?x398 ?x397
             case x398 =>
              refine' d_tup ?x399
              case x399 =>
               refine' a_cons ?x401 ?x400
               case x401 =>
                exact d_int
               case x400 =>
                refine' a_cons ?x403 ?x402
                case x403 =>
                 exact d_int
                case x402 =>
                 exact a_nil
             case x397 =>
              refine' a_cons ?x405 ?x404
              case x405 =>
               exact (d_var 2)
              case x404 =>
               exact a_nil
         case x390 =>
          exact a_nil
       case x387 =>
        refine' a_cons ?x407 ?x406
        case x407 =>
         refine' d_tup ?x408
         case x408 =>
          refine' a_cons ?x410 ?x409
          case x410 =>
           exact d_str
          case x409 =>
           refine' a_cons ?x412 ?x411
           case x412 =>
            exact d_str
           case x411 =>
            refine' a_cons ?x414 ?x413
            case x414 =>
             refine' d_tup ?x415
             case x415 =>
              refine' a_cons ?x417 ?x416
              case x417 =>
               exact d_int
              case x416 =>
               refine' a_cons ?x419 ?x418
               case x419 =>
                exact d_int
               case x418 =>
                exact a_nil
            case x413 =>
             refine' a_cons ?x421 ?x420
             case x421 =>
              exact (d_call F__law_chain (hr.mono (by (first | lia | omega))) (a_cons d_int a_nil))
             case x420 =>
              exact a_nil
        case x406 =>
         exact a_nil
          )))))))))))), fun ds M Q h => ?_⟩
  · obtain ⟨k, n, rfl, _⟩ := h; rfl
  · obtain ⟨k, n, rfl, hk, hn, q⟩ := h
    obtain ⟨j, hj, ej⟩ : ∃ j : Nat, j < 40 ∧ n % 40 = (j : Int) := ⟨(n % 40).toNat, by (first | lia | omega), by (first | lia | omega)⟩
    refine ⟨(by decide : (0 : Int) < 40), ⟨by show (0 : Int) ≤ n % 40; (first | lia | omega), by show n % 40 < 10 ^ 10; (first | lia | omega)⟩, ?_⟩
    have hpl := pn_len j hj
    rw [← ej] at hpl
    refine ⟨line1000 hpl, ?_⟩
    have es : Str.ofString "p" ++ DL.numT (n % 40) = pn j := by rw [ej]; rfl
    rw [es]
    clear es hpl
    show if decide ((k : Int) = 0) = true then _ else _
    by_cases c : k = 0
    · subst c
      refine ifT rfl ?_
      show ∀ l, M l = none → _
      intro l hl
      show ∀ l2, _ = none → _
      intro l2 hl2
      refine ⟨(by decide : (0 : Int) < 4), ?_⟩
      have fin : ∀ x, nameL x.cps.toList = false → x.length ≤ 1000 → ∃ M0, Sub M0 (updM (updM M l (.lst [])) l2 (.lst [.str (Str.ofString ""), .str (Str.ofString "A"), .str (Str.ofString "a b"), .str (Str.ofString "toolongname12")])) ∧ Q (.tup [.int 0, .ref l, deedD (Str.ofString "put") x [] Lf]) M0 := fun x hx hxl => ⟨_, Sub.refl _, q 0 [] _ l _ (plan0 hx hxl) ((Sub.new hl).trans (Sub.new hl2)) hl (Sub.new hl2 _ _ updM_same)⟩
      show ixD (D.ref l2) (.int (n % 4)) _ _
      rcases (show n % 4 = 0 ∨ n % 4 = 1 ∨ n % 4 = 2 ∨ n % 4 = 3 by (first | lia | omega)) with h | h | h | h
      · rw [h]
        exact ⟨_, .str (Str.ofString ""), updM_same, rfl, fin _ (by decide +kernel) (by decide +kernel)⟩
      · rw [h]
        exact ⟨_, .str (Str.ofString "A"), updM_same, rfl, fin _ (by decide +kernel) (by decide +kernel)⟩
      · rw [h]
        exact ⟨_, .str (Str.ofString "a b"), updM_same, rfl, fin _ (by decide +kernel) (by decide +kernel)⟩
      · rw [h]
        exact ⟨_, .str (Str.ofString "toolongname12"), updM_same, rfl, fin _ (by decide +kernel) (by decide +kernel)⟩
    refine ifF (by (first | lia | omega)) ?_
    show if decide ((k : Int) = 1) = true then _ else _
    by_cases c1 : k = 1
    · subst c1
      refine ifT rfl ?_
      show ∀ l, M l = none → _
      intro l hl
      exact ⟨_, Sub.refl _, q 1 [] _ l _ (plan1 hj) (Sub.new hl) hl updM_same⟩
    refine ifF (by (first | lia | omega)) ?_
    show if decide ((k : Int) = 2) = true then _ else _
    by_cases c2 : k = 2
    · subst c2
      refine ifT rfl ?_
      show ∀ l, M l = none → _
      intro l hl
      exact ⟨_, Sub.refl _, q 2 _ _ l _ (plan2 hj) (Sub.new hl) hl updM_same⟩
    refine ifF (by (first | lia | omega)) ?_
    show if decide ((k : Int) = 3) = true then _ else _
    by_cases c3 : k = 3
    · subst c3
      refine ifT rfl ?_
      show ∀ l, M l = none → _
      intro l hl
      exact ⟨_, Sub.refl _, q 3 _ _ l _ plan3 (Sub.new hl) hl updM_same⟩
    refine ifF (by (first | lia | omega)) ?_
    show if decide ((k : Int) = 4) = true then _ else _
    by_cases c4 : k = 4
    · subst c4
      refine ifT rfl ?_
      show ∀ l, M l = none → _
      intro l hl
      exact ⟨_, Sub.refl _, q 3 _ _ l _ plan4 (Sub.new hl) hl updM_same⟩
    refine ifF (by (first | lia | omega)) ?_
    show if decide ((k : Int) = 5) = true then _ else _
    by_cases c5 : k = 5
    · subst c5
      refine ifT rfl ?_
      refine ⟨2, rfl, by decide, ?_⟩
      show ∀ l, M l = none → _
      intro l hl
      show ∀ l2, _ = none → _
      intro l2 hl2
      refine ⟨(by decide : (0 : Int) < 3), ?_⟩
      have fin : ∀ p : List Int, p.length < 10 → (downN (chainT 2) p).isSome = true → (putT (chainT 2) p Lf).knots ≤ 200 → (putT (chainT 2) p Lf).depth ≤ 30 → ∃ M0, Sub M0 (updM (updM M l (.lst [deedD (Str.ofString "put") (Str.ofString "x") [] (chainT 2)])) l2 (.lst [.tup [], .tup [.int 0], .tup [.int 0, .int 0]])) ∧ Q (.tup [.int 3, .ref l, deedD (Str.ofString "change") (Str.ofString "x") p Lf]) M0 := fun p h1 h2 h3 h4 => ⟨_, Sub.refl _, q 3 _ _ l _ (plan5 h1 h2 h3 h4) ((Sub.new hl).trans (Sub.new hl2)) hl (Sub.new hl2 _ _ updM_same)⟩
      show ixD (D.ref l2) (.int (n % 3)) _ _
      rcases (show n % 3 = 0 ∨ n % 3 = 1 ∨ n % 3 = 2 by (first | lia | omega)) with h | h | h
      · rw [h]
        exact ⟨_, .tup [], updM_same, rfl, fin [] (by decide) (by decide +kernel) (by decide +kernel) (by decide +kernel)⟩
      · rw [h]
        exact ⟨_, .tup [.int 0], updM_same, rfl, fin [0] (by decide) (by decide +kernel) (by decide +kernel) (by decide +kernel)⟩
      · rw [h]
        exact ⟨_, .tup [.int 0, .int 0], updM_same, rfl, fin [0, 0] (by decide) (by decide +kernel) (by decide +kernel) (by decide +kernel)⟩
    refine ifF (by (first | lia | omega)) ?_
    show if decide ((k : Int) = 6) = true then _ else _
    by_cases c6 : k = 6
    · subst c6
      refine ifT rfl ?_
      have hp9 : CPow 10 9 := ⟨by decide, by decide, by decide⟩
      refine ⟨hp9, by show (0 : Int) < (10 : Int) ^ (9 : Int).toNat; decide, ?_⟩
      show ∀ l2, M l2 = none → _
      intro l2 hl2
      refine ⟨(by decide : (0 : Int) < 5), ?_⟩
      show ixD (D.ref l2) (.int (n % 5)) (updM M l2 (.lst [.tup [.int 1], .tup [.int (-1)], .tup [.int 0, .int 0, .int 0], .tup [.int 0, .int 9], .tup [.int 0, .int (1 + n % (10 : Int) ^ (9 : Int).toNat)]])) _
      have hbig : 1 ≤ 1 + n % (10 : Int) ^ (9 : Int).toNat := by
        have := Int.emod_nonneg n (b := (10 : Int) ^ (9 : Int).toNat) (by decide)
        (first | lia | omega)
      generalize 1 + n % (10 : Int) ^ (9 : Int).toNat = big at hbig ⊢
      rcases (show n % 5 = 0 ∨ n % 5 = 1 ∨ n % 5 = 2 ∨ n % 5 = 3 ∨ n % 5 = 4 by (first | lia | omega)) with h | h | h | h | h
      · rw [h]
        refine ⟨_, .tup [.int 1], updM_same, rfl, ?_⟩
        show ∀ l, _ = none → _
        intro l hl
        refine ⟨22, 1, rfl, by decide, by decide, ?_⟩
        exact ⟨_, Sub.refl _, q 4 [] _ l _ (plan6 (p := [1]) (by decide) (down_out (by decide))) ((Sub.new hl2).trans (Sub.new hl)) (sub_none (Sub.new hl2) hl) updM_same⟩
      · rw [h]
        refine ⟨_, .tup [.int (-1)], updM_same, rfl, ?_⟩
        show ∀ l, _ = none → _
        intro l hl
        refine ⟨22, 1, rfl, by decide, by decide, ?_⟩
        exact ⟨_, Sub.refl _, q 4 [] _ l _ (plan6 (p := [-1]) (by decide) (down_out (by decide))) ((Sub.new hl2).trans (Sub.new hl)) (sub_none (Sub.new hl2) hl) updM_same⟩
      · rw [h]
        refine ⟨_, .tup [.int 0, .int 0, .int 0], updM_same, rfl, ?_⟩
        show ∀ l, _ = none → _
        intro l hl
        refine ⟨22, 1, rfl, by decide, by decide, ?_⟩
        exact ⟨_, Sub.refl _, q 4 [] _ l _ (plan6 (p := [0, 0, 0]) (by decide) (down_out2 (by decide))) ((Sub.new hl2).trans (Sub.new hl)) (sub_none (Sub.new hl2) hl) updM_same⟩
      · rw [h]
        refine ⟨_, .tup [.int 0, .int 9], updM_same, rfl, ?_⟩
        show ∀ l, _ = none → _
        intro l hl
        refine ⟨22, 1, rfl, by decide, by decide, ?_⟩
        exact ⟨_, Sub.refl _, q 4 [] _ l _ (plan6 (p := [0, 9]) (by decide) (down_out1 (by decide))) ((Sub.new hl2).trans (Sub.new hl)) (sub_none (Sub.new hl2) hl) updM_same⟩
      · rw [h]
        refine ⟨_, .tup [.int 0, .int big], updM_same, rfl, ?_⟩
        show ∀ l, _ = none → _
        intro l hl
        refine ⟨22, 1, rfl, by decide, by decide, ?_⟩
        exact ⟨_, Sub.refl _, q 4 [] _ l _ (plan6 (p := [0, big]) (by show 2 < 10; decide) (down_out1 (.inr hbig))) ((Sub.new hl2).trans (Sub.new hl)) (sub_none (Sub.new hl2) hl) updM_same⟩
    refine ifF (by (first | lia | omega)) ?_
    show if decide ((k : Int) = 7) = true then _ else _
    by_cases c7 : k = 7
    · subst c7
      refine ifT rfl ?_
      refine ⟨1, rfl, by decide, ?_⟩
      show ∀ l, M l = none → _
      intro l hl
      exact ⟨_, Sub.refl _, q 4 _ _ l _ plan7 (Sub.new hl) hl updM_same⟩
    refine ifF (by (first | lia | omega)) ?_
    show if decide ((k : Int) = 8) = true then _ else _
    by_cases c8 : k = 8
    · subst c8
      refine ifT rfl ?_
      show ∀ l, M l = none → _
      intro l hl
      refine ⟨22, 0, rfl, by decide, by decide, ?_⟩
      exact ⟨_, Sub.refl _, q 2 _ _ l _ plan8 (Sub.new hl) hl updM_same⟩
    refine ifF (by (first | lia | omega)) ?_
    have c9 : k = 9 := by (first | lia | omega)
    subst c9
    show ∀ l, M l = none → _
    intro l hl
    refine ⟨28, rfl, by decide, ?_⟩
    exact ⟨_, Sub.refl _, q 2 _ _ l _ plan9 (Sub.new hl) hl updM_same⟩
theorem cut_map {α β : Type} (g : α → β) (xs : List α) (lo hi : Option Int) : DL.cutD (xs.map g) lo hi = (DL.cutD xs lo hi).map g := by
  unfold DL.cutD
  rw [List.length_map, ← List.map_drop, ← List.map_take]
noncomputable def dueF (due : Nat) : D → Option D
  | .int i => some (.bl (decide (i = (due : Int))))
  | _ => none
theorem due_map : ∀ j, j < 5 → ((List.range (7 : Int).toNat).map fun i : Nat => D.int (i : Int)).filterMap (dueF j) = (duesL j).map .bl
  | 0, _ => rfl
  | 1, _ => rfl
  | 2, _ => rfl
  | 3, _ => rfl
  | 4, _ => rfl
  | n + 5, h => absurd h (by (first | lia | omega))
theorem plains_self : ∀ ds : List D, (∀ d ∈ ds, d.plain = true) → D.eqOks ds ds = true ∧ D.deps ds ≤ 150 ∧ D.eqs ds ds = true
  | [], _ => ⟨rfl, Nat.zero_le _, rfl⟩
  | d :: ds, h => by
    obtain ⟨h1, h2, h3⟩ := plains_self ds fun x hx => h x (List.mem_cons_of_mem _ hx)
    have hd := h d List.mem_cons_self
    have e1 : D.eqOk d d = true := by cases d <;> first | rfl | exact nof hd
    have e2 : D.dep d ≤ 150 := by cases d <;> first | exact Nat.zero_le _ | exact nof hd
    have e3 : D.eq d d = true := eq_refl_aux _ d d (Nat.le_refl _) e1 rfl
    rw [D.eqOks, D.eqs, D.deps, e1, e3, h1, h3]
    exact ⟨rfl, by (first | lia | omega), rfl⟩
theorem strs_self (ss : List Str) : D.eqOks (ss.map .str) (ss.map .str) = true ∧ D.deps (ss.map .str) ≤ 150 ∧ D.eqs (ss.map .str) (ss.map .str) = true := plains_self _ fun d hd => by
  obtain ⟨x, _, rfl⟩ := List.mem_map.mp hd
  rfl
theorem bls_self (ss : List Bool) : D.eqOks (ss.map .bl) (ss.map .bl) = true ∧ D.deps (ss.map .bl) ≤ 150 ∧ D.eqs (ss.map .bl) (ss.map .bl) = true := plains_self _ fun d hd => by
  obtain ⟨x, _, rfl⟩ := List.mem_map.mp hd
  rfl
theorem open_len {k : Nat} : (openL k).length < 64 := by
  unfold openL
  by_cases h : k < 3
  · rw [if_pos h, esP_len]; (first | lia | omega)
  · rw [if_neg h]
    by_cases h5 : 5 < k
    · rw [if_pos h5]; decide
    · rw [if_neg h5]; decide
theorem ok_law (T : Txt K mg) {qual : Str} {f : Addr} {fd : FuncData} (F : Fun K "law" qual s_law f fd) : FnOk P w K mg base CX0 kLaw f fd ["script"] (lowSp K spLaw) := by
  have m_range := T.m_range
  have F__law_mixed := ok_mix (P := P) (w := w) (base := base) T
  have F__law_case := ok_case (P := P) (w := w) (base := base) T
  have F__law_opened := ok_open (P := P) (w := w) (base := base) T
  have F__law_refused := ok_ref (P := P) (w := w) (base := base) T
  have F__law_less := ok_less (P := P) (w := w) (base := base) T
  have F__law_do := (ok_do (P := P) (w := w) (base := base) T).nox
  have F_Cabinet_names := ok_names (P := P) (w := w) (base := base) T
  have F_Cabinet_below := ok_below (P := P) (w := w) (base := base) T
  refine def_fn F sc_law (fun ds M Q h => ?_) fun cdv A outer s H E hr => ⟨_, (ss_cons (s_for PassesOwn.never rfl (d_sl sd_sl (d_op od_add (d_var 0) (d_lst (a_cons d_int a_nil))) o_none (o_some d_int)) (g_name (i := 1) sc_law.nd) (ss_cons (s_set (i := 2) sc_law.nd (d_call F__law_mixed (hr.mono (by (first | lia | omega))) (a_cons (d_var 1) a_nil)))
 (ss_cons (s_set (i := 3) sc_law.nd (d_op od_mod (d_var 2) d_int))
 (ss_cons (s_asg (d_call F__law_case (hr.mono (by (first | lia | omega))) (a_cons (d_var 3) (a_cons (d_op od_fdiv (d_var 2) d_int) a_nil))) (g_tup rfl (gs_cons (g_name (i := 4) sc_law.nd) (gs_cons (g_name (i := 5) sc_law.nd) (gs_cons (g_name (i := 6) sc_law.nd) gs_nil))) len_3))
 (ss_cons (s_set (i := 7) sc_law.nd (d_call F__law_opened (hr.mono (by (first | lia | omega))) (a_cons (d_var 3) a_nil)))
 (ss_cons (s_set (i := 8) sc_law.nd (d_meth0 T.c_Cabinet F_Cabinet_names (hr.mono (by (first | lia | omega))) (d_var 7)))
 (ss_cons (s_if (PW.pt (dw_or (dt_cmp (od_neX hr) (d_call F__law_refused (hr.mono (by (first | lia | omega))) (a_cons (d_var 7) (a_cons (d_var 6) a_nil))) (d_op od_add (d_compR (Nc := ["k", "due"]) (js := [none, some 4]) (comp_okF ["script", "cell", "number", "kind", "due", "good", "deed", "cabinet", "ahead", "step", "told"] (defScope s_law).names rfl rfl rfl rfl (by decide +kernel) (by decide +kernel) (by decide +kernel) rfl (by decide +kernel)) rfl m_range (a_cons d_int a_nil) (fun C s H fp => (g_name (i := 0) (by show List.Nodup (["k", "due"] : List Str); decide +kernel))) (fun C s H fp => Or.inl ⟨rfl, rfl⟩) (fun C s H fp => (d_cmp (od_eq hr) (d_var 0) (d_var 1) (nomark _)))) (d_lst (a_cons d_bl a_nil))) (nomark _)) (dw_or1 (dt_cmp (od_neX hr) (d_meth0 T.c_Cabinet F_Cabinet_names (hr.mono (by (first | lia | omega))) (d_var 7)) (d_var 8) (nomark _))))) (ss_one (s_ret d_bl)) ss_nil)
 (ss_cons (s_if (dt_cmp (od_neX hr) (d_ix (d_meth T.c_Cabinet F_Cabinet_below (hr.mono (by (first | lia | omega))) (d_var 7) (a_cons (d_tup (a_cons d_str (a_cons (d_op od_add d_int (d_op od_mod (d_var 2) (d_op od_pow d_int d_int))) a_nil))) a_nil)) d_int) (d_var 8) (nomark _)) (ss_one (s_ret d_bl)) ss_nil)
 (ss_cons (s_for PassesOwn.never rfl (d_var 5) (g_name (i := 9) sc_law.nd) (ss_one (s_expr (d_call F__law_do (hr.mono (by (first | lia | omega))) (a_cons (d_var 7) (a_cons (d_var 9) a_nil))))))
 (ss_one (s_if (dt_cmp (od_neX hr) (d_var 5) (d_lst a_nil) (nomark _)) (ss_cons (s_set (i := 10) sc_law.nd (d_call F__law_do (hr.mono (by (first | lia | omega))) (a_cons (d_var 7) (a_cons (d_call F__law_less (hr.mono (by (first | lia | omega))) (a_cons (d_var 3) (a_cons (d_var 6) a_nil))) a_nil))))
 (ss_one (s_if (PW.pt (dw_or (PW.pt (dw_and (dt_cmp (od_neX hr) (d_var 3) d_int (nomark _)) (dw_and1 (dt_cmp od_isnot (d_var 10) d_non (nomark _))))) (dw_or1 (PW.pt (dw_and (dt_cmp (od_eq hr) (d_var 3) d_int (nomark _)) (dw_and1 (dt_cmp (od_neX hr) (d_var 10) (d_tup (a_cons d_str (a_cons d_str (a_cons (d_tup a_nil) a_nil)))) (nomark _)))))))) (ss_one (s_ret d_bl)) ss_nil))) ss_nil)))))))))))
 (ss_one (s_ret d_bl))), fun ds M Q h => ?_⟩
  · obtain ⟨ns, rfl, _⟩ := h; rfl
  · obtain ⟨ns, rfl, hl, q⟩ := h
    show ∀ l1, M l1 = none → _
    intro l1 h1
    refine ⟨[.int 2], updM_same, by rw [List.length_map]; exact line1000 (by simp; (first | lia | omega)), fun l2 h2 => ?_⟩
    refine ⟨_, updM_same, fun l3 h3 => ?_⟩
    have hS0 := ((Sub.new (o := .lst [.int 2]) h1).trans (Sub.new (o := .lst (ns.map D.int ++ [.int 2])) h2)).trans (Sub.new (o := .lst (cutD (ns.map D.int ++ [.int 2]) none (some 21))) h3)
    obtain ⟨cs, hcs⟩ : ∃ cs : List Int, cutD (ns.map D.int ++ [.int 2]) none (some 21) = cs.map .int := ⟨cutD (ns ++ [2]) none (some 21), by rw [← cut_map, List.map_append]; rfl⟩
    have hR0 : updM (updM (updM M l1 (.lst [.int 2])) l2 (.lst (ns.map D.int ++ [.int 2]))) l3 (.lst (cutD (ns.map D.int ++ [.int 2]) none (some 21))) l3 = some (.lst (cs.map .int)) := by rw [updM_same, hcs]
    clear hcs
    generalize updM (updM (updM M l1 (.lst [.int 2])) l2 (.lst (ns.map D.int ++ [.int 2]))) l3 (.lst (cutD (ns.map D.int ++ [.int 2]) none (some 21))) = M0 at *
    refine ⟨cs.map .int, hR0, fun i τ M' => (∃ v1 v2 v3 v4 v5 v6 v7 v8 v9 v10, τ = [some (.rol (ns.map .int)), v1, v2, v3, v4, v5, v6, v7, v8, v9, v10]) ∧ Sub M0 M', ⟨⟨none, none, none, none, none, none, none, none, none, none, rfl⟩, Sub.refl _⟩, fun i τ M' _ hW => hW.2 _ _ hR0, ?_, ?_⟩
    · rintro i d τ M' ed ⟨⟨v1, v2, v3, v4, v5, v6, v7, v8, v9, v10, rfl⟩, hS⟩
      obtain ⟨c, rfl⟩ : ∃ c, d = .int c := by
        rw [List.getElem?_map] at ed
        cases e : cs[i]? with
        | none => rw [e] at ed; cases ed
        | some c => rw [e] at ed; cases ed; exact ⟨c, rfl⟩
      refine ⟨c, rfl, fun n hn0 hn1 => ?_⟩
      refine ⟨(by decide : (0 : Int) < 10), ?_⟩
      obtain ⟨k, hk, ek⟩ : ∃ k : Nat, k < 10 ∧ n % 10 = (k : Int) := ⟨(n % 10).toNat, by (first | lia | omega), by (first | lia | omega)⟩
      show hName 3 (D.int (n % 10)) _ _ _
      rw [ek]
      refine ⟨⟨by decide, by decide⟩, ?_⟩
      refine ⟨k, n / 10, rfl, hk, by (first | lia | omega), fun due good deed lg M1 plan s1 hlg0 hlg => ?_⟩
      obtain ⟨p1, p2, p3⟩ := plan
      refine ⟨k, rfl, hk, fun a dx lk M2 s2 ha hlk hc => ?_⟩
      have hS1 : Sub M0 M1 := hS.trans s1
      clear hS s1 hlg0
      refine ⟨a, dx, _, rfl, hc.1, cf_no lk _ (by decide +kernel) (by decide +kernel), ?_⟩
      refine ⟨a, dx, lk, openL k, rfl, hc, open_len, fun pa ss hpa hperm hsort => ?_⟩
      have hA : updM M2 pa (.lst (ss.map .str)) pa = some (.lst (ss.map .str)) := updM_same
      have s3 := s2.trans (Sub.new (o := .lst (ss.map .str)) hpa)
      have hc3 := hc.sub (Sub.new (o := .lst (ss.map .str)) hpa)
      generalize updM M2 pa (.lst (ss.map .str)) = M3 at *
      clear hc s2 hpa
      refine ⟨a, deed, due, rfl, p1, p2 M3 a dx lk hc3, fun p4 M4 s4 h4 => ?_⟩
      have s5 := s3.trans s4
      have hc5 := hc3.sub s4
      have hA5 := s4 _ _ hA
      clear s3 s4 hc3 hA
      refine ⟨⟨by decide, by decide⟩, ⟨by decide, dueF due, fun d hd p acc hp => ?_, fun lb hlb => ?_⟩⟩
      · obtain ⟨j, hj, rfl⟩ := List.mem_map.mp hd
        exact ⟨Fgt.set rfl, rfl, rfl⟩
      rw [due_map due p1]
      show ∀ l6, _ = none → _
      intro l6 hl6
      refine ⟨(duesL due).map .bl, [.bl true], Sub.new hl6 _ _ updM_same, updM_same, line1000 (by simp [duesL]), fun l7 hl7 => ?_⟩
      have s7 := ((Sub.new (o := .lst ((duesL due).map .bl)) hlb).trans (Sub.new (o := .lst [.bl true]) hl6)).trans (Sub.new (o := .lst ((duesL due).map .bl ++ [.bl true])) hl7)
      have h7 : updM (updM (updM M4 lb (.lst ((duesL due).map .bl))) l6 (.lst [.bl true])) l7 (.lst ((duesL due).map .bl ++ [.bl true])) l7 = some (.lst ((duesL due ++ [true]).map .bl)) := by rw [updM_same, List.map_append]; rfl
      generalize updM (updM (updM M4 lb (.lst ((duesL due).map .bl))) l6 (.lst [.bl true])) l7 (.lst ((duesL due).map .bl ++ [.bl true])) = M7 at *
      obtain ⟨b1, b2, b3⟩ := bls_self (duesL due ++ [true])
      refine ⟨_, _, s7 _ _ h4, h7, b1, b2, ?_⟩
      rw [b3]
      have s8 := s5.trans s7
      have hc8 := hc5.sub s7
      have hA8 := s7 _ _ hA5
      clear s5 s7 hc5 hA5 b1 b2 b3 h7 h4 hlb hl6 hl7
      refine ⟨a, dx, _, rfl, hc8.1, cf_no lk _ (by decide +kernel) (by decide +kernel), ?_⟩
      refine ⟨a, dx, lk, openL k, rfl, hc8, open_len, fun p9 ss9 hp9 hperm9 hsort9 => ?_⟩
      cases sorted_one (hperm9.trans hperm.symm) hsort9 hsort
      obtain ⟨b1, b2, b3⟩ := strs_self ss
      refine ⟨_, _, updM_same, Sub.new hp9 _ _ hA8, b1, b2, ?_⟩
      rw [b3]
      have s10 := s8.trans (Sub.new (o := .lst (ss.map .str)) hp9)
      have hc10 := hc8.sub (Sub.new (o := .lst (ss.map .str)) hp9)
      have hA10 := Sub.new (o := .lst (ss.map .str)) hp9 _ _ hA8
      generalize updM M7 p9 (.lst (ss.map .str)) = M10 at *
      clear s8 hc8 hA8 hp9 hperm9 hsort9
      refine ⟨a, dx, _, rfl, hc10.1, cf_no lk _ (by decide +kernel) (by decide +kernel), ?_⟩
      have hpw : CPow 10 9 := ⟨by decide, by decide, by decide⟩
      refine ⟨hpw, by show (0 : Int) < (10 : Int) ^ (9 : Int).toNat; decide, ?_⟩
      refine ⟨a, dx, lk, openL k, 1 + n % (10 : Int) ^ (9 : Int).toNat, rfl, hc10, open_len, fun pb rb ssb M11 s11 hb hpb hsb => ?_⟩
      cases sorted_one (hpb.trans hperm.symm) hsb hsort
      refine ⟨_, _, hb, s11 _ _ hA10, b1, b2, ?_⟩
      rw [b3]
      have s12 := s10.trans s11
      have hc12 := hc10.sub s11
      clear s10 s11 hc10 hA10 hb hpb hsb b1 b2 b3 hperm hsort
      have hsub : ∀ M' es, Sub M1 M' → Sub M1 (cabM mg M' a dx lk es) := fun M' es h => by
        unfold cabM
        exact sub_upd (sub_upd h ha) hlk
      have hal : a ≠ lk := hc12.ne
      rcases p3 with rfl | ⟨g, es1, rfl, hdep, hg, hless⟩
      · refine ⟨[], s12 _ _ hlg, fun i τ M' => (∃ v v', τ = [some (.rol (ns.map .int)), some (.int c), some (.int n), some (.int k), some (.int due), some (.ref lg), some deed, some (.ref a), some (.ref pa), v, v']) ∧ Sub M1 M', ⟨⟨_, _, rfl⟩, s12⟩, fun i τ M' _ hW => hW.2 _ _ hlg, ?_, ?_⟩
        · rintro i d τ M' ed _
          rw [List.getElem?_nil] at ed
          cases ed
        · rintro τ M' ⟨⟨v, v', rfl⟩, hS⟩
          show ∀ l, M' l = none → _
          intro l hl'
          refine ⟨[], [], Sub.new hl' _ _ (hS _ _ hlg), updM_same, rfl, Nat.zero_le _, ?_⟩
          exact ⟨⟨_, _, _, _, _, _, _, _, _, _, rfl⟩, (hS1.trans hS).trans (Sub.new hl')⟩
      · refine ⟨[g], s12 _ _ hlg, fun i τ M' => (∃ v v', τ = [some (.rol (ns.map .int)), some (.int c), some (.int n), some (.int k), some (.int due), some (.ref lg), some deed, some (.ref a), some (.ref pa), v, v']) ∧ Sub M1 M' ∧ (i = 0 → Cab mg M' a dx lk (openL k)) ∧ (i = 1 → Cab mg M' a dx lk es1), ⟨⟨_, _, rfl⟩, s12, fun _ => hc12, fun z => absurd z (by decide)⟩, fun i τ M' _ hW => hW.2.1 _ _ hlg, ?_, ?_⟩
        · rintro i d τ M' ed ⟨⟨v, v', rfl⟩, hS, hi0, _⟩
          have hi : i = 0 := by
            rcases i with _ | i
            · rfl
            · rw [List.getElem?_cons_succ, List.getElem?_nil] at ed; cases ed
          subst hi
          rw [List.getElem?_cons_zero] at ed
          cases ed
          refine do_mono (hg M' a dx lk (hi0 rfl)) ?_ (fun _ _ z => z)
          rintro d M2 rfl
          exact ⟨⟨_, _, rfl⟩, hsub _ _ hS, fun z => absurd z (by decide), fun _ => cab_cab hal⟩
        · rintro τ M' ⟨⟨v, v', rfl⟩, hS, _, hi1⟩
          have hce := hi1 rfl
          show ∀ l, M' l = none → _
          intro l hl'
          refine ⟨[g], [], Sub.new hl' _ _ (hS _ _ hlg), updM_same, rfl, hdep, ?_⟩
          have hS' := hS.trans (Sub.new (o := .lst []) hl')
          have hce' := hce.sub (Sub.new (o := .lst []) hl')
          generalize updM M' l (.lst []) = M2' at *
          refine ⟨k, deed, rfl, hk, ?_⟩
          refine do_mono (hless M2' a dx lk hce') ?_ (fun _ _ z => z)
          rintro d M9 ⟨hM9, hn4, h4⟩
          have hS9 : Sub M1 M9 := by
            rcases hM9 with rfl | ⟨es2, rfl⟩
            · exact hS'
            · exact hsub _ _ hS'
          by_cases c4 : k = 4
          · cases h4 c4
            subst c4
            refine ⟨rfl, Nat.le_of_ble_eq_true rfl, ?_⟩
            exact ⟨⟨_, _, _, _, _, _, _, _, _, _, rfl⟩, hS1.trans hS9⟩
          · cases hn4 c4
            show if (!decide ((k : Int) = 4)) = true then _ else _
            rw [decide_eq_false (show ¬ ((k : Int) = 4) by (first | lia | omega))]
            show if decide ((k : Int) = 4) = true then _ else _
            refine ifF (by (first | lia | omega)) ?_
            exact ⟨⟨_, _, _, _, _, _, _, _, _, _, rfl⟩, hS1.trans hS9⟩
    · rintro τ M' ⟨⟨v1, v2, v3, v4, v5, v6, v7, v8, v9, v10, rfl⟩, hS⟩
      exact ⟨M, hS0.trans hS, q⟩
end
theorem all_mk {l : PySem.W.OpenLaw} {w : World} {K : PySem.W.Frag} {h : Heap} {mg : Str → Option Value} {fa : Addr} (X : K.In h) (G : h.Ns mainGlobals mg) (hfa : mg "law" = some (.ref fa))
    {oC0 : Addr} {oC1 : Addr} {od0 an0 : Option Addr} {sl0 : Array (Option Value)} {oc0 kV0 dc0 pm0 cd0 ct0 : Value} {f0 : Addr} {od1 an1 : Option Addr} {sl1 : Array (Option Value)} {oc1 kV1 dc1 pm1 cd1 ct1 : Value} {f1 : Addr} {od2 an2 : Option Addr} {sl2 : Array (Option Value)} {oc2 kV2 dc2 pm2 cd2 ct2 : Value} {f2 : Addr} {od3 an3 : Option Addr} {sl3 : Array (Option Value)} {oc3 kV3 dc3 pm3 cd3 ct3 : Value} {f3 : Addr} {od4 an4 : Option Addr} {sl4 : Array (Option Value)} {oc4 kV4 dc4 pm4 cd4 ct4 : Value} {f4 : Addr} {od5 an5 : Option Addr} {sl5 : Array (Option Value)} {oc5 kV5 dc5 pm5 cd5 ct5 : Value} {f5 : Addr} {od6 an6 : Option Addr} {sl6 : Array (Option Value)} {oc6 kV6 dc6 pm6 cd6 ct6 : Value} {f6 : Addr} {od7 an7 : Option Addr} {sl7 : Array (Option Value)} {oc7 kV7 dc7 pm7 cd7 ct7 : Value} {f7 : Addr} {od8 an8 : Option Addr} {sl8 : Array (Option Value)} {oc8 kV8 dc8 pm8 cd8 ct8 : Value} {f8 : Addr} {od9 an9 : Option Addr} {sl9 : Array (Option Value)} {oc9 kV9 dc9 pm9 cd9 ct9 : Value} {f9 : Addr} {od10 an10 : Option Addr} {sl10 : Array (Option Value)} {oc10 kV10 dc10 pm10 cd10 ct10 : Value} {f10 : Addr} {od11 an11 : Option Addr} {sl11 : Array (Option Value)} {oc11 kV11 dc11 pm11 cd11 ct11 : Value} {f11 : Addr} {od12 an12 : Option Addr} {sl12 : Array (Option Value)} {oc12 kV12 dc12 pm12 cd12 ct12 : Value} {f12 : Addr} {od13 an13 : Option Addr} {sl13 : Array (Option Value)} {oc13 kV13 dc13 pm13 cd13 ct13 : Value} {f13 : Addr} {od14 an14 : Option Addr} {sl14 : Array (Option Value)} {oc14 kV14 dc14 pm14 cd14 ct14 : Value} {f14 : Addr} {od15 an15 : Option Addr} {sl15 : Array (Option Value)} {oc15 kV15 dc15 pm15 cd15 ct15 : Value} {f15 : Addr} {od16 an16 : Option Addr} {sl16 : Array (Option Value)} {oc16 kV16 dc16 pm16 cd16 ct16 : Value} {f16 : Addr} {od17 an17 : Option Addr} {sl17 : Array (Option Value)} {oc17 kV17 dc17 pm17 cd17 ct17 : Value} {f17 : Addr} {od18 an18 : Option Addr} {sl18 : Array (Option Value)} {oc18 kV18 dc18 pm18 cd18 ct18 : Value} {f18 : Addr} {od19 an19 : Option Addr} {sl19 : Array (Option Value)} {oc19 kV19 dc19 pm19 cd19 ct19 : Value} {f19 : Addr} {od20 an20 : Option Addr} {sl20 : Array (Option Value)} {oc20 kV20 dc20 pm20 cd20 ct20 : Value} {f20 : Addr} {od21 an21 : Option Addr} {sl21 : Array (Option Value)} {oc21 kV21 dc21 pm21 cd21 ct21 : Value} {f21 : Addr} {od22 an22 : Option Addr} {sl22 : Array (Option Value)} {oc22 kV22 dc22 pm22 cd22 ct22 : Value} {f22 : Addr} {od23 an23 : Option Addr} {sl23 : Array (Option Value)} {oc23 kV23 dc23 pm23 cd23 ct23 : Value} {f23 : Addr} {od24 an24 : Option Addr} {sl24 : Array (Option Value)} {oc24 kV24 dc24 pm24 cd24 ct24 : Value} {f24 : Addr} {od25 an25 : Option Addr} {sl25 : Array (Option Value)} {oc25 kV25 dc25 pm25 cd25 ct25 : Value} {f25 : Addr} {od26 an26 : Option Addr} {sl26 : Array (Option Value)} {oc26 kV26 dc26 pm26 cd26 ct26 : Value} {f26 : Addr} {od27 an27 : Option Addr} {sl27 : Array (Option Value)} {oc27 kV27 dc27 pm27 cd27 ct27 : Value} {f27 : Addr} {od28 an28 : Option Addr} {sl28 : Array (Option Value)} {oc28 kV28 dc28 pm28 cd28 ct28 : Value} {f28 : Addr} {od29 an29 : Option Addr} {sl29 : Array (Option Value)} {oc29 kV29 dc29 pm29 cd29 ct29 : Value} {f29 : Addr} {od30 an30 : Option Addr} {sl30 : Array (Option Value)} {oc30 kV30 dc30 pm30 cd30 ct30 : Value} {f30 : Addr} {od31 an31 : Option Addr} {sl31 : Array (Option Value)} {oc31 kV31 dc31 pm31 cd31 ct31 : Value} {f31 : Addr} {od32 an32 : Option Addr} {sl32 : Array (Option Value)} {oc32 kV32 dc32 pm32 cd32 ct32 : Value} {f32 : Addr} {od33 an33 : Option Addr} {sl33 : Array (Option Value)} {oc33 kV33 dc33 pm33 cd33 ct33 : Value} {f33 : Addr} {od34 an34 : Option Addr} {sl34 : Array (Option Value)} {oc34 kV34 dc34 pm34 cd34 ct34 : Value} {f34 : Addr} {od35 an35 : Option Addr} {sl35 : Array (Option Value)} {oc35 kV35 dc35 pm35 cd35 ct35 : Value} {f35 : Addr} {od36 an36 : Option Addr} {sl36 : Array (Option Value)} {oc36 kV36 dc36 pm36 cd36 ct36 : Value} {f36 : Addr} {od37 an37 : Option Addr} {sl37 : Array (Option Value)} {oc37 kV37 dc37 pm37 cd37 ct37 : Value} {f37 : Addr} {od38 an38 : Option Addr} {sl38 : Array (Option Value)} {oc38 kV38 dc38 pm38 cd38 ct38 : Value} {f38 : Addr} {od39 an39 : Option Addr} {sl39 : Array (Option Value)} {oc39 kV39 dc39 pm39 cd39 ct39 : Value} {f39 : Addr} {od40 an40 : Option Addr} {sl40 : Array (Option Value)} {oc40 kV40 dc40 pm40 cd40 ct40 : Value} {f40 : Addr} {od41 an41 : Option Addr} {sl41 : Array (Option Value)} {oc41 kV41 dc41 pm41 cd41 ct41 : Value} {f41 : Addr} {od42 an42 : Option Addr} {sl42 : Array (Option Value)} {oc42 kV42 dc42 pm42 cd42 ct42 : Value} {f42 : Addr} {od43 an43 : Option Addr} {sl43 : Array (Option Value)} {oc43 kV43 dc43 pm43 cd43 ct43 : Value} {f43 : Addr} {od44 an44 : Option Addr} {sl44 : Array (Option Value)} {oc44 kV44 dc44 pm44 cd44 ct44 : Value} {f44 : Addr} {od45 an45 : Option Addr} {sl45 : Array (Option Value)} {oc45 kV45 dc45 pm45 cd45 ct45 : Value} {f45 : Addr} {od46 an46 : Option Addr} {sl46 : Array (Option Value)} {oc46 kV46 dc46 pm46 cd46 ct46 : Value} {f46 : Addr} {od47 an47 : Option Addr} {sl47 : Array (Option Value)} {oc47 kV47 dc47 pm47 cd47 ct47 : Value} {f47 : Addr} {od48 an48 : Option Addr} {sl48 : Array (Option Value)} {oc48 kV48 dc48 pm48 cd48 ct48 : Value} {f48 : Addr} {od49 an49 : Option Addr} {sl49 : Array (Option Value)} {oc49 kV49 dc49 pm49 cd49 ct49 : Value} {f49 : Addr} {od50 an50 : Option Addr} {sl50 : Array (Option Value)} {oc50 kV50 dc50 pm50 cd50 ct50 : Value} {f50 : Addr} {od51 an51 : Option Addr} {sl51 : Array (Option Value)} {oc51 kV51 dc51 pm51 cd51 ct51 : Value} {f51 : Addr} {od52 an52 : Option Addr} {sl52 : Array (Option Value)} {oc52 kV52 dc52 pm52 cd52 ct52 : Value} {f52 : Addr} {od53 an53 : Option Addr} {sl53 : Array (Option Value)} {oc53 kV53 dc53 pm53 cd53 ct53 : Value} {f53 : Addr} {od54 an54 : Option Addr} {sl54 : Array (Option Value)} {oc54 kV54 dc54 pm54 cd54 ct54 : Value} {f54 : Addr} {od55 an55 : Option Addr} {sl55 : Array (Option Value)} {oc55 kV55 dc55 pm55 cd55 ct55 : Value} {f55 : Addr} {od56 an56 : Option Addr} {sl56 : Array (Option Value)} {oc56 kV56 dc56 pm56 cd56 ct56 : Value} {f56 : Addr} {od57 an57 : Option Addr} {sl57 : Array (Option Value)} {oc57 kV57 dc57 pm57 cd57 ct57 : Value} {f57 : Addr} {od58 an58 : Option Addr} {sl58 : Array (Option Value)} {oc58 kV58 dc58 pm58 cd58 ct58 : Value} {f58 : Addr} {od59 an59 : Option Addr} {sl59 : Array (Option Value)} {oc59 kV59 dc59 pm59 cd59 ct59 : Value} {f59 : Addr} {od60 an60 : Option Addr} {sl60 : Array (Option Value)} {oc60 kV60 dc60 pm60 cd60 ct60 : Value} {f60 : Addr} {od61 an61 : Option Addr} {sl61 : Array (Option Value)} {oc61 kV61 dc61 pm61 cd61 ct61 : Value} {f61 : Addr} {od62 an62 : Option Addr} {sl62 : Array (Option Value)} {oc62 kV62 dc62 pm62 cd62 ct62 : Value} {f62 : Addr} {od63 an63 : Option Addr} {sl63 : Array (Option Value)} {oc63 kV63 dc63 pm63 cd63 ct63 : Value} {f63 : Addr} {od64 an64 : Option Addr} {sl64 : Array (Option Value)} {oc64 kV64 dc64 pm64 cd64 ct64 : Value} {f64 : Addr} {od65 an65 : Option Addr} {sl65 : Array (Option Value)} {oc65 kV65 dc65 pm65 cd65 ct65 : Value} {f65 : Addr} {tk0 : Tok} {tk1 : Tok} {tk2 : Tok} {tk3 : Tok} {xa0 xa1 xa2 xa3 xa4 xa5 xa6 xa7 : Addr}
    (ka0 : PySem.W.nsIn K mainGlobals "Ties" = some (some (.ref oC0))) (kb0 : PySem.W.plainGet K oC0 Str.empty = true) (kc0 : PySem.W.hasDictIn K oC0 = true) (kd0 : PySem.W.plainOver K oC0 = true) (ke0 : PySem.W.findIn K (.ref oC0) "__setattr__" = some (some (.builtin "object.__setattr__"))) (kf0 : PySem.W.makesIn K oC0 = true) (kg0 : PySem.W.keepIn K (.ref oC0) = true)
    (kh0_0 : PySem.W.findIn K (.ref oC0) "links" = some none)
    (kh0_1 : PySem.W.findIn K (.ref oC0) "steps" = some none)
    (ka1 : PySem.W.nsIn K mainGlobals "Cabinet" = some (some (.ref oC1))) (kb1 : PySem.W.plainGet K oC1 Str.empty = true) (kc1 : PySem.W.hasDictIn K oC1 = true) (kd1 : PySem.W.plainOver K oC1 = true) (ke1 : PySem.W.findIn K (.ref oC1) "__setattr__" = some (some (.builtin "object.__setattr__"))) (kf1 : PySem.W.makesIn K oC1 = true) (kg1 : PySem.W.keepIn K (.ref oC1) = true)
    (kh1_0 : PySem.W.findIn K (.ref oC1) "kept" = some none)
    (kh1_1 : PySem.W.findIn K (.ref oC1) "top" = some none)
    (a0 : PySem.W.nsIn K mainGlobals "_wall" = some (some (.ref f0))) (l0 : K.lookup f0 = some ⟨oc0, od0, .func (PySem.W.fnOf "_wall" "_wall" (defArgs s__wall) (defBody s__wall) (defScope s__wall) .none kV0 dc0 pm0 an0 cd0 ct0), sl0⟩) (c0 : PySem.W.codeIn K cd0 "_wall" = true) (k0 : PySem.W.keepIn K (.ref f0) = true)
    (a1 : PySem.W.nsIn K mainGlobals "is_letter" = some (some (.ref f1))) (l1 : K.lookup f1 = some ⟨oc1, od1, .func (PySem.W.fnOf "is_letter" "is_letter" (defArgs s_is_letter) (defBody s_is_letter) (defScope s_is_letter) .none kV1 dc1 pm1 an1 cd1 ct1), sl1⟩) (c1 : PySem.W.codeIn K cd1 "is_letter" = true) (k1 : PySem.W.keepIn K (.ref f1) = true)
    (a2 : PySem.W.nsIn K mainGlobals "is_figure" = some (some (.ref f2))) (l2 : K.lookup f2 = some ⟨oc2, od2, .func (PySem.W.fnOf "is_figure" "is_figure" (defArgs s_is_figure) (defBody s_is_figure) (defScope s_is_figure) .none kV2 dc2 pm2 an2 cd2 ct2), sl2⟩) (c2 : PySem.W.codeIn K cd2 "is_figure" = true) (k2 : PySem.W.keepIn K (.ref f2) = true)
    (a3 : PySem.W.nsIn K mainGlobals "is_name" = some (some (.ref f3))) (l3 : K.lookup f3 = some ⟨oc3, od3, .func (PySem.W.fnOf "is_name" "is_name" (defArgs s_is_name) (defBody s_is_name) (defScope s_is_name) .none kV3 dc3 pm3 an3 cd3 ct3), sl3⟩) (c3 : PySem.W.codeIn K cd3 "is_name" = true) (k3 : PySem.W.keepIn K (.ref f3) = true)
    (a4 : PySem.W.nsIn K mainGlobals "parts_of" = some (some (.ref f4))) (l4 : K.lookup f4 = some ⟨oc4, od4, .func (PySem.W.fnOf "parts_of" "parts_of" (defArgs s_parts_of) (defBody s_parts_of) (defScope s_parts_of) .none kV4 dc4 pm4 an4 cd4 ct4), sl4⟩) (c4 : PySem.W.codeIn K cd4 "parts_of" = true) (k4 : PySem.W.keepIn K (.ref f4) = true)
    (a5 : PySem.W.nsIn K mainGlobals "knots_of" = some (some (.ref f5))) (l5 : K.lookup f5 = some ⟨oc5, od5, .func (PySem.W.fnOf "knots_of" "knots_of" (defArgs s_knots_of) (defBody s_knots_of) (defScope s_knots_of) .none kV5 dc5 pm5 an5 cd5 ct5), sl5⟩) (c5 : PySem.W.codeIn K cd5 "knots_of" = true) (k5 : PySem.W.keepIn K (.ref f5) = true)
    (a6 : PySem.W.nsIn K mainGlobals "depth_of" = some (some (.ref f6))) (l6 : K.lookup f6 = some ⟨oc6, od6, .func (PySem.W.fnOf "depth_of" "depth_of" (defArgs s_depth_of) (defBody s_depth_of) (defScope s_depth_of) .none kV6 dc6 pm6 an6 cd6 ct6), sl6⟩) (c6 : PySem.W.codeIn K cd6 "depth_of" = true) (k6 : PySem.W.keepIn K (.ref f6) = true)
    (a7 : PySem.W.nsIn K mainGlobals "gather_blanks" = some (some (.ref f7))) (l7 : K.lookup f7 = some ⟨oc7, od7, .func (PySem.W.fnOf "gather_blanks" "gather_blanks" (defArgs s_gather_blanks) (defBody s_gather_blanks) (defScope s_gather_blanks) .none kV7 dc7 pm7 an7 cd7 ct7), sl7⟩) (c7 : PySem.W.codeIn K cd7 "gather_blanks" = true) (k7 : PySem.W.keepIn K (.ref f7) = true)
    (a8 : PySem.W.nsIn K mainGlobals "blanks_of" = some (some (.ref f8))) (l8 : K.lookup f8 = some ⟨oc8, od8, .func (PySem.W.fnOf "blanks_of" "blanks_of" (defArgs s_blanks_of) (defBody s_blanks_of) (defScope s_blanks_of) .none kV8 dc8 pm8 an8 cd8 ct8), sl8⟩) (c8 : PySem.W.codeIn K cd8 "blanks_of" = true) (k8 : PySem.W.keepIn K (.ref f8) = true)
    (a9 : PySem.W.nsIn K mainGlobals "numbered_part" = some (some (.ref f9))) (l9 : K.lookup f9 = some ⟨oc9, od9, .func (PySem.W.fnOf "numbered_part" "numbered_part" (defArgs s_numbered_part) (defBody s_numbered_part) (defScope s_numbered_part) .none kV9 dc9 pm9 an9 cd9 ct9), sl9⟩) (c9 : PySem.W.codeIn K cd9 "numbered_part" = true) (k9 : PySem.W.keepIn K (.ref f9) = true)
    (a10 : PySem.W.nsIn K mainGlobals "put_at" = some (some (.ref f10))) (l10 : K.lookup f10 = some ⟨oc10, od10, .func (PySem.W.fnOf "put_at" "put_at" (defArgs s_put_at) (defBody s_put_at) (defScope s_put_at) .none kV10 dc10 pm10 an10 cd10 ct10), sl10⟩) (c10 : PySem.W.codeIn K cd10 "put_at" = true) (k10 : PySem.W.keepIn K (.ref f10) = true)
    (a11 : PySem.W.nsIn K mainGlobals "same_head" = some (some (.ref f11))) (l11 : K.lookup f11 = some ⟨oc11, od11, .func (PySem.W.fnOf "same_head" "same_head" (defArgs s_same_head) (defBody s_same_head) (defScope s_same_head) .none kV11 dc11 pm11 an11 cd11 ct11), sl11⟩) (c11 : PySem.W.codeIn K cd11 "same_head" = true) (k11 : PySem.W.keepIn K (.ref f11) = true)
    (a12 : PySem.W.nsIn K mainGlobals "blank_clash" = some (some (.ref f12))) (l12 : K.lookup f12 = some ⟨oc12, od12, .func (PySem.W.fnOf "blank_clash" "blank_clash" (defArgs s_blank_clash) (defBody s_blank_clash) (defScope s_blank_clash) .none kV12 dc12 pm12 an12 cd12 ct12), sl12⟩) (c12 : PySem.W.codeIn K cd12 "blank_clash" = true) (k12 : PySem.W.keepIn K (.ref f12) = true)
    (a13 : PySem.W.nsIn K mainGlobals "clash_from" = some (some (.ref f13))) (l13 : K.lookup f13 = some ⟨oc13, od13, .func (PySem.W.fnOf "clash_from" "clash_from" (defArgs s_clash_from) (defBody s_clash_from) (defScope s_clash_from) .none kV13 dc13 pm13 an13 cd13 ct13), sl13⟩) (c13 : PySem.W.codeIn K cd13 "clash_from" = true) (k13 : PySem.W.keepIn K (.ref f13) = true)
    (a14 : PySem.W.nsIn K mainGlobals "first_clash" = some (some (.ref f14))) (l14 : K.lookup f14 = some ⟨oc14, od14, .func (PySem.W.fnOf "first_clash" "first_clash" (defArgs s_first_clash) (defBody s_first_clash) (defScope s_first_clash) .none kV14 dc14 pm14 an14 cd14 ct14), sl14⟩) (c14 : PySem.W.codeIn K cd14 "first_clash" = true) (k14 : PySem.W.keepIn K (.ref f14) = true)
    (a15 : PySem.W.nsIn K mainGlobals "fitting" = some (some (.ref f15))) (l15 : K.lookup f15 = some ⟨oc15, od15, .func (PySem.W.fnOf "fitting" "fitting" (defArgs s_fitting) (defBody s_fitting) (defScope s_fitting) .none kV15 dc15 pm15 an15 cd15 ct15), sl15⟩) (c15 : PySem.W.codeIn K cd15 "fitting" = true) (k15 : PySem.W.keepIn K (.ref f15) = true)
    (a16 : PySem.W.nsIn K mainGlobals "common" = some (some (.ref f16))) (l16 : K.lookup f16 = some ⟨oc16, od16, .func (PySem.W.fnOf "common" "common" (defArgs s_common) (defBody s_common) (defScope s_common) .none kV16 dc16 pm16 an16 cd16 ct16), sl16⟩) (c16 : PySem.W.codeIn K cd16 "common" = true) (k16 : PySem.W.keepIn K (.ref f16) = true)
    (a17 : PySem.W.nsIn K mainGlobals "filling_of" = some (some (.ref f17))) (l17 : K.lookup f17 = some ⟨oc17, od17, .func (PySem.W.fnOf "filling_of" "filling_of" (defArgs s_filling_of) (defBody s_filling_of) (defScope s_filling_of) .none kV17 dc17 pm17 an17 cd17 ct17), sl17⟩) (c17 : PySem.W.codeIn K cd17 "filling_of" = true) (k17 : PySem.W.keepIn K (.ref f17) = true)
    (a18 : PySem.W.nsIn K mainGlobals "nearest_of" = some (some (.ref f18))) (l18 : K.lookup f18 = some ⟨oc18, od18, .func (PySem.W.fnOf "nearest_of" "nearest_of" (defArgs s_nearest_of) (defBody s_nearest_of) (defScope s_nearest_of) .none kV18 dc18 pm18 an18 cd18 ct18), sl18⟩) (c18 : PySem.W.codeIn K cd18 "nearest_of" = true) (k18 : PySem.W.keepIn K (.ref f18) = true)
    (a19 : PySem.W.nsIn K mainGlobals "nearest" = some (some (.ref f19))) (l19 : K.lookup f19 = some ⟨oc19, od19, .func (PySem.W.fnOf "nearest" "nearest" (defArgs s_nearest) (defBody s_nearest) (defScope s_nearest) .none kV19 dc19 pm19 an19 cd19 ct19), sl19⟩) (c19 : PySem.W.codeIn K cd19 "nearest" = true) (k19 : PySem.W.keepIn K (.ref f19) = true)
    (a20 : PySem.W.nsIn K mainGlobals "form_over" = some (some (.ref f20))) (l20 : K.lookup f20 = some ⟨oc20, od20, .func (PySem.W.fnOf "form_over" "form_over" (defArgs s_form_over) (defBody s_form_over) (defScope s_form_over) .none kV20 dc20 pm20 an20 cd20 ct20), sl20⟩) (c20 : PySem.W.codeIn K cd20 "form_over" = true) (k20 : PySem.W.keepIn K (.ref f20) = true)
    (a21 : PySem.W.nsIn K mainGlobals "knot_over" = some (some (.ref f21))) (l21 : K.lookup f21 = some ⟨oc21, od21, .func (PySem.W.fnOf "knot_over" "knot_over" (defArgs s_knot_over) (defBody s_knot_over) (defScope s_knot_over) .none kV21 dc21 pm21 an21 cd21 ct21), sl21⟩) (c21 : PySem.W.codeIn K cd21 "knot_over" = true) (k21 : PySem.W.keepIn K (.ref f21) = true)
    (a22 : PySem.W.nsIn K mainGlobals "names_under" = some (some (.ref f22))) (l22 : K.lookup f22 = some ⟨oc22, od22, .func (PySem.W.fnOf "names_under" "names_under" (defArgs s_names_under) (defBody s_names_under) (defScope s_names_under) .none kV22 dc22 pm22 an22 cd22 ct22), sl22⟩) (c22 : PySem.W.codeIn K cd22 "names_under" = true) (k22 : PySem.W.keepIn K (.ref f22) = true)
    (a23 : PySem.W.nsIn K mainGlobals "weight_of" = some (some (.ref f23))) (l23 : K.lookup f23 = some ⟨oc23, od23, .func (PySem.W.fnOf "weight_of" "weight_of" (defArgs s_weight_of) (defBody s_weight_of) (defScope s_weight_of) .none kV23 dc23 pm23 an23 cd23 ct23), sl23⟩) (c23 : PySem.W.codeIn K cd23 "weight_of" = true) (k23 : PySem.W.keepIn K (.ref f23) = true)
    (a24 : PySem.W.nsIn K mainGlobals "with_leaf" = some (some (.ref f24))) (l24 : K.lookup f24 = some ⟨oc24, od24, .func (PySem.W.fnOf "with_leaf" "with_leaf" (defArgs s_with_leaf) (defBody s_with_leaf) (defScope s_with_leaf) .none kV24 dc24 pm24 an24 cd24 ct24), sl24⟩) (c24 : PySem.W.codeIn K cd24 "with_leaf" = true) (k24 : PySem.W.keepIn K (.ref f24) = true)
    (a25 : PySem.W.nsIn K mainGlobals "without_name" = some (some (.ref f25))) (l25 : K.lookup f25 = some ⟨oc25, od25, .func (PySem.W.fnOf "without_name" "without_name" (defArgs s_without_name) (defBody s_without_name) (defScope s_without_name) .none kV25 dc25 pm25 an25 cd25 ct25), sl25⟩) (c25 : PySem.W.codeIn K cd25 "without_name" = true) (k25 : PySem.W.keepIn K (.ref f25) = true)
    (a26 : PySem.W.nsIn K mainGlobals "told_bough" = some (some (.ref f26))) (l26 : K.lookup f26 = some ⟨oc26, od26, .func (PySem.W.fnOf "told_bough" "told_bough" (defArgs s_told_bough) (defBody s_told_bough) (defScope s_told_bough) .none kV26 dc26 pm26 an26 cd26 ct26), sl26⟩) (c26 : PySem.W.codeIn K cd26 "told_bough" = true) (k26 : PySem.W.keepIn K (.ref f26) = true)
    (a27 : PySem.W.nsIn K mainGlobals "exchanged" = some (some (.ref f27))) (l27 : K.lookup f27 = some ⟨oc27, od27, .func (PySem.W.fnOf "exchanged" "exchanged" (defArgs s_exchanged) (defBody s_exchanged) (defScope s_exchanged) .none kV27 dc27 pm27 an27 cd27 ct27), sl27⟩) (c27 : PySem.W.codeIn K cd27 "exchanged" = true) (k27 : PySem.W.keepIn K (.ref f27) = true)
    (a28 : PySem.W.nsIn K mainGlobals "apart" = some (some (.ref f28))) (l28 : K.lookup f28 = some ⟨oc28, od28, .func (PySem.W.fnOf "apart" "apart" (defArgs s_apart) (defBody s_apart) (defScope s_apart) .none kV28 dc28 pm28 an28 cd28 ct28), sl28⟩) (c28 : PySem.W.codeIn K cd28 "apart" = true) (k28 : PySem.W.keepIn K (.ref f28) = true)
    (a29 : PySem.W.nsIn K mainGlobals "unlike_blocks" = some (some (.ref f29))) (l29 : K.lookup f29 = some ⟨oc29, od29, .func (PySem.W.fnOf "unlike_blocks" "unlike_blocks" (defArgs s_unlike_blocks) (defBody s_unlike_blocks) (defScope s_unlike_blocks) .none kV29 dc29 pm29 an29 cd29 ct29), sl29⟩) (c29 : PySem.W.codeIn K cd29 "unlike_blocks" = true) (k29 : PySem.W.keepIn K (.ref f29) = true)
    (a30 : PySem.W.nsIn K mainGlobals "blanks_within" = some (some (.ref f30))) (l30 : K.lookup f30 = some ⟨oc30, od30, .func (PySem.W.fnOf "blanks_within" "blanks_within" (defArgs s_blanks_within) (defBody s_blanks_within) (defScope s_blanks_within) .none kV30 dc30 pm30 an30 cd30 ct30), sl30⟩) (c30 : PySem.W.codeIn K cd30 "blanks_within" = true) (k30 : PySem.W.keepIn K (.ref f30) = true)
    (a31 : PySem.W.nsIn K mainGlobals "arranged" = some (some (.ref f31))) (l31 : K.lookup f31 = some ⟨oc31, od31, .func (PySem.W.fnOf "arranged" "arranged" (defArgs s_arranged) (defBody s_arranged) (defScope s_arranged) .none kV31 dc31 pm31 an31 cd31 ct31), sl31⟩) (c31 : PySem.W.codeIn K cd31 "arranged" = true) (k31 : PySem.W.keepIn K (.ref f31) = true)
    (a32 : PySem.W.nsIn K mainGlobals "settled" = some (some (.ref f32))) (l32 : K.lookup f32 = some ⟨oc32, od32, .func (PySem.W.fnOf "settled" "settled" (defArgs s_settled) (defBody s_settled) (defScope s_settled) .none kV32 dc32 pm32 an32 cd32 ct32), sl32⟩) (c32 : PySem.W.codeIn K cd32 "settled" = true) (k32 : PySem.W.keepIn K (.ref f32) = true)
    (a33 : PySem.W.nsIn K mainGlobals "barring_paper" = some (some (.ref f33))) (l33 : K.lookup f33 = some ⟨oc33, od33, .func (PySem.W.fnOf "barring_paper" "barring_paper" (defArgs s_barring_paper) (defBody s_barring_paper) (defScope s_barring_paper) .none kV33 dc33 pm33 an33 cd33 ct33), sl33⟩) (c33 : PySem.W.codeIn K cd33 "barring_paper" = true) (k33 : PySem.W.keepIn K (.ref f33) = true)
    (a34 : PySem.W.nsIn K mainGlobals "barred_row" = some (some (.ref f34))) (l34 : K.lookup f34 = some ⟨oc34, od34, .func (PySem.W.fnOf "barred_row" "barred_row" (defArgs s_barred_row) (defBody s_barred_row) (defScope s_barred_row) .none kV34 dc34 pm34 an34 cd34 ct34), sl34⟩) (c34 : PySem.W.codeIn K cd34 "barred_row" = true) (k34 : PySem.W.keepIn K (.ref f34) = true)
    (a35 : PySem.W.nsIn K mainGlobals "row_below" = some (some (.ref f35))) (l35 : K.lookup f35 = some ⟨oc35, od35, .func (PySem.W.fnOf "row_below" "row_below" (defArgs s_row_below) (defBody s_row_below) (defScope s_row_below) .none kV35 dc35 pm35 an35 cd35 ct35), sl35⟩) (c35 : PySem.W.codeIn K cd35 "row_below" = true) (k35 : PySem.W.keepIn K (.ref f35) = true)
    (a36 : PySem.W.nsIn K mainGlobals "row_above" = some (some (.ref f36))) (l36 : K.lookup f36 = some ⟨oc36, od36, .func (PySem.W.fnOf "row_above" "row_above" (defArgs s_row_above) (defBody s_row_above) (defScope s_row_above) .none kV36 dc36 pm36 an36 cd36 ct36), sl36⟩) (c36 : PySem.W.codeIn K cd36 "row_above" = true) (k36 : PySem.W.keepIn K (.ref f36) = true)
    (a37 : PySem.W.nsIn K mainGlobals "gather_rows" = some (some (.ref f37))) (l37 : K.lookup f37 = some ⟨oc37, od37, .func (PySem.W.fnOf "gather_rows" "gather_rows" (defArgs s_gather_rows) (defBody s_gather_rows) (defScope s_gather_rows) .none kV37 dc37 pm37 an37 cd37 ct37), sl37⟩) (c37 : PySem.W.codeIn K cd37 "gather_rows" = true) (k37 : PySem.W.keepIn K (.ref f37) = true)
    (a38 : PySem.W.nsIn K mainGlobals "answers_in" = some (some (.ref f38))) (l38 : K.lookup f38 = some ⟨oc38, od38, .func (PySem.W.fnOf "answers_in" "answers_in" (defArgs s_answers_in) (defBody s_answers_in) (defScope s_answers_in) .none kV38 dc38 pm38 an38 cd38 ct38), sl38⟩) (c38 : PySem.W.codeIn K cd38 "answers_in" = true) (k38 : PySem.W.keepIn K (.ref f38) = true)
    (a39 : PySem.W.nsIn K mainGlobals "_law_mixed" = some (some (.ref f39))) (l39 : K.lookup f39 = some ⟨oc39, od39, .func (PySem.W.fnOf "_law_mixed" "_law_mixed" (defArgs s__law_mixed) (defBody s__law_mixed) (defScope s__law_mixed) .none kV39 dc39 pm39 an39 cd39 ct39), sl39⟩) (c39 : PySem.W.codeIn K cd39 "_law_mixed" = true) (k39 : PySem.W.keepIn K (.ref f39) = true)
    (a40 : PySem.W.nsIn K mainGlobals "_law_of_knots" = some (some (.ref f40))) (l40 : K.lookup f40 = some ⟨oc40, od40, .func (PySem.W.fnOf "_law_of_knots" "_law_of_knots" (defArgs s__law_of_knots) (defBody s__law_of_knots) (defScope s__law_of_knots) .none kV40 dc40 pm40 an40 cd40 ct40), sl40⟩) (c40 : PySem.W.codeIn K cd40 "_law_of_knots" = true) (k40 : PySem.W.keepIn K (.ref f40) = true)
    (a41 : PySem.W.nsIn K mainGlobals "_law_chain" = some (some (.ref f41))) (l41 : K.lookup f41 = some ⟨oc41, od41, .func (PySem.W.fnOf "_law_chain" "_law_chain" (defArgs s__law_chain) (defBody s__law_chain) (defScope s__law_chain) .none kV41 dc41 pm41 an41 cd41 ct41), sl41⟩) (c41 : PySem.W.codeIn K cd41 "_law_chain" = true) (k41 : PySem.W.keepIn K (.ref f41) = true)
    (a42 : PySem.W.nsIn K mainGlobals "_law_do" = some (some (.ref f42))) (l42 : K.lookup f42 = some ⟨oc42, od42, .func (PySem.W.fnOf "_law_do" "_law_do" (defArgs s__law_do) (defBody s__law_do) (defScope s__law_do) .none kV42 dc42 pm42 an42 cd42 ct42), sl42⟩) (c42 : PySem.W.codeIn K cd42 "_law_do" = true) (k42 : PySem.W.keepIn K (.ref f42) = true)
    (a43 : PySem.W.nsIn K mainGlobals "_law_refused" = some (some (.ref f43))) (l43 : K.lookup f43 = some ⟨oc43, od43, .func (PySem.W.fnOf "_law_refused" "_law_refused" (defArgs s__law_refused) (defBody s__law_refused) (defScope s__law_refused) .none kV43 dc43 pm43 an43 cd43 ct43), sl43⟩) (c43 : PySem.W.codeIn K cd43 "_law_refused" = true) (k43 : PySem.W.keepIn K (.ref f43) = true)
    (a44 : PySem.W.nsIn K mainGlobals "_law_case" = some (some (.ref f44))) (l44 : K.lookup f44 = some ⟨oc44, od44, .func (PySem.W.fnOf "_law_case" "_law_case" (defArgs s__law_case) (defBody s__law_case) (defScope s__law_case) .none kV44 dc44 pm44 an44 cd44 ct44), sl44⟩) (c44 : PySem.W.codeIn K cd44 "_law_case" = true) (k44 : PySem.W.keepIn K (.ref f44) = true)
    (a45 : PySem.W.nsIn K mainGlobals "_law_opened" = some (some (.ref f45))) (l45 : K.lookup f45 = some ⟨oc45, od45, .func (PySem.W.fnOf "_law_opened" "_law_opened" (defArgs s__law_opened) (defBody s__law_opened) (defScope s__law_opened) .none kV45 dc45 pm45 an45 cd45 ct45), sl45⟩) (c45 : PySem.W.codeIn K cd45 "_law_opened" = true) (k45 : PySem.W.keepIn K (.ref f45) = true)
    (a46 : PySem.W.nsIn K mainGlobals "_law_less" = some (some (.ref f46))) (l46 : K.lookup f46 = some ⟨oc46, od46, .func (PySem.W.fnOf "_law_less" "_law_less" (defArgs s__law_less) (defBody s__law_less) (defScope s__law_less) .none kV46 dc46 pm46 an46 cd46 ct46), sl46⟩) (c46 : PySem.W.codeIn K cd46 "_law_less" = true) (k46 : PySem.W.keepIn K (.ref f46) = true)
    (a47 : PySem.W.nsIn K mainGlobals "law" = some (some (.ref f47))) (l47 : K.lookup f47 = some ⟨oc47, od47, .func (PySem.W.fnOf "law" "law" (defArgs s_law) (defBody s_law) (defScope s_law) .none kV47 dc47 pm47 an47 cd47 ct47), sl47⟩) (c47 : PySem.W.codeIn K cd47 "law" = true) (k47 : PySem.W.keepIn K (.ref f47) = true)
    (a48 : PySem.W.findIn K (.ref oC0) "__init__" = some (some (.ref f48))) (i48 : PySem.W.isFn K (.ref f48) = true) (l48 : K.lookup f48 = some ⟨oc48, od48, .func (PySem.W.fnOf "__init__" "Ties.__init__" (defArgs s_Ties___init__) (defBody s_Ties___init__) (defScope s_Ties___init__) .none kV48 dc48 pm48 an48 cd48 ct48), sl48⟩) (c48 : PySem.W.codeIn K cd48 "Ties.__init__" = true) (k48 : PySem.W.keepIn K (.ref f48) = true)
    (a49 : PySem.W.findIn K (.ref oC0) "noted" = some (some (.ref f49))) (i49 : PySem.W.isFn K (.ref f49) = true) (l49 : K.lookup f49 = some ⟨oc49, od49, .func (PySem.W.fnOf "noted" "Ties.noted" (defArgs s_Ties_noted) (defBody s_Ties_noted) (defScope s_Ties_noted) .none kV49 dc49 pm49 an49 cd49 ct49), sl49⟩) (c49 : PySem.W.codeIn K cd49 "Ties.noted" = true) (k49 : PySem.W.keepIn K (.ref f49) = true)
    (a50 : PySem.W.findIn K (.ref oC0) "turned" = some (some (.ref f50))) (i50 : PySem.W.isFn K (.ref f50) = true) (l50 : K.lookup f50 = some ⟨oc50, od50, .func (PySem.W.fnOf "turned" "Ties.turned" (defArgs s_Ties_turned) (defBody s_Ties_turned) (defScope s_Ties_turned) .none kV50 dc50 pm50 an50 cd50 ct50), sl50⟩) (c50 : PySem.W.codeIn K cd50 "Ties.turned" = true) (k50 : PySem.W.keepIn K (.ref f50) = true)
    (a51 : PySem.W.findIn K (.ref oC0) "linked" = some (some (.ref f51))) (i51 : PySem.W.isFn K (.ref f51) = true) (l51 : K.lookup f51 = some ⟨oc51, od51, .func (PySem.W.fnOf "linked" "Ties.linked" (defArgs s_Ties_linked) (defBody s_Ties_linked) (defScope s_Ties_linked) .none kV51 dc51 pm51 an51 cd51 ct51), sl51⟩) (c51 : PySem.W.codeIn K cd51 "Ties.linked" = true) (k51 : PySem.W.keepIn K (.ref f51) = true)
    (a52 : PySem.W.findIn K (.ref oC0) "root_of" = some (some (.ref f52))) (i52 : PySem.W.isFn K (.ref f52) = true) (l52 : K.lookup f52 = some ⟨oc52, od52, .func (PySem.W.fnOf "root_of" "Ties.root_of" (defArgs s_Ties_root_of) (defBody s_Ties_root_of) (defScope s_Ties_root_of) .none kV52 dc52 pm52 an52 cd52 ct52), sl52⟩) (c52 : PySem.W.codeIn K cd52 "Ties.root_of" = true) (k52 : PySem.W.keepIn K (.ref f52) = true)
    (a53 : PySem.W.findIn K (.ref oC0) "tie_roots" = some (some (.ref f53))) (i53 : PySem.W.isFn K (.ref f53) = true) (l53 : K.lookup f53 = some ⟨oc53, od53, .func (PySem.W.fnOf "tie_roots" "Ties.tie_roots" (defArgs s_Ties_tie_roots) (defBody s_Ties_tie_roots) (defScope s_Ties_tie_roots) .none kV53 dc53 pm53 an53 cd53 ct53), sl53⟩) (c53 : PySem.W.codeIn K cd53 "Ties.tie_roots" = true) (k53 : PySem.W.keepIn K (.ref f53) = true)
    (a54 : PySem.W.findIn K (.ref oC0) "tie" = some (some (.ref f54))) (i54 : PySem.W.isFn K (.ref f54) = true) (l54 : K.lookup f54 = some ⟨oc54, od54, .func (PySem.W.fnOf "tie" "Ties.tie" (defArgs s_Ties_tie) (defBody s_Ties_tie) (defScope s_Ties_tie) .none kV54 dc54 pm54 an54 cd54 ct54), sl54⟩) (c54 : PySem.W.codeIn K cd54 "Ties.tie" = true) (k54 : PySem.W.keepIn K (.ref f54) = true)
    (a55 : PySem.W.findIn K (.ref oC1) "__init__" = some (some (.ref f55))) (i55 : PySem.W.isFn K (.ref f55) = true) (l55 : K.lookup f55 = some ⟨oc55, od55, .func (PySem.W.fnOf "__init__" "Cabinet.__init__" (defArgs s_Cabinet___init__) (defBody s_Cabinet___init__) (defScope s_Cabinet___init__) .none kV55 dc55 pm55 an55 cd55 ct55), sl55⟩) (c55 : PySem.W.codeIn K cd55 "Cabinet.__init__" = true) (k55 : PySem.W.keepIn K (.ref f55) = true)
    (a56 : PySem.W.findIn K (.ref oC1) "put" = some (some (.ref f56))) (i56 : PySem.W.isFn K (.ref f56) = true) (l56 : K.lookup f56 = some ⟨oc56, od56, .func (PySem.W.fnOf "put" "Cabinet.put" (defArgs s_Cabinet_put) (defBody s_Cabinet_put) (defScope s_Cabinet_put) .none kV56 dc56 pm56 an56 cd56 ct56), sl56⟩) (c56 : PySem.W.codeIn K cd56 "Cabinet.put" = true) (k56 : PySem.W.keepIn K (.ref f56) = true)
    (a57 : PySem.W.findIn K (.ref oC1) "take" = some (some (.ref f57))) (i57 : PySem.W.isFn K (.ref f57) = true) (l57 : K.lookup f57 = some ⟨oc57, od57, .func (PySem.W.fnOf "take" "Cabinet.take" (defArgs s_Cabinet_take) (defBody s_Cabinet_take) (defScope s_Cabinet_take) .none kV57 dc57 pm57 an57 cd57 ct57), sl57⟩) (c57 : PySem.W.codeIn K cd57 "Cabinet.take" = true) (k57 : PySem.W.keepIn K (.ref f57) = true)
    (a58 : PySem.W.findIn K (.ref oC1) "form_of" = some (some (.ref f58))) (i58 : PySem.W.isFn K (.ref f58) = true) (l58 : K.lookup f58 = some ⟨oc58, od58, .func (PySem.W.fnOf "form_of" "Cabinet.form_of" (defArgs s_Cabinet_form_of) (defBody s_Cabinet_form_of) (defScope s_Cabinet_form_of) .none kV58 dc58 pm58 an58 cd58 ct58), sl58⟩) (c58 : PySem.W.codeIn K cd58 "Cabinet.form_of" = true) (k58 : PySem.W.keepIn K (.ref f58) = true)
    (a59 : PySem.W.findIn K (.ref oC1) "names" = some (some (.ref f59))) (i59 : PySem.W.isFn K (.ref f59) = true) (l59 : K.lookup f59 = some ⟨oc59, od59, .func (PySem.W.fnOf "names" "Cabinet.names" (defArgs s_Cabinet_names) (defBody s_Cabinet_names) (defScope s_Cabinet_names) .none kV59 dc59 pm59 an59 cd59 ct59), sl59⟩) (c59 : PySem.W.codeIn K cd59 "Cabinet.names" = true) (k59 : PySem.W.keepIn K (.ref f59) = true)
    (a60 : PySem.W.findIn K (.ref oC1) "boughs" = some (some (.ref f60))) (i60 : PySem.W.isFn K (.ref f60) = true) (l60 : K.lookup f60 = some ⟨oc60, od60, .func (PySem.W.fnOf "boughs" "Cabinet.boughs" (defArgs s_Cabinet_boughs) (defBody s_Cabinet_boughs) (defScope s_Cabinet_boughs) .none kV60 dc60 pm60 an60 cd60 ct60), sl60⟩) (c60 : PySem.W.codeIn K cd60 "Cabinet.boughs" = true) (k60 : PySem.W.keepIn K (.ref f60) = true)
    (a61 : PySem.W.findIn K (.ref oC1) "answered" = some (some (.ref f61))) (i61 : PySem.W.isFn K (.ref f61) = true) (l61 : K.lookup f61 = some ⟨oc61, od61, .func (PySem.W.fnOf "answered" "Cabinet.answered" (defArgs s_Cabinet_answered) (defBody s_Cabinet_answered) (defScope s_Cabinet_answered) .none kV61 dc61 pm61 an61 cd61 ct61), sl61⟩) (c61 : PySem.W.codeIn K cd61 "Cabinet.answered" = true) (k61 : PySem.W.keepIn K (.ref f61) = true)
    (a62 : PySem.W.findIn K (.ref oC1) "below" = some (some (.ref f62))) (i62 : PySem.W.isFn K (.ref f62) = true) (l62 : K.lookup f62 = some ⟨oc62, od62, .func (PySem.W.fnOf "below" "Cabinet.below" (defArgs s_Cabinet_below) (defBody s_Cabinet_below) (defScope s_Cabinet_below) .none kV62 dc62 pm62 an62 cd62 ct62), sl62⟩) (c62 : PySem.W.codeIn K cd62 "Cabinet.below" = true) (k62 : PySem.W.keepIn K (.ref f62) = true)
    (a63 : PySem.W.findIn K (.ref oC1) "above" = some (some (.ref f63))) (i63 : PySem.W.isFn K (.ref f63) = true) (l63 : K.lookup f63 = some ⟨oc63, od63, .func (PySem.W.fnOf "above" "Cabinet.above" (defArgs s_Cabinet_above) (defBody s_Cabinet_above) (defScope s_Cabinet_above) .none kV63 dc63 pm63 an63 cd63 ct63), sl63⟩) (c63 : PySem.W.codeIn K cd63 "Cabinet.above" = true) (k63 : PySem.W.keepIn K (.ref f63) = true)
    (a64 : PySem.W.findIn K (.ref oC1) "meeting" = some (some (.ref f64))) (i64 : PySem.W.isFn K (.ref f64) = true) (l64 : K.lookup f64 = some ⟨oc64, od64, .func (PySem.W.fnOf "meeting" "Cabinet.meeting" (defArgs s_Cabinet_meeting) (defBody s_Cabinet_meeting) (defScope s_Cabinet_meeting) .none kV64 dc64 pm64 an64 cd64 ct64), sl64⟩) (c64 : PySem.W.codeIn K cd64 "Cabinet.meeting" = true) (k64 : PySem.W.keepIn K (.ref f64) = true)
    (a65 : PySem.W.findIn K (.ref oC1) "change" = some (some (.ref f65))) (i65 : PySem.W.isFn K (.ref f65) = true) (l65 : K.lookup f65 = some ⟨oc65, od65, .func (PySem.W.fnOf "change" "Cabinet.change" (defArgs s_Cabinet_change) (defBody s_Cabinet_change) (defScope s_Cabinet_change) .none kV65 dc65 pm65 an65 cd65 ct65), sl65⟩) (c65 : PySem.W.codeIn K cd65 "Cabinet.change" = true) (k65 : PySem.W.keepIn K (.ref f65) = true)
    (z0 : PySem.W.nsIn K mainGlobals "ValueError" = some none)
    (z1 : PySem.W.nsIn K mainGlobals "all" = some none)
    (z2 : PySem.W.nsIn K mainGlobals "enumerate" = some none)
    (z3 : PySem.W.nsIn K mainGlobals "isinstance" = some none)
    (z4 : PySem.W.nsIn K mainGlobals "len" = some none)
    (z5 : PySem.W.nsIn K mainGlobals "list" = some none)
    (z6 : PySem.W.nsIn K mainGlobals "max" = some none)
    (z7 : PySem.W.nsIn K mainGlobals "range" = some none)
    (z8 : PySem.W.nsIn K mainGlobals "reversed" = some none)
    (z9 : PySem.W.nsIn K mainGlobals "sorted" = some none)
    (z10 : PySem.W.nsIn K mainGlobals "str" = some none)
    (z11 : PySem.W.nsIn K mainGlobals "tuple" = some none)
    (z12 : PySem.W.nsIn K mainGlobals "zip" = some none)
    (y0 : PySem.W.nsIn K mainGlobals "MOST_DEPTH" = some (some (.int 30 tk0)))
    (y1 : PySem.W.nsIn K mainGlobals "MOST_FORMS" = some (some (.int 40 tk1)))
    (y2 : PySem.W.nsIn K mainGlobals "MOST_KNOTS" = some (some (.int 200 tk2)))
    (y3 : PySem.W.nsIn K mainGlobals "MOST_NAME_SIGNS" = some (some (.int 12 tk3)))
    (q0 : PySem.W.nsIn K mainGlobals "FormError" = some (some (.ref xa0))) (e0 : PySem.W.excIn K xa0 bmVE "ValueError.__new__" = true)
    (q1 : PySem.W.nsIn K mainGlobals "NoPlace" = some (some (.ref xa1))) (e1 : PySem.W.excIn K xa1 bmVE "ValueError.__new__" = true)
    (q2 : PySem.W.nsIn K mainGlobals "BadText" = some (some (.ref xa2))) (e2 : PySem.W.excIn K xa2 bmVE "ValueError.__new__" = true)
    (q3 : PySem.W.nsIn K mainGlobals "TooLong" = some (some (.ref xa3))) (e3 : PySem.W.excIn K xa3 bmVE "ValueError.__new__" = true)
    (q4 : PySem.W.nsIn K mainGlobals "BadPaper" = some (some (.ref xa4))) (e4 : PySem.W.excIn K xa4 bmVE "ValueError.__new__" = true)
    (q5 : PySem.W.nsIn K mainGlobals "BadName" = some (some (.ref xa5))) (e5 : PySem.W.excIn K xa5 bmVE "ValueError.__new__" = true)
    (q6 : PySem.W.nsIn K mainGlobals "Twice" = some (some (.ref xa6))) (e6 : PySem.W.excIn K xa6 bmVE "ValueError.__new__" = true)
    (q7 : PySem.W.nsIn K mainGlobals "NoForm" = some (some (.ref xa7))) (e7 : PySem.W.excIn K xa7 bmVE "ValueError.__new__" = true)
    (kt : kitTab K [xa0, xa1, xa2, xa3, xa4, xa5, xa6, xa7] = ([[true, false, false, false, false, false, false, false], [true, true, false, false, false, false, false, false], [true, false, true, false, false, false, false, false], [true, false, false, true, false, false, false, false], [true, false, false, false, true, false, false, false], [true, false, false, false, false, true, false, false], [true, false, false, false, false, false, true, false], [true, false, false, false, false, false, false, true]] : List (List Bool)).map fun r => r.map some) (ia : isaTab K [xa0, xa1, xa2, xa3, xa4, xa5, xa6, xa7] = ([[true, false, false, false, false, false, false, false], [true, true, false, false, false, false, false, false], [true, false, true, false, false, false, false, false], [true, false, false, true, false, false, false, false], [true, false, false, false, true, false, false, false], [true, false, false, false, false, true, false, false], [true, false, false, false, false, false, true, false], [true, false, false, false, false, false, false, true]] : List (List Bool)).map fun r => r.map some)
    (ve : ([xa0, xa1, xa2, xa3, xa4, xa5, xa6, xa7] : List Addr).map (fun c => PySem.W.kitOne K (.ref c) (.type "ValueError")) = ([xa0, xa1, xa2, xa3, xa4, xa5, xa6, xa7] : List Addr).map fun _ => some true)
    (fc : ([xa0, xa1, xa2, xa3, xa4, xa5, xa6, xa7] : List Addr).map (fun c => PySem.W.findIn K (.ref c) "__class__") = ([xa0, xa1, xa2, xa3, xa4, xa5, xa6, xa7] : List Addr).map fun _ => some (some (.builtin "object.__class__")))
    (fg : ([xa0, xa1, xa2, xa3, xa4, xa5, xa6, xa7] : List Addr).map (fun c => PySem.W.findIn K (.ref c) "__getattribute__") = ([xa0, xa1, xa2, xa3, xa4, xa5, xa6, xa7] : List Addr).map fun _ => some (some (.builtin "BaseException.__getattribute__")))
    (fga : ([xa0, xa1, xa2, xa3, xa4, xa5, xa6, xa7] : List Addr).map (fun c => PySem.W.findIn K (.ref c) "__getattr__") = ([xa0, xa1, xa2, xa3, xa4, xa5, xa6, xa7] : List Addr).map fun _ => some none)
    : ∃ fd : FuncData, (∀ (s : Shared) (v : Value), BindsTo s fd ⟨[v], []⟩ [("script", v)]) ∧ ∀ base : Heap, K.In base → base.Ns mainGlobals mg → FnOk l.prog w K mg base CX0 kLaw fa fd ["script"] (lowSp K spLaw) := by
  have e := hfa.symm.trans (PySem.W.mg_of X G a47)
  cases e
  have ph0 := PySem.W.mg_of X G ka0
  have ch0 := cl_of ph0
  have ph1 := PySem.W.mg_of X G ka1
  have ch1 := cl_of ph1
  have F0 := fun_mk (st := s__wall) l0 c0 k0
  have b0 := F0.binds (ps := ["k"]) fun _ _ _ _ _ _ => allN1 fun _ => rfl
  have F1 := fun_mk (st := s_is_letter) l1 c1 k1
  have b1 := F1.binds (ps := ["sign"]) fun _ _ _ _ _ _ => allN1 fun _ => rfl
  have F2 := fun_mk (st := s_is_figure) l2 c2 k2
  have b2 := F2.binds (ps := ["sign"]) fun _ _ _ _ _ _ => allN1 fun _ => rfl
  have F3 := fun_mk (st := s_is_name) l3 c3 k3
  have b3 := F3.binds (ps := ["text"]) fun _ _ _ _ _ _ => allN1 fun _ => rfl
  have F4 := fun_mk (st := s_parts_of) l4 c4 k4
  have b4 := F4.binds (ps := ["tree"]) fun _ _ _ _ _ _ => allN1 fun _ => rfl
  have F5 := fun_mk (st := s_knots_of) l5 c5 k5
  have b5 := F5.binds (ps := ["tree"]) fun _ _ _ _ _ _ => allN1 fun _ => rfl
  have F6 := fun_mk (st := s_depth_of) l6 c6 k6
  have b6 := F6.binds (ps := ["tree"]) fun _ _ _ _ _ _ => allN1 fun _ => rfl
  have F7 := fun_mk (st := s_gather_blanks) l7 c7 k7
  have b7 := F7.binds (ps := ["tree", "found"]) fun _ _ _ _ _ _ => allN2 fun _ _ => rfl
  have F8 := fun_mk (st := s_blanks_of) l8 c8 k8
  have b8 := F8.binds (ps := ["tree"]) fun _ _ _ _ _ _ => allN1 fun _ => rfl
  have F9 := fun_mk (st := s_numbered_part) l9 c9 k9
  have b9 := F9.binds (ps := ["tree", "number"]) fun _ _ _ _ _ _ => allN2 fun _ _ => rfl
  have F10 := fun_mk (st := s_put_at) l10 c10 k10
  have b10 := F10.binds (ps := ["tree", "place", "part"]) fun _ _ _ _ _ _ => allN3 fun _ _ _ => rfl
  have F11 := fun_mk (st := s_same_head) l11 c11 k11
  have b11 := F11.binds (ps := ["one", "other"]) fun _ _ _ _ _ _ => allN2 fun _ _ => rfl
  have F12 := fun_mk (st := s_blank_clash) l12 c12 k12
  have b12 := F12.binds (ps := ["number", "tree", "place", "stood"]) fun _ _ _ _ _ _ => allN4 fun _ _ _ _ => rfl
  have F13 := fun_mk (st := s_clash_from) l13 c13 k13
  have b13 := F13.binds (ps := ["form", "tree", "place", "stood"]) fun _ _ _ _ _ _ => allN4 fun _ _ _ _ => rfl
  have F14 := fun_mk (st := s_first_clash) l14 c14 k14
  have b14 := F14.binds (ps := ["form", "tree"]) fun _ _ _ _ _ _ => allN2 fun _ _ => rfl
  have F15 := fun_mk (st := s_fitting) l15 c15 k15
  have b15 := F15.binds (ps := ["form", "tree"]) fun _ _ _ _ _ _ => allN2 fun _ _ => rfl
  have F16 := fun_mk (st := s_common) l16 c16 k16
  have b16 := F16.binds (ps := ["row", "numbers"]) fun _ _ _ _ _ _ => allN2 fun _ _ => rfl
  have F17 := fun_mk (st := s_filling_of) l17 c17 k17
  have b17 := F17.binds (ps := ["numbers", "which"]) fun _ _ _ _ _ _ => allN2 fun _ _ => rfl
  have F18 := fun_mk (st := s_nearest_of) l18 c18 k18
  have b18 := F18.binds (ps := ["trees"]) fun _ _ _ _ _ _ => allN1 fun _ => rfl
  have F19 := fun_mk (st := s_nearest) l19 c19 k19
  have b19 := F19.binds (ps := ["one", "other"]) fun _ _ _ _ _ _ => allN2 fun _ _ => rfl
  have F20 := fun_mk (st := s_form_over) l20 c20 k20
  have b20 := F20.binds (ps := ["bough"]) fun _ _ _ _ _ _ => allN1 fun _ => rfl
  have F21 := fun_mk (st := s_knot_over) l21 c21 k21
  have b21 := F21.binds (ps := ["boughs"]) fun _ _ _ _ _ _ => allN1 fun _ => rfl
  have F22 := fun_mk (st := s_names_under) l22 c22 k22
  have b22 := F22.binds (ps := ["bough"]) fun _ _ _ _ _ _ => allN1 fun _ => rfl
  have F23 := fun_mk (st := s_weight_of) l23 c23 k23
  have b23 := F23.binds (ps := ["form"]) fun _ _ _ _ _ _ => allN1 fun _ => rfl
  have F24 := fun_mk (st := s_with_leaf) l24 c24 k24
  have b24 := F24.binds (ps := ["bough", "leaf"]) fun _ _ _ _ _ _ => allN2 fun _ _ => rfl
  have F25 := fun_mk (st := s_without_name) l25 c25 k25
  have b25 := F25.binds (ps := ["bough", "name"]) fun _ _ _ _ _ _ => allN2 fun _ _ => rfl
  have F26 := fun_mk (st := s_told_bough) l26 c26 k26
  have b26 := F26.binds (ps := ["bough"]) fun _ _ _ _ _ _ => allN1 fun _ => rfl
  have F27 := fun_mk (st := s_exchanged) l27 c27 k27
  have b27 := F27.binds (ps := ["tree", "filling"]) fun _ _ _ _ _ _ => allN2 fun _ _ => rfl
  have F28 := fun_mk (st := s_apart) l28 c28 k28
  have b28 := F28.binds (ps := ["one", "other"]) fun _ _ _ _ _ _ => allN2 fun _ _ => rfl
  have F29 := fun_mk (st := s_unlike_blocks) l29 c29 k29
  have b29 := F29.binds (ps := ["one", "other"]) fun _ _ _ _ _ _ => allN2 fun _ _ => rfl
  have F30 := fun_mk (st := s_blanks_within) l30 c30 k30
  have b30 := F30.binds (ps := ["root"]) fun _ _ _ _ _ _ => allN1 fun _ => rfl
  have F31 := fun_mk (st := s_arranged) l31 c31 k31
  have b31 := F31.binds (ps := ["inner"]) fun _ _ _ _ _ _ => allN1 fun _ => rfl
  have F32 := fun_mk (st := s_settled) l32 c32 k32
  have b32 := F32.binds (ps := ["one", "other"]) fun _ _ _ _ _ _ => allN2 fun _ _ => rfl
  have F33 := fun_mk (st := s_barring_paper) l33 c33 k33
  have b33 := F33.binds (ps := ["one", "other"]) fun _ _ _ _ _ _ => allN2 fun _ _ => rfl
  have F34 := fun_mk (st := s_barred_row) l34 c34 k34
  have b34 := F34.binds (ps := ["bough", "reason"]) fun _ _ _ _ _ _ => allN2 fun _ _ => rfl
  have F35 := fun_mk (st := s_row_below) l35 c35 k35
  have b35 := F35.binds (ps := ["bough", "form"]) fun _ _ _ _ _ _ => allN2 fun _ _ => rfl
  have F36 := fun_mk (st := s_row_above) l36 c36 k36
  have b36 := F36.binds (ps := ["bough", "form"]) fun _ _ _ _ _ _ => allN2 fun _ _ => rfl
  have F37 := fun_mk (st := s_gather_rows) l37 c37 k37
  have b37 := F37.binds (ps := ["bough", "form", "row_of", "rows"]) fun _ _ _ _ _ _ => allN4 fun _ _ _ _ => rfl
  have F38 := fun_mk (st := s_answers_in) l38 c38 k38
  have b38 := F38.binds (ps := ["rows"]) fun _ _ _ _ _ _ => allN1 fun _ => rfl
  have F39 := fun_mk (st := s__law_mixed) l39 c39 k39
  have b39 := F39.binds (ps := ["cell"]) fun _ _ _ _ _ _ => allN1 fun _ => rfl
  have F40 := fun_mk (st := s__law_of_knots) l40 c40 k40
  have b40 := F40.binds (ps := ["many"]) fun _ _ _ _ _ _ => allN1 fun _ => rfl
  have F41 := fun_mk (st := s__law_chain) l41 c41 k41
  have b41 := F41.binds (ps := ["deep"]) fun _ _ _ _ _ _ => allN1 fun _ => rfl
  have F42 := fun_mk (st := s__law_do) l42 c42 k42
  have b42 := F42.binds (ps := ["cabinet", "deed"]) fun _ _ _ _ _ _ => allN2 fun _ _ => rfl
  have F43 := fun_mk (st := s__law_refused) l43 c43 k43
  have b43 := F43.binds (ps := ["cabinet", "deed"]) fun _ _ _ _ _ _ => allN2 fun _ _ => rfl
  have F44 := fun_mk (st := s__law_case) l44 c44 k44
  have b44 := F44.binds (ps := ["kind", "number"]) fun _ _ _ _ _ _ => allN2 fun _ _ => rfl
  have F45 := fun_mk (st := s__law_opened) l45 c45 k45
  have b45 := F45.binds (ps := ["kind"]) fun _ _ _ _ _ _ => allN1 fun _ => rfl
  have F46 := fun_mk (st := s__law_less) l46 c46 k46
  have b46 := F46.binds (ps := ["kind", "deed"]) fun _ _ _ _ _ _ => allN2 fun _ _ => rfl
  have F48 := fun_mk (st := s_Ties___init__) l48 c48 k48
  have b48 := F48.binds (ps := ["self"]) fun _ _ _ _ _ _ => allN1 fun _ => rfl
  have F49 := fun_mk (st := s_Ties_noted) l49 c49 k49
  have b49 := F49.binds (ps := ["self", "step"]) fun _ _ _ _ _ _ => allN2 fun _ _ => rfl
  have F50 := fun_mk (st := s_Ties_turned) l50 c50 k50
  have b50 := F50.binds (ps := ["self", "number"]) fun _ _ _ _ _ _ => allN2 fun _ _ => rfl
  have F51 := fun_mk (st := s_Ties_linked) l51 c51 k51
  have b51 := F51.binds (ps := ["self", "first", "second"]) fun _ _ _ _ _ _ => allN3 fun _ _ _ => rfl
  have F52 := fun_mk (st := s_Ties_root_of) l52 c52 k52
  have b52 := F52.binds (ps := ["self", "tree"]) fun _ _ _ _ _ _ => allN2 fun _ _ => rfl
  have F53 := fun_mk (st := s_Ties_tie_roots) l53 c53 k53
  have b53 := F53.binds (ps := ["self", "left", "right", "number"]) fun _ _ _ _ _ _ => allN4 fun _ _ _ _ => rfl
  have F54 := fun_mk (st := s_Ties_tie) l54 c54 k54
  have b54 := F54.binds (ps := ["self", "one", "other"]) fun _ _ _ _ _ _ => allN3 fun _ _ _ => rfl
  have F55 := fun_mk (st := s_Cabinet___init__) l55 c55 k55
  have b55 := F55.binds (ps := ["self"]) fun _ _ _ _ _ _ => allN1 fun _ => rfl
  have F56 := fun_mk (st := s_Cabinet_put) l56 c56 k56
  have b56 := F56.binds (ps := ["self", "name", "form"]) fun _ _ _ _ _ _ => allN3 fun _ _ _ => rfl
  have F57 := fun_mk (st := s_Cabinet_take) l57 c57 k57
  have b57 := F57.binds (ps := ["self", "name"]) fun _ _ _ _ _ _ => allN2 fun _ _ => rfl
  have F58 := fun_mk (st := s_Cabinet_form_of) l58 c58 k58
  have b58 := F58.binds (ps := ["self", "name"]) fun _ _ _ _ _ _ => allN2 fun _ _ => rfl
  have F59 := fun_mk (st := s_Cabinet_names) l59 c59 k59
  have b59 := F59.binds (ps := ["self"]) fun _ _ _ _ _ _ => allN1 fun _ => rfl
  have F60 := fun_mk (st := s_Cabinet_boughs) l60 c60 k60
  have b60 := F60.binds (ps := ["self"]) fun _ _ _ _ _ _ => allN1 fun _ => rfl
  have F61 := fun_mk (st := s_Cabinet_answered) l61 c61 k61
  have b61 := F61.binds (ps := ["self", "form", "row_of"]) fun _ _ _ _ _ _ => allN3 fun _ _ _ => rfl
  have F62 := fun_mk (st := s_Cabinet_below) l62 c62 k62
  have b62 := F62.binds (ps := ["self", "form"]) fun _ _ _ _ _ _ => allN2 fun _ _ => rfl
  have F63 := fun_mk (st := s_Cabinet_above) l63 c63 k63
  have b63 := F63.binds (ps := ["self", "form"]) fun _ _ _ _ _ _ => allN2 fun _ _ => rfl
  have F64 := fun_mk (st := s_Cabinet_meeting) l64 c64 k64
  have b64 := F64.binds (ps := ["self", "form"]) fun _ _ _ _ _ _ => allN2 fun _ _ => rfl
  have F65 := fun_mk (st := s_Cabinet_change) l65 c65 k65
  have b65 := F65.binds (ps := ["self", "name", "place", "part"]) fun _ _ _ _ _ _ => allN4 fun _ _ _ _ => rfl
  have p0 := PySem.W.mg_of X G q0
  have cc0 := cl_of p0
  have p1 := PySem.W.mg_of X G q1
  have cc1 := cl_of p1
  have p2 := PySem.W.mg_of X G q2
  have cc2 := cl_of p2
  have p3 := PySem.W.mg_of X G q3
  have cc3 := cl_of p3
  have p4 := PySem.W.mg_of X G q4
  have cc4 := cl_of p4
  have p5 := PySem.W.mg_of X G q5
  have cc5 := cl_of p5
  have p6 := PySem.W.mg_of X G q6
  have cc6 := cl_of p6
  have p7 := PySem.W.mg_of X G q7
  have cc7 := cl_of p7
  have xtab : XTab K [cl mg "FormError", cl mg "NoPlace", cl mg "BadText", cl mg "TooLong", cl mg "BadPaper", cl mg "BadName", cl mg "Twice", cl mg "NoForm"] [[true, false, false, false, false, false, false, false], [true, true, false, false, false, false, false, false], [true, false, true, false, false, false, false, false], [true, false, false, true, false, false, false, false], [true, false, false, false, true, false, false, false], [true, false, false, false, false, true, false, false], [true, false, false, false, false, false, true, false], [true, false, false, false, false, false, false, true]] := by
    rw [cc0, cc1, cc2, cc3, cc4, cc5, cc6, cc7]
    refine ⟨fun c hc => ?_, kt, ia, ve, fc, fg, fga⟩
    simp only [List.mem_cons, List.not_mem_nil, or_false] at hc
    rcases hc with rfl | rfl | rfl | rfl | rfl | rfl | rfl | rfl <;> assumption
  have TX : Txt K mg := { n_Ties := by rw [ch0]; exact ph0, c_Ties := by rw [ch0]; exact ⟨kb0, kc0, kd0, ke0⟩, a_Ties_links := by rw [ch0]; exact kh0_0, a_Ties_steps := by rw [ch0]; exact kh0_1, n_Cabinet := by rw [ch1]; exact ph1, c_Cabinet := by rw [ch1]; exact ⟨kb1, kc1, kd1, ke1⟩, a_Cabinet_kept := by rw [ch1]; exact kh1_0, a_Cabinet_top := by rw [ch1]; exact kh1_1, f__wall := ⟨_, _, F0, b0, PySem.W.mg_of X G a0⟩, f_is_letter := ⟨_, _, F1, b1, PySem.W.mg_of X G a1⟩, f_is_figure := ⟨_, _, F2, b2, PySem.W.mg_of X G a2⟩, f_is_name := ⟨_, _, F3, b3, PySem.W.mg_of X G a3⟩, f_parts_of := ⟨_, _, F4, b4, PySem.W.mg_of X G a4⟩, f_knots_of := ⟨_, _, F5, b5, PySem.W.mg_of X G a5⟩, f_depth_of := ⟨_, _, F6, b6, PySem.W.mg_of X G a6⟩, f_gather_blanks := ⟨_, _, F7, b7, PySem.W.mg_of X G a7⟩, f_blanks_of := ⟨_, _, F8, b8, PySem.W.mg_of X G a8⟩, f_numbered_part := ⟨_, _, F9, b9, PySem.W.mg_of X G a9⟩, f_put_at := ⟨_, _, F10, b10, PySem.W.mg_of X G a10⟩, f_same_head := ⟨_, _, F11, b11, PySem.W.mg_of X G a11⟩, f_blank_clash := ⟨_, _, F12, b12, PySem.W.mg_of X G a12⟩, f_clash_from := ⟨_, _, F13, b13, PySem.W.mg_of X G a13⟩, f_first_clash := ⟨_, _, F14, b14, PySem.W.mg_of X G a14⟩, f_fitting := ⟨_, _, F15, b15, PySem.W.mg_of X G a15⟩, f_common := ⟨_, _, F16, b16, PySem.W.mg_of X G a16⟩, f_filling_of := ⟨_, _, F17, b17, PySem.W.mg_of X G a17⟩, f_nearest_of := ⟨_, _, F18, b18, PySem.W.mg_of X G a18⟩, f_nearest := ⟨_, _, F19, b19, PySem.W.mg_of X G a19⟩, f_form_over := ⟨_, _, F20, b20, PySem.W.mg_of X G a20⟩, f_knot_over := ⟨_, _, F21, b21, PySem.W.mg_of X G a21⟩, f_names_under := ⟨_, _, F22, b22, PySem.W.mg_of X G a22⟩, f_weight_of := ⟨_, _, F23, b23, PySem.W.mg_of X G a23⟩, f_with_leaf := ⟨_, _, F24, b24, PySem.W.mg_of X G a24⟩, f_without_name := ⟨_, _, F25, b25, PySem.W.mg_of X G a25⟩, f_told_bough := ⟨_, _, F26, b26, PySem.W.mg_of X G a26⟩, f_exchanged := ⟨_, _, F27, b27, PySem.W.mg_of X G a27⟩, f_apart := ⟨_, _, F28, b28, PySem.W.mg_of X G a28⟩, f_unlike_blocks := ⟨_, _, F29, b29, PySem.W.mg_of X G a29⟩, f_blanks_within := ⟨_, _, F30, b30, PySem.W.mg_of X G a30⟩, f_arranged := ⟨_, _, F31, b31, PySem.W.mg_of X G a31⟩, f_settled := ⟨_, _, F32, b32, PySem.W.mg_of X G a32⟩, f_barring_paper := ⟨_, _, F33, b33, PySem.W.mg_of X G a33⟩, f_barred_row := ⟨_, _, F34, b34, PySem.W.mg_of X G a34⟩, f_row_below := ⟨_, _, F35, b35, PySem.W.mg_of X G a35⟩, f_row_above := ⟨_, _, F36, b36, PySem.W.mg_of X G a36⟩, f_gather_rows := ⟨_, _, F37, b37, PySem.W.mg_of X G a37⟩, f_answers_in := ⟨_, _, F38, b38, PySem.W.mg_of X G a38⟩, f__law_mixed := ⟨_, _, F39, b39, PySem.W.mg_of X G a39⟩, f__law_of_knots := ⟨_, _, F40, b40, PySem.W.mg_of X G a40⟩, f__law_chain := ⟨_, _, F41, b41, PySem.W.mg_of X G a41⟩, f__law_do := ⟨_, _, F42, b42, PySem.W.mg_of X G a42⟩, f__law_refused := ⟨_, _, F43, b43, PySem.W.mg_of X G a43⟩, f__law_case := ⟨_, _, F44, b44, PySem.W.mg_of X G a44⟩, f__law_opened := ⟨_, _, F45, b45, PySem.W.mg_of X G a45⟩, f__law_less := ⟨_, _, F46, b46, PySem.W.mg_of X G a46⟩, f_Ties___init__ := by rw [ch0]; exact ⟨_, _, F48, b48, ⟨kf0, a48, i48, kg0⟩⟩, f_Ties_noted := by rw [ch0]; exact ⟨_, _, F49, b49, ⟨a49, i49, k49⟩⟩, f_Ties_turned := by rw [ch0]; exact ⟨_, _, F50, b50, ⟨a50, i50, k50⟩⟩, f_Ties_linked := by rw [ch0]; exact ⟨_, _, F51, b51, ⟨a51, i51, k51⟩⟩, f_Ties_root_of := by rw [ch0]; exact ⟨_, _, F52, b52, ⟨a52, i52, k52⟩⟩, f_Ties_tie_roots := by rw [ch0]; exact ⟨_, _, F53, b53, ⟨a53, i53, k53⟩⟩, f_Ties_tie := by rw [ch0]; exact ⟨_, _, F54, b54, ⟨a54, i54, k54⟩⟩, f_Cabinet___init__ := by rw [ch1]; exact ⟨_, _, F55, b55, ⟨kf1, a55, i55, kg1⟩⟩, f_Cabinet_put := by rw [ch1]; exact ⟨_, _, F56, b56, ⟨a56, i56, k56⟩⟩, f_Cabinet_take := by rw [ch1]; exact ⟨_, _, F57, b57, ⟨a57, i57, k57⟩⟩, f_Cabinet_form_of := by rw [ch1]; exact ⟨_, _, F58, b58, ⟨a58, i58, k58⟩⟩, f_Cabinet_names := by rw [ch1]; exact ⟨_, _, F59, b59, ⟨a59, i59, k59⟩⟩, f_Cabinet_boughs := by rw [ch1]; exact ⟨_, _, F60, b60, ⟨a60, i60, k60⟩⟩, f_Cabinet_answered := by rw [ch1]; exact ⟨_, _, F61, b61, ⟨a61, i61, k61⟩⟩, f_Cabinet_below := by rw [ch1]; exact ⟨_, _, F62, b62, ⟨a62, i62, k62⟩⟩, f_Cabinet_above := by rw [ch1]; exact ⟨_, _, F63, b63, ⟨a63, i63, k63⟩⟩, f_Cabinet_meeting := by rw [ch1]; exact ⟨_, _, F64, b64, ⟨a64, i64, k64⟩⟩, f_Cabinet_change := by rw [ch1]; exact ⟨_, _, F65, b65, ⟨a65, i65, k65⟩⟩, m_ValueError := PySem.W.mg_none_of X G z0, m_all := PySem.W.mg_none_of X G z1, m_enumerate := PySem.W.mg_none_of X G z2, m_isinstance := PySem.W.mg_none_of X G z3, m_len := PySem.W.mg_none_of X G z4, m_list := PySem.W.mg_none_of X G z5, m_max := PySem.W.mg_none_of X G z6, m_range := PySem.W.mg_none_of X G z7, m_reversed := PySem.W.mg_none_of X G z8, m_sorted := PySem.W.mg_none_of X G z9, m_str := PySem.W.mg_none_of X G z10, m_tuple := PySem.W.mg_none_of X G z11, m_zip := PySem.W.mg_none_of X G z12, g_MOST_DEPTH := ⟨_, PySem.W.mg_of X G y0⟩, g_MOST_FORMS := ⟨_, PySem.W.mg_of X G y1⟩, g_MOST_KNOTS := ⟨_, PySem.W.mg_of X G y2⟩, g_MOST_NAME_SIGNS := ⟨_, PySem.W.mg_of X G y3⟩, n_FormError := by rw [cc0]; exact p0, n_NoPlace := by rw [cc1]; exact p1, n_BadText := by rw [cc2]; exact p2, n_TooLong := by rw [cc3]; exact p3, n_BadPaper := by rw [cc4]; exact p4, n_BadName := by rw [cc5]; exact p5, n_Twice := by rw [cc6]; exact p6, n_NoForm := by rw [cc7]; exact p7, xc := xtab }
  refine ⟨PySem.W.fnOf "law" "law" (defArgs s_law) (defBody s_law) (defScope s_law) .none kV47 dc47 pm47 an47 cd47 ct47, fun s v => .of_eq rfl, fun base _ _ => ?_⟩
  exact ok_law TX (fun_mk (st := s_law) l47 c47 k47)
theorem walk {l : PySem.W.OpenLaw} {q : Program} {loose : List Str} {XP : (Str → Option Value) → Heap → Prop} {YP : World → Heap → Prop} {d : DefRec} {K : Params → PySem.W.Frag} (hn : l.most = some 63) (hdf : d.params.defaults = [])
    (hY : ∀ (w : World) (h : Heap), YP w h → (K w.params).In h)
    (F : ∀ (w : World) (mg : Str → Option Value) (fa : Addr) (h : Heap), (K w.params).In h → h.Ns mainGlobals mg → mg d.name = some (.ref fa) →
      ∃ fd : FuncData, (∀ (s : Shared) (u : Value), BindsTo s fd ⟨[u], []⟩ [("script", u)]) ∧ ∀ base : Heap, (K w.params).In base → base.Ns mainGlobals mg → FnOk l.prog w (K w.params) mg base CX0 kLaw fa fd ["script"] (lowSp (K w.params) spLaw)) :
    PySem.W.WalkO q loose XP YP l.row.toRowW d [] (fun f vs => PySem.call f vs) :=
  L2.walk_of (n := 63) (k := kLaw) (x := "script") (CX := fun _ => CX0) (sp := fun w => lowSp (K w.params) spLaw) hn (by decide) hdf ⟨rfl, by decide, by decide⟩ hY F (fun _ _ a ns hl hO hS => law_low hO hl hS) fun _ _ _ _ _ z => z
end Law
theorem PySem.W.Fast.tw5288769322166104450 : True := trivial
theorem PySem.W.Fast.te5288769322166104450 : True := trivial
theorem PySem.W.Fast.tw17502791983240964777 : True := trivial
theorem PySem.W.Fast.te17502791983240964777 : True := trivial
open PySem PySem.W PyProof.Rows
set_option maxRecDepth 100000 in
set_option maxHeartbeats 0 in
theorem PySem.Challenge.cw_commonform_k61_refused_once_holds : PySem.Challenge.rw_commonform_k61_refused_once.Holds := by
  w_on; o_law; k_head; (case hw => w_witness2)
  k_fill
  refine Law.walk (l := PySem.Challenge.rw_commonform_k61_refused_once) rfl rfl (fun w h Y => PySem.W.kIn_of Y) ?F
  case F =>
    intro w mg fa h KX G hmg
    refine' Law.all_mk KX G hmg ?ka0 ?kb0 ?kc0 ?kd0 ?ke0 ?kf0 ?kg0 ?kh0_0 ?kh0_1 ?ka1 ?kb1 ?kc1 ?kd1 ?ke1 ?kf1 ?kg1 ?kh1_0 ?kh1_1 ?a0 ?l0 ?c0 ?k0 ?a1 ?l1 ?c1 ?k1 ?a2 ?l2 ?c2 ?k2 ?a3 ?l3 ?c3 ?k3 ?a4 ?l4 ?c4 ?k4 ?a5 ?l5 ?c5 ?k5 ?a6 ?l6 ?c6 ?k6 ?a7 ?l7 ?c7 ?k7 ?a8 ?l8 ?c8 ?k8 ?a9 ?l9 ?c9 ?k9 ?a10 ?l10 ?c10 ?k10 ?a11 ?l11 ?c11 ?k11 ?a12 ?l12 ?c12 ?k12 ?a13 ?l13 ?c13 ?k13 ?a14 ?l14 ?c14 ?k14 ?a15 ?l15 ?c15 ?k15 ?a16 ?l16 ?c16 ?k16 ?a17 ?l17 ?c17 ?k17 ?a18 ?l18 ?c18 ?k18 ?a19 ?l19 ?c19 ?k19 ?a20 ?l20 ?c20 ?k20 ?a21 ?l21 ?c21 ?k21 ?a22 ?l22 ?c22 ?k22 ?a23 ?l23 ?c23 ?k23 ?a24 ?l24 ?c24 ?k24 ?a25 ?l25 ?c25 ?k25 ?a26 ?l26 ?c26 ?k26 ?a27 ?l27 ?c27 ?k27 ?a28 ?l28 ?c28 ?k28 ?a29 ?l29 ?c29 ?k29 ?a30 ?l30 ?c30 ?k30 ?a31 ?l31 ?c31 ?k31 ?a32 ?l32 ?c32 ?k32 ?a33 ?l33 ?c33 ?k33 ?a34 ?l34 ?c34 ?k34 ?a35 ?l35 ?c35 ?k35 ?a36 ?l36 ?c36 ?k36 ?a37 ?l37 ?c37 ?k37 ?a38 ?l38 ?c38 ?k38 ?a39 ?l39 ?c39 ?k39 ?a40 ?l40 ?c40 ?k40 ?a41 ?l41 ?c41 ?k41 ?a42 ?l42 ?c42 ?k42 ?a43 ?l43 ?c43 ?k43 ?a44 ?l44 ?c44 ?k44 ?a45 ?l45 ?c45 ?k45 ?a46 ?l46 ?c46 ?k46 ?a47 ?l47 ?c47 ?k47 ?a48 ?i48 ?l48 ?c48 ?k48 ?a49 ?i49 ?l49 ?c49 ?k49 ?a50 ?i50 ?l50 ?c50 ?k50 ?a51 ?i51 ?l51 ?c51 ?k51 ?a52 ?i52 ?l52 ?c52 ?k52 ?a53 ?i53 ?l53 ?c53 ?k53 ?a54 ?i54 ?l54 ?c54 ?k54 ?a55 ?i55 ?l55 ?c55 ?k55 ?a56 ?i56 ?l56 ?c56 ?k56 ?a57 ?i57 ?l57 ?c57 ?k57 ?a58 ?i58 ?l58 ?c58 ?k58 ?a59 ?i59 ?l59 ?c59 ?k59 ?a60 ?i60 ?l60 ?c60 ?k60 ?a61 ?i61 ?l61 ?c61 ?k61 ?a62 ?i62 ?l62 ?c62 ?k62 ?a63 ?i63 ?l63 ?c63 ?k63 ?a64 ?i64 ?l64 ?c64 ?k64 ?a65 ?i65 ?l65 ?c65 ?k65 ?z0 ?z1 ?z2 ?z3 ?z4 ?z5 ?z6 ?z7 ?z8 ?z9 ?z10 ?z11 ?z12 ?y0 ?y1 ?y2 ?y3 ?q0 ?e0 ?q1 ?e1 ?q2 ?e2 ?q3 ?e3 ?q4 ?e4 ?q5 ?e5 ?q6 ?e6 ?q7 ?e7 ?kt ?ia ?ve ?fc ?fg ?fga
    (case ka0 => k_is)
    (case kb0 => k_is)
    (case kc0 => k_is)
    (case kd0 => k_is)
    (case ke0 => k_is)
    (case kf0 => k_is)
    (case kg0 => k_is)
    (case kh0_0 => k_is)
    (case kh0_1 => k_is)
    (case ka1 => k_is)
    (case kb1 => k_is)
    (case kc1 => k_is)
    (case kd1 => k_is)
    (case ke1 => k_is)
    (case kf1 => k_is)
    (case kg1 => k_is)
    (case kh1_0 => k_is)
    (case kh1_1 => k_is)
    (case a0 => k_is)
    (case l0 => k_is)
    (case c0 => k_is)
    (case k0 => k_is)
    (case a1 => k_is)
    (case l1 => k_is)
    (case c1 => k_is)
    (case k1 => k_is)
    (case a2 => k_is)
    (case l2 => k_is)
    (case c2 => k_is)
    (case k2 => k_is)
    (case a3 => k_is)
    (case l3 => k_is)
    (case c3 => k_is)
    (case k3 => k_is)
    (case a4 => k_is)
    (case l4 => k_is)
    (case c4 => k_is)
    (case k4 => k_is)
    (case a5 => k_is)
    (case l5 => k_is)
    (case c5 => k_is)
    (case k5 => k_is)
    (case a6 => k_is)
    (case l6 => k_is)
    (case c6 => k_is)
    (case k6 => k_is)
    (case a7 => k_is)
    (case l7 => k_is)
    (case c7 => k_is)
    (case k7 => k_is)
    (case a8 => k_is)
    (case l8 => k_is)
    (case c8 => k_is)
    (case k8 => k_is)
    (case a9 => k_is)
    (case l9 => k_is)
    (case c9 => k_is)
    (case k9 => k_is)
    (case a10 => k_is)
    (case l10 => k_is)
    (case c10 => k_is)
    (case k10 => k_is)
    (case a11 => k_is)
    (case l11 => k_is)
    (case c11 => k_is)
    (case k11 => k_is)
    (case a12 => k_is)
    (case l12 => k_is)
    (case c12 => k_is)
    (case k12 => k_is)
    (case a13 => k_is)
    (case l13 => k_is)
    (case c13 => k_is)
    (case k13 => k_is)
    (case a14 => k_is)
    (case l14 => k_is)
    (case c14 => k_is)
    (case k14 => k_is)
    (case a15 => k_is)
    (case l15 => k_is)
    (case c15 => k_is)
    (case k15 => k_is)
    (case a16 => k_is)
    (case l16 => k_is)
    (case c16 => k_is)
    (case k16 => k_is)
    (case a17 => k_is)
    (case l17 => k_is)
    (case c17 => k_is)
    (case k17 => k_is)
    (case a18 => k_is)
    (case l18 => k_is)
    (case c18 => k_is)
    (case k18 => k_is)
    (case a19 => k_is)
    (case l19 => k_is)
    (case c19 => k_is)
    (case k19 => k_is)
    (case a20 => k_is)
    (case l20 => k_is)
    (case c20 => k_is)
    (case k20 => k_is)
    (case a21 => k_is)
    (case l21 => k_is)
    (case c21 => k_is)
    (case k21 => k_is)
    (case a22 => k_is)
    (case l22 => k_is)
    (case c22 => k_is)
    (case k22 => k_is)
    (case a23 => k_is)
    (case l23 => k_is)
    (case c23 => k_is)
    (case k23 => k_is)
    (case a24 => k_is)
    (case l24 => k_is)
    (case c24 => k_is)
    (case k24 => k_is)
    (case a25 => k_is)
    (case l25 => k_is)
    (case c25 => k_is)
    (case k25 => k_is)
    (case a26 => k_is)
    (case l26 => k_is)
    (case c26 => k_is)
    (case k26 => k_is)
    (case a27 => k_is)
    (case l27 => k_is)
    (case c27 => k_is)
    (case k27 => k_is)
    (case a28 => k_is)
    (case l28 => k_is)
    (case c28 => k_is)
    (case k28 => k_is)
    (case a29 => k_is)
    (case l29 => k_is)
    (case c29 => k_is)
    (case k29 => k_is)
    (case a30 => k_is)
    (case l30 => k_is)
    (case c30 => k_is)
    (case k30 => k_is)
    (case a31 => k_is)
    (case l31 => k_is)
    (case c31 => k_is)
    (case k31 => k_is)
    (case a32 => k_is)
    (case l32 => k_is)
    (case c32 => k_is)
    (case k32 => k_is)
    (case a33 => k_is)
    (case l33 => k_is)
    (case c33 => k_is)
    (case k33 => k_is)
    (case a34 => k_is)
    (case l34 => k_is)
    (case c34 => k_is)
    (case k34 => k_is)
    (case a35 => k_is)
    (case l35 => k_is)
    (case c35 => k_is)
    (case k35 => k_is)
    (case a36 => k_is)
    (case l36 => k_is)
    (case c36 => k_is)
    (case k36 => k_is)
    (case a37 => k_is)
    (case l37 => k_is)
    (case c37 => k_is)
    (case k37 => k_is)
    (case a38 => k_is)
    (case l38 => k_is)
    (case c38 => k_is)
    (case k38 => k_is)
    (case a39 => k_is)
    (case l39 => k_is)
    (case c39 => k_is)
    (case k39 => k_is)
    (case a40 => k_is)
    (case l40 => k_is)
    (case c40 => k_is)
    (case k40 => k_is)
    (case a41 => k_is)
    (case l41 => k_is)
    (case c41 => k_is)
    (case k41 => k_is)
    (case a42 => k_is)
    (case l42 => k_is)
    (case c42 => k_is)
    (case k42 => k_is)
    (case a43 => k_is)
    (case l43 => k_is)
    (case c43 => k_is)
    (case k43 => k_is)
    (case a44 => k_is)
    (case l44 => k_is)
    (case c44 => k_is)
    (case k44 => k_is)
    (case a45 => k_is)
    (case l45 => k_is)
    (case c45 => k_is)
    (case k45 => k_is)
    (case a46 => k_is)
    (case l46 => k_is)
    (case c46 => k_is)
    (case k46 => k_is)
    (case a47 => k_is)
    (case l47 => k_is)
    (case c47 => k_is)
    (case k47 => k_is)
    (case a48 => k_is)
    (case i48 => k_is)
    (case l48 => k_is)
    (case c48 => k_is)
    (case k48 => k_is)
    (case a49 => k_is)
    (case i49 => k_is)
    (case l49 => k_is)
    (case c49 => k_is)
    (case k49 => k_is)
    (case a50 => k_is)
    (case i50 => k_is)
    (case l50 => k_is)
    (case c50 => k_is)
    (case k50 => k_is)
    (case a51 => k_is)
    (case i51 => k_is)
    (case l51 => k_is)
    (case c51 => k_is)
    (case k51 => k_is)
    (case a52 => k_is)
    (case i52 => k_is)
    (case l52 => k_is)
    (case c52 => k_is)
    (case k52 => k_is)
    (case a53 => k_is)
    (case i53 => k_is)
    (case l53 => k_is)
    (case c53 => k_is)
    (case k53 => k_is)
    (case a54 => k_is)
    (case i54 => k_is)
    (case l54 => k_is)
    (case c54 => k_is)
    (case k54 => k_is)
    (case a55 => k_is)
    (case i55 => k_is)
    (case l55 => k_is)
    (case c55 => k_is)
    (case k55 => k_is)
    (case a56 => k_is)
    (case i56 => k_is)
    (case l56 => k_is)
    (case c56 => k_is)
    (case k56 => k_is)
    (case a57 => k_is)
    (case i57 => k_is)
    (case l57 => k_is)
    (case c57 => k_is)
    (case k57 => k_is)
    (case a58 => k_is)
    (case i58 => k_is)
    (case l58 => k_is)
    (case c58 => k_is)
    (case k58 => k_is)
    (case a59 => k_is)
    (case i59 => k_is)
    (case l59 => k_is)
    (case c59 => k_is)
    (case k59 => k_is)
    (case a60 => k_is)
    (case i60 => k_is)
    (case l60 => k_is)
    (case c60 => k_is)
    (case k60 => k_is)
    (case a61 => k_is)
    (case i61 => k_is)
    (case l61 => k_is)
    (case c61 => k_is)
    (case k61 => k_is)
    (case a62 => k_is)
    (case i62 => k_is)
    (case l62 => k_is)
    (case c62 => k_is)
    (case k62 => k_is)
    (case a63 => k_is)
    (case i63 => k_is)
    (case l63 => k_is)
    (case c63 => k_is)
    (case k63 => k_is)
    (case a64 => k_is)
    (case i64 => k_is)
    (case l64 => k_is)
    (case c64 => k_is)
    (case k64 => k_is)
    (case a65 => k_is)
    (case i65 => k_is)
    (case l65 => k_is)
    (case c65 => k_is)
    (case k65 => k_is)
    (case z0 => k_is)
    (case z1 => k_is)
    (case z2 => k_is)
    (case z3 => k_is)
    (case z4 => k_is)
    (case z5 => k_is)
    (case z6 => k_is)
    (case z7 => k_is)
    (case z8 => k_is)
    (case z9 => k_is)
    (case z10 => k_is)
    (case z11 => k_is)
    (case z12 => k_is)
    (case y0 => k_is)
    (case y1 => k_is)
    (case y2 => k_is)
    (case y3 => k_is)
    (case q0 => k_is)
    (case e0 => k_exc)
    (case q1 => k_is)
    (case e1 => k_exc)
    (case q2 => k_is)
    (case e2 => k_exc)
    (case q3 => k_is)
    (case e3 => k_exc)
    (case q4 => k_is)
    (case e4 => k_exc)
    (case q5 => k_is)
    (case e5 => k_exc)
    (case q6 => k_is)
    (case e6 => k_exc)
    (case q7 => k_is)
    (case e7 => k_exc)
    (case kt => rfl)
    (case ia => rfl)
    (case ve => rfl)
    (case fc => rfl)
    (case fg => rfl)
    (case fga => rfl)
