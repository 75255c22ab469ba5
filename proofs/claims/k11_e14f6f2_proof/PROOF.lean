import PyProof.Rows.All
import Wide.All
import OpenK.AllK
import Wide.FinOn
import Lean
import PyProof.EqAt
import PyProof.EqKinds
import PyProof.TupleCall
import KE.KIntText
import PySem.Challenge.RW_commonform_k11_whole_texts_read_or_refus
set_option Elab.async false
set_option linter.all false
set_option maxRecDepth 100000
theorem el_0_2 {P1 : Prop} {P2 : Prop} {G : Prop} (h : P1 ∧ P2) (k : P1 → P2 → G) : G := k h.1 h.2
theorem el_0_3 {P1 : Prop} {P2 : Prop} {P3 : Prop} {G : Prop} (h : P1 ∧ P2 ∧ P3) (k : P1 → P2 → P3 → G) : G := k h.1 h.2.1 h.2.2
theorem el_0_4 {P1 : Prop} {P2 : Prop} {P3 : Prop} {P4 : Prop} {G : Prop} (h : P1 ∧ P2 ∧ P3 ∧ P4) (k : P1 → P2 → P3 → P4 → G) : G := k h.1 h.2.1 h.2.2.1 h.2.2.2
theorem el_0_5 {P1 : Prop} {P2 : Prop} {P3 : Prop} {P4 : Prop} {P5 : Prop} {G : Prop} (h : P1 ∧ P2 ∧ P3 ∧ P4 ∧ P5) (k : P1 → P2 → P3 → P4 → P5 → G) : G := k h.1 h.2.1 h.2.2.1 h.2.2.2.1 h.2.2.2.2
theorem el_0_6 {P1 : Prop} {P2 : Prop} {P3 : Prop} {P4 : Prop} {P5 : Prop} {P6 : Prop} {G : Prop} (h : P1 ∧ P2 ∧ P3 ∧ P4 ∧ P5 ∧ P6) (k : P1 → P2 → P3 → P4 → P5 → P6 → G) : G := k h.1 h.2.1 h.2.2.1 h.2.2.2.1 h.2.2.2.2.1 h.2.2.2.2.2
theorem el_1_1 {a1 : Sort _} {P1 : a1 → Prop} {G : Prop} (h : ∃ x1, P1 x1) (k : ∀ x1, P1 x1 → G) : G := h.elim fun x1 h => k x1 h
theorem el_1_2 {a1 : Sort _} {P1 : a1 → Prop} {P2 : a1 → Prop} {G : Prop} (h : ∃ x1, P1 x1 ∧ P2 x1) (k : ∀ x1, P1 x1 → P2 x1 → G) : G := h.elim fun x1 h => k x1 h.1 h.2
theorem el_1_3 {a1 : Sort _} {P1 : a1 → Prop} {P2 : a1 → Prop} {P3 : a1 → Prop} {G : Prop} (h : ∃ x1, P1 x1 ∧ P2 x1 ∧ P3 x1) (k : ∀ x1, P1 x1 → P2 x1 → P3 x1 → G) : G := h.elim fun x1 h => k x1 h.1 h.2.1 h.2.2
theorem el_1_4 {a1 : Sort _} {P1 : a1 → Prop} {P2 : a1 → Prop} {P3 : a1 → Prop} {P4 : a1 → Prop} {G : Prop} (h : ∃ x1, P1 x1 ∧ P2 x1 ∧ P3 x1 ∧ P4 x1) (k : ∀ x1, P1 x1 → P2 x1 → P3 x1 → P4 x1 → G) : G := h.elim fun x1 h => k x1 h.1 h.2.1 h.2.2.1 h.2.2.2
theorem el_1_5 {a1 : Sort _} {P1 : a1 → Prop} {P2 : a1 → Prop} {P3 : a1 → Prop} {P4 : a1 → Prop} {P5 : a1 → Prop} {G : Prop} (h : ∃ x1, P1 x1 ∧ P2 x1 ∧ P3 x1 ∧ P4 x1 ∧ P5 x1) (k : ∀ x1, P1 x1 → P2 x1 → P3 x1 → P4 x1 → P5 x1 → G) : G := h.elim fun x1 h => k x1 h.1 h.2.1 h.2.2.1 h.2.2.2.1 h.2.2.2.2
theorem el_2_1 {a1 : Sort _} {a2 : Sort _} {P1 : a1 → a2 → Prop} {G : Prop} (h : ∃ x1 x2, P1 x1 x2) (k : ∀ x1 x2, P1 x1 x2 → G) : G := h.elim fun x1 h => h.elim fun x2 h => k x1 x2 h
theorem el_2_2 {a1 : Sort _} {a2 : Sort _} {P1 : a1 → a2 → Prop} {P2 : a1 → a2 → Prop} {G : Prop} (h : ∃ x1 x2, P1 x1 x2 ∧ P2 x1 x2) (k : ∀ x1 x2, P1 x1 x2 → P2 x1 x2 → G) : G := h.elim fun x1 h => h.elim fun x2 h => k x1 x2 h.1 h.2
theorem el_2_3 {a1 : Sort _} {a2 : Sort _} {P1 : a1 → a2 → Prop} {P2 : a1 → a2 → Prop} {P3 : a1 → a2 → Prop} {G : Prop} (h : ∃ x1 x2, P1 x1 x2 ∧ P2 x1 x2 ∧ P3 x1 x2) (k : ∀ x1 x2, P1 x1 x2 → P2 x1 x2 → P3 x1 x2 → G) : G := h.elim fun x1 h => h.elim fun x2 h => k x1 x2 h.1 h.2.1 h.2.2
theorem el_2_4 {a1 : Sort _} {a2 : Sort _} {P1 : a1 → a2 → Prop} {P2 : a1 → a2 → Prop} {P3 : a1 → a2 → Prop} {P4 : a1 → a2 → Prop} {G : Prop} (h : ∃ x1 x2, P1 x1 x2 ∧ P2 x1 x2 ∧ P3 x1 x2 ∧ P4 x1 x2) (k : ∀ x1 x2, P1 x1 x2 → P2 x1 x2 → P3 x1 x2 → P4 x1 x2 → G) : G := h.elim fun x1 h => h.elim fun x2 h => k x1 x2 h.1 h.2.1 h.2.2.1 h.2.2.2
theorem el_2_5 {a1 : Sort _} {a2 : Sort _} {P1 : a1 → a2 → Prop} {P2 : a1 → a2 → Prop} {P3 : a1 → a2 → Prop} {P4 : a1 → a2 → Prop} {P5 : a1 → a2 → Prop} {G : Prop} (h : ∃ x1 x2, P1 x1 x2 ∧ P2 x1 x2 ∧ P3 x1 x2 ∧ P4 x1 x2 ∧ P5 x1 x2) (k : ∀ x1 x2, P1 x1 x2 → P2 x1 x2 → P3 x1 x2 → P4 x1 x2 → P5 x1 x2 → G) : G := h.elim fun x1 h => h.elim fun x2 h => k x1 x2 h.1 h.2.1 h.2.2.1 h.2.2.2.1 h.2.2.2.2
theorem el_2_6 {a1 : Sort _} {a2 : Sort _} {P1 : a1 → a2 → Prop} {P2 : a1 → a2 → Prop} {P3 : a1 → a2 → Prop} {P4 : a1 → a2 → Prop} {P5 : a1 → a2 → Prop} {P6 : a1 → a2 → Prop} {G : Prop} (h : ∃ x1 x2, P1 x1 x2 ∧ P2 x1 x2 ∧ P3 x1 x2 ∧ P4 x1 x2 ∧ P5 x1 x2 ∧ P6 x1 x2) (k : ∀ x1 x2, P1 x1 x2 → P2 x1 x2 → P3 x1 x2 → P4 x1 x2 → P5 x1 x2 → P6 x1 x2 → G) : G := h.elim fun x1 h => h.elim fun x2 h => k x1 x2 h.1 h.2.1 h.2.2.1 h.2.2.2.1 h.2.2.2.2.1 h.2.2.2.2.2
theorem el_2_7 {a1 : Sort _} {a2 : Sort _} {P1 : a1 → a2 → Prop} {P2 : a1 → a2 → Prop} {P3 : a1 → a2 → Prop} {P4 : a1 → a2 → Prop} {P5 : a1 → a2 → Prop} {P6 : a1 → a2 → Prop} {P7 : a1 → a2 → Prop} {G : Prop} (h : ∃ x1 x2, P1 x1 x2 ∧ P2 x1 x2 ∧ P3 x1 x2 ∧ P4 x1 x2 ∧ P5 x1 x2 ∧ P6 x1 x2 ∧ P7 x1 x2) (k : ∀ x1 x2, P1 x1 x2 → P2 x1 x2 → P3 x1 x2 → P4 x1 x2 → P5 x1 x2 → P6 x1 x2 → P7 x1 x2 → G) : G := h.elim fun x1 h => h.elim fun x2 h => k x1 x2 h.1 h.2.1 h.2.2.1 h.2.2.2.1 h.2.2.2.2.1 h.2.2.2.2.2.1 h.2.2.2.2.2.2
theorem el_3_2 {a1 : Sort _} {a2 : Sort _} {a3 : Sort _} {P1 : a1 → a2 → a3 → Prop} {P2 : a1 → a2 → a3 → Prop} {G : Prop} (h : ∃ x1 x2 x3, P1 x1 x2 x3 ∧ P2 x1 x2 x3) (k : ∀ x1 x2 x3, P1 x1 x2 x3 → P2 x1 x2 x3 → G) : G := h.elim fun x1 h => h.elim fun x2 h => h.elim fun x3 h => k x1 x2 x3 h.1 h.2
theorem el_3_3 {a1 : Sort _} {a2 : Sort _} {a3 : Sort _} {P1 : a1 → a2 → a3 → Prop} {P2 : a1 → a2 → a3 → Prop} {P3 : a1 → a2 → a3 → Prop} {G : Prop} (h : ∃ x1 x2 x3, P1 x1 x2 x3 ∧ P2 x1 x2 x3 ∧ P3 x1 x2 x3) (k : ∀ x1 x2 x3, P1 x1 x2 x3 → P2 x1 x2 x3 → P3 x1 x2 x3 → G) : G := h.elim fun x1 h => h.elim fun x2 h => h.elim fun x3 h => k x1 x2 x3 h.1 h.2.1 h.2.2
theorem el_3_4 {a1 : Sort _} {a2 : Sort _} {a3 : Sort _} {P1 : a1 → a2 → a3 → Prop} {P2 : a1 → a2 → a3 → Prop} {P3 : a1 → a2 → a3 → Prop} {P4 : a1 → a2 → a3 → Prop} {G : Prop} (h : ∃ x1 x2 x3, P1 x1 x2 x3 ∧ P2 x1 x2 x3 ∧ P3 x1 x2 x3 ∧ P4 x1 x2 x3) (k : ∀ x1 x2 x3, P1 x1 x2 x3 → P2 x1 x2 x3 → P3 x1 x2 x3 → P4 x1 x2 x3 → G) : G := h.elim fun x1 h => h.elim fun x2 h => h.elim fun x3 h => k x1 x2 x3 h.1 h.2.1 h.2.2.1 h.2.2.2
theorem el_3_5 {a1 : Sort _} {a2 : Sort _} {a3 : Sort _} {P1 : a1 → a2 → a3 → Prop} {P2 : a1 → a2 → a3 → Prop} {P3 : a1 → a2 → a3 → Prop} {P4 : a1 → a2 → a3 → Prop} {P5 : a1 → a2 → a3 → Prop} {G : Prop} (h : ∃ x1 x2 x3, P1 x1 x2 x3 ∧ P2 x1 x2 x3 ∧ P3 x1 x2 x3 ∧ P4 x1 x2 x3 ∧ P5 x1 x2 x3) (k : ∀ x1 x2 x3, P1 x1 x2 x3 → P2 x1 x2 x3 → P3 x1 x2 x3 → P4 x1 x2 x3 → P5 x1 x2 x3 → G) : G := h.elim fun x1 h => h.elim fun x2 h => h.elim fun x3 h => k x1 x2 x3 h.1 h.2.1 h.2.2.1 h.2.2.2.1 h.2.2.2.2
theorem el_3_7 {a1 : Sort _} {a2 : Sort _} {a3 : Sort _} {P1 : a1 → a2 → a3 → Prop} {P2 : a1 → a2 → a3 → Prop} {P3 : a1 → a2 → a3 → Prop} {P4 : a1 → a2 → a3 → Prop} {P5 : a1 → a2 → a3 → Prop} {P6 : a1 → a2 → a3 → Prop} {P7 : a1 → a2 → a3 → Prop} {G : Prop} (h : ∃ x1 x2 x3, P1 x1 x2 x3 ∧ P2 x1 x2 x3 ∧ P3 x1 x2 x3 ∧ P4 x1 x2 x3 ∧ P5 x1 x2 x3 ∧ P6 x1 x2 x3 ∧ P7 x1 x2 x3) (k : ∀ x1 x2 x3, P1 x1 x2 x3 → P2 x1 x2 x3 → P3 x1 x2 x3 → P4 x1 x2 x3 → P5 x1 x2 x3 → P6 x1 x2 x3 → P7 x1 x2 x3 → G) : G := h.elim fun x1 h => h.elim fun x2 h => h.elim fun x3 h => k x1 x2 x3 h.1 h.2.1 h.2.2.1 h.2.2.2.1 h.2.2.2.2.1 h.2.2.2.2.2.1 h.2.2.2.2.2.2
theorem el_4_3 {a1 : Sort _} {a2 : Sort _} {a3 : Sort _} {a4 : Sort _} {P1 : a1 → a2 → a3 → a4 → Prop} {P2 : a1 → a2 → a3 → a4 → Prop} {P3 : a1 → a2 → a3 → a4 → Prop} {G : Prop} (h : ∃ x1 x2 x3 x4, P1 x1 x2 x3 x4 ∧ P2 x1 x2 x3 x4 ∧ P3 x1 x2 x3 x4) (k : ∀ x1 x2 x3 x4, P1 x1 x2 x3 x4 → P2 x1 x2 x3 x4 → P3 x1 x2 x3 x4 → G) : G := h.elim fun x1 h => h.elim fun x2 h => h.elim fun x3 h => h.elim fun x4 h => k x1 x2 x3 x4 h.1 h.2.1 h.2.2
theorem el_4_4 {a1 : Sort _} {a2 : Sort _} {a3 : Sort _} {a4 : Sort _} {P1 : a1 → a2 → a3 → a4 → Prop} {P2 : a1 → a2 → a3 → a4 → Prop} {P3 : a1 → a2 → a3 → a4 → Prop} {P4 : a1 → a2 → a3 → a4 → Prop} {G : Prop} (h : ∃ x1 x2 x3 x4, P1 x1 x2 x3 x4 ∧ P2 x1 x2 x3 x4 ∧ P3 x1 x2 x3 x4 ∧ P4 x1 x2 x3 x4) (k : ∀ x1 x2 x3 x4, P1 x1 x2 x3 x4 → P2 x1 x2 x3 x4 → P3 x1 x2 x3 x4 → P4 x1 x2 x3 x4 → G) : G := h.elim fun x1 h => h.elim fun x2 h => h.elim fun x3 h => h.elim fun x4 h => k x1 x2 x3 x4 h.1 h.2.1 h.2.2.1 h.2.2.2
theorem el_4_5 {a1 : Sort _} {a2 : Sort _} {a3 : Sort _} {a4 : Sort _} {P1 : a1 → a2 → a3 → a4 → Prop} {P2 : a1 → a2 → a3 → a4 → Prop} {P3 : a1 → a2 → a3 → a4 → Prop} {P4 : a1 → a2 → a3 → a4 → Prop} {P5 : a1 → a2 → a3 → a4 → Prop} {G : Prop} (h : ∃ x1 x2 x3 x4, P1 x1 x2 x3 x4 ∧ P2 x1 x2 x3 x4 ∧ P3 x1 x2 x3 x4 ∧ P4 x1 x2 x3 x4 ∧ P5 x1 x2 x3 x4) (k : ∀ x1 x2 x3 x4, P1 x1 x2 x3 x4 → P2 x1 x2 x3 x4 → P3 x1 x2 x3 x4 → P4 x1 x2 x3 x4 → P5 x1 x2 x3 x4 → G) : G := h.elim fun x1 h => h.elim fun x2 h => h.elim fun x3 h => h.elim fun x4 h => k x1 x2 x3 x4 h.1 h.2.1 h.2.2.1 h.2.2.2.1 h.2.2.2.2
theorem el_4_8 {a1 : Sort _} {a2 : Sort _} {a3 : Sort _} {a4 : Sort _} {P1 : a1 → a2 → a3 → a4 → Prop} {P2 : a1 → a2 → a3 → a4 → Prop} {P3 : a1 → a2 → a3 → a4 → Prop} {P4 : a1 → a2 → a3 → a4 → Prop} {P5 : a1 → a2 → a3 → a4 → Prop} {P6 : a1 → a2 → a3 → a4 → Prop} {P7 : a1 → a2 → a3 → a4 → Prop} {P8 : a1 → a2 → a3 → a4 → Prop} {G : Prop} (h : ∃ x1 x2 x3 x4, P1 x1 x2 x3 x4 ∧ P2 x1 x2 x3 x4 ∧ P3 x1 x2 x3 x4 ∧ P4 x1 x2 x3 x4 ∧ P5 x1 x2 x3 x4 ∧ P6 x1 x2 x3 x4 ∧ P7 x1 x2 x3 x4 ∧ P8 x1 x2 x3 x4) (k : ∀ x1 x2 x3 x4, P1 x1 x2 x3 x4 → P2 x1 x2 x3 x4 → P3 x1 x2 x3 x4 → P4 x1 x2 x3 x4 → P5 x1 x2 x3 x4 → P6 x1 x2 x3 x4 → P7 x1 x2 x3 x4 → P8 x1 x2 x3 x4 → G) : G := h.elim fun x1 h => h.elim fun x2 h => h.elim fun x3 h => h.elim fun x4 h => k x1 x2 x3 x4 h.1 h.2.1 h.2.2.1 h.2.2.2.1 h.2.2.2.2.1 h.2.2.2.2.2.1 h.2.2.2.2.2.2.1 h.2.2.2.2.2.2.2
theorem el_4_11 {a1 : Sort _} {a2 : Sort _} {a3 : Sort _} {a4 : Sort _} {P1 : a1 → a2 → a3 → a4 → Prop} {P2 : a1 → a2 → a3 → a4 → Prop} {P3 : a1 → a2 → a3 → a4 → Prop} {P4 : a1 → a2 → a3 → a4 → Prop} {P5 : a1 → a2 → a3 → a4 → Prop} {P6 : a1 → a2 → a3 → a4 → Prop} {P7 : a1 → a2 → a3 → a4 → Prop} {P8 : a1 → a2 → a3 → a4 → Prop} {P9 : a1 → a2 → a3 → a4 → Prop} {P10 : a1 → a2 → a3 → a4 → Prop} {P11 : a1 → a2 → a3 → a4 → Prop} {G : Prop} (h : ∃ x1 x2 x3 x4, P1 x1 x2 x3 x4 ∧ P2 x1 x2 x3 x4 ∧ P3 x1 x2 x3 x4 ∧ P4 x1 x2 x3 x4 ∧ P5 x1 x2 x3 x4 ∧ P6 x1 x2 x3 x4 ∧ P7 x1 x2 x3 x4 ∧ P8 x1 x2 x3 x4 ∧ P9 x1 x2 x3 x4 ∧ P10 x1 x2 x3 x4 ∧ P11 x1 x2 x3 x4) (k : ∀ x1 x2 x3 x4, P1 x1 x2 x3 x4 → P2 x1 x2 x3 x4 → P3 x1 x2 x3 x4 → P4 x1 x2 x3 x4 → P5 x1 x2 x3 x4 → P6 x1 x2 x3 x4 → P7 x1 x2 x3 x4 → P8 x1 x2 x3 x4 → P9 x1 x2 x3 x4 → P10 x1 x2 x3 x4 → P11 x1 x2 x3 x4 → G) : G := h.elim fun x1 h => h.elim fun x2 h => h.elim fun x3 h => h.elim fun x4 h => k x1 x2 x3 x4 h.1 h.2.1 h.2.2.1 h.2.2.2.1 h.2.2.2.2.1 h.2.2.2.2.2.1 h.2.2.2.2.2.2.1 h.2.2.2.2.2.2.2.1 h.2.2.2.2.2.2.2.2.1 h.2.2.2.2.2.2.2.2.2.1 h.2.2.2.2.2.2.2.2.2.2
theorem el_5_3 {a1 : Sort _} {a2 : Sort _} {a3 : Sort _} {a4 : Sort _} {a5 : Sort _} {P1 : a1 → a2 → a3 → a4 → a5 → Prop} {P2 : a1 → a2 → a3 → a4 → a5 → Prop} {P3 : a1 → a2 → a3 → a4 → a5 → Prop} {G : Prop} (h : ∃ x1 x2 x3 x4 x5, P1 x1 x2 x3 x4 x5 ∧ P2 x1 x2 x3 x4 x5 ∧ P3 x1 x2 x3 x4 x5) (k : ∀ x1 x2 x3 x4 x5, P1 x1 x2 x3 x4 x5 → P2 x1 x2 x3 x4 x5 → P3 x1 x2 x3 x4 x5 → G) : G := h.elim fun x1 h => h.elim fun x2 h => h.elim fun x3 h => h.elim fun x4 h => h.elim fun x5 h => k x1 x2 x3 x4 x5 h.1 h.2.1 h.2.2
theorem el_5_4 {a1 : Sort _} {a2 : Sort _} {a3 : Sort _} {a4 : Sort _} {a5 : Sort _} {P1 : a1 → a2 → a3 → a4 → a5 → Prop} {P2 : a1 → a2 → a3 → a4 → a5 → Prop} {P3 : a1 → a2 → a3 → a4 → a5 → Prop} {P4 : a1 → a2 → a3 → a4 → a5 → Prop} {G : Prop} (h : ∃ x1 x2 x3 x4 x5, P1 x1 x2 x3 x4 x5 ∧ P2 x1 x2 x3 x4 x5 ∧ P3 x1 x2 x3 x4 x5 ∧ P4 x1 x2 x3 x4 x5) (k : ∀ x1 x2 x3 x4 x5, P1 x1 x2 x3 x4 x5 → P2 x1 x2 x3 x4 x5 → P3 x1 x2 x3 x4 x5 → P4 x1 x2 x3 x4 x5 → G) : G := h.elim fun x1 h => h.elim fun x2 h => h.elim fun x3 h => h.elim fun x4 h => h.elim fun x5 h => k x1 x2 x3 x4 x5 h.1 h.2.1 h.2.2.1 h.2.2.2
theorem el_5_5 {a1 : Sort _} {a2 : Sort _} {a3 : Sort _} {a4 : Sort _} {a5 : Sort _} {P1 : a1 → a2 → a3 → a4 → a5 → Prop} {P2 : a1 → a2 → a3 → a4 → a5 → Prop} {P3 : a1 → a2 → a3 → a4 → a5 → Prop} {P4 : a1 → a2 → a3 → a4 → a5 → Prop} {P5 : a1 → a2 → a3 → a4 → a5 → Prop} {G : Prop} (h : ∃ x1 x2 x3 x4 x5, P1 x1 x2 x3 x4 x5 ∧ P2 x1 x2 x3 x4 x5 ∧ P3 x1 x2 x3 x4 x5 ∧ P4 x1 x2 x3 x4 x5 ∧ P5 x1 x2 x3 x4 x5) (k : ∀ x1 x2 x3 x4 x5, P1 x1 x2 x3 x4 x5 → P2 x1 x2 x3 x4 x5 → P3 x1 x2 x3 x4 x5 → P4 x1 x2 x3 x4 x5 → P5 x1 x2 x3 x4 x5 → G) : G := h.elim fun x1 h => h.elim fun x2 h => h.elim fun x3 h => h.elim fun x4 h => h.elim fun x5 h => k x1 x2 x3 x4 x5 h.1 h.2.1 h.2.2.1 h.2.2.2.1 h.2.2.2.2
theorem el_5_6 {a1 : Sort _} {a2 : Sort _} {a3 : Sort _} {a4 : Sort _} {a5 : Sort _} {P1 : a1 → a2 → a3 → a4 → a5 → Prop} {P2 : a1 → a2 → a3 → a4 → a5 → Prop} {P3 : a1 → a2 → a3 → a4 → a5 → Prop} {P4 : a1 → a2 → a3 → a4 → a5 → Prop} {P5 : a1 → a2 → a3 → a4 → a5 → Prop} {P6 : a1 → a2 → a3 → a4 → a5 → Prop} {G : Prop} (h : ∃ x1 x2 x3 x4 x5, P1 x1 x2 x3 x4 x5 ∧ P2 x1 x2 x3 x4 x5 ∧ P3 x1 x2 x3 x4 x5 ∧ P4 x1 x2 x3 x4 x5 ∧ P5 x1 x2 x3 x4 x5 ∧ P6 x1 x2 x3 x4 x5) (k : ∀ x1 x2 x3 x4 x5, P1 x1 x2 x3 x4 x5 → P2 x1 x2 x3 x4 x5 → P3 x1 x2 x3 x4 x5 → P4 x1 x2 x3 x4 x5 → P5 x1 x2 x3 x4 x5 → P6 x1 x2 x3 x4 x5 → G) : G := h.elim fun x1 h => h.elim fun x2 h => h.elim fun x3 h => h.elim fun x4 h => h.elim fun x5 h => k x1 x2 x3 x4 x5 h.1 h.2.1 h.2.2.1 h.2.2.2.1 h.2.2.2.2.1 h.2.2.2.2.2
theorem el_5_8 {a1 : Sort _} {a2 : Sort _} {a3 : Sort _} {a4 : Sort _} {a5 : Sort _} {P1 : a1 → a2 → a3 → a4 → a5 → Prop} {P2 : a1 → a2 → a3 → a4 → a5 → Prop} {P3 : a1 → a2 → a3 → a4 → a5 → Prop} {P4 : a1 → a2 → a3 → a4 → a5 → Prop} {P5 : a1 → a2 → a3 → a4 → a5 → Prop} {P6 : a1 → a2 → a3 → a4 → a5 → Prop} {P7 : a1 → a2 → a3 → a4 → a5 → Prop} {P8 : a1 → a2 → a3 → a4 → a5 → Prop} {G : Prop} (h : ∃ x1 x2 x3 x4 x5, P1 x1 x2 x3 x4 x5 ∧ P2 x1 x2 x3 x4 x5 ∧ P3 x1 x2 x3 x4 x5 ∧ P4 x1 x2 x3 x4 x5 ∧ P5 x1 x2 x3 x4 x5 ∧ P6 x1 x2 x3 x4 x5 ∧ P7 x1 x2 x3 x4 x5 ∧ P8 x1 x2 x3 x4 x5) (k : ∀ x1 x2 x3 x4 x5, P1 x1 x2 x3 x4 x5 → P2 x1 x2 x3 x4 x5 → P3 x1 x2 x3 x4 x5 → P4 x1 x2 x3 x4 x5 → P5 x1 x2 x3 x4 x5 → P6 x1 x2 x3 x4 x5 → P7 x1 x2 x3 x4 x5 → P8 x1 x2 x3 x4 x5 → G) : G := h.elim fun x1 h => h.elim fun x2 h => h.elim fun x3 h => h.elim fun x4 h => h.elim fun x5 h => k x1 x2 x3 x4 x5 h.1 h.2.1 h.2.2.1 h.2.2.2.1 h.2.2.2.2.1 h.2.2.2.2.2.1 h.2.2.2.2.2.2.1 h.2.2.2.2.2.2.2
theorem el_5_9 {a1 : Sort _} {a2 : Sort _} {a3 : Sort _} {a4 : Sort _} {a5 : Sort _} {P1 : a1 → a2 → a3 → a4 → a5 → Prop} {P2 : a1 → a2 → a3 → a4 → a5 → Prop} {P3 : a1 → a2 → a3 → a4 → a5 → Prop} {P4 : a1 → a2 → a3 → a4 → a5 → Prop} {P5 : a1 → a2 → a3 → a4 → a5 → Prop} {P6 : a1 → a2 → a3 → a4 → a5 → Prop} {P7 : a1 → a2 → a3 → a4 → a5 → Prop} {P8 : a1 → a2 → a3 → a4 → a5 → Prop} {P9 : a1 → a2 → a3 → a4 → a5 → Prop} {G : Prop} (h : ∃ x1 x2 x3 x4 x5, P1 x1 x2 x3 x4 x5 ∧ P2 x1 x2 x3 x4 x5 ∧ P3 x1 x2 x3 x4 x5 ∧ P4 x1 x2 x3 x4 x5 ∧ P5 x1 x2 x3 x4 x5 ∧ P6 x1 x2 x3 x4 x5 ∧ P7 x1 x2 x3 x4 x5 ∧ P8 x1 x2 x3 x4 x5 ∧ P9 x1 x2 x3 x4 x5) (k : ∀ x1 x2 x3 x4 x5, P1 x1 x2 x3 x4 x5 → P2 x1 x2 x3 x4 x5 → P3 x1 x2 x3 x4 x5 → P4 x1 x2 x3 x4 x5 → P5 x1 x2 x3 x4 x5 → P6 x1 x2 x3 x4 x5 → P7 x1 x2 x3 x4 x5 → P8 x1 x2 x3 x4 x5 → P9 x1 x2 x3 x4 x5 → G) : G := h.elim fun x1 h => h.elim fun x2 h => h.elim fun x3 h => h.elim fun x4 h => h.elim fun x5 h => k x1 x2 x3 x4 x5 h.1 h.2.1 h.2.2.1 h.2.2.2.1 h.2.2.2.2.1 h.2.2.2.2.2.1 h.2.2.2.2.2.2.1 h.2.2.2.2.2.2.2.1 h.2.2.2.2.2.2.2.2
theorem el_6_3 {a1 : Sort _} {a2 : Sort _} {a3 : Sort _} {a4 : Sort _} {a5 : Sort _} {a6 : Sort _} {P1 : a1 → a2 → a3 → a4 → a5 → a6 → Prop} {P2 : a1 → a2 → a3 → a4 → a5 → a6 → Prop} {P3 : a1 → a2 → a3 → a4 → a5 → a6 → Prop} {G : Prop} (h : ∃ x1 x2 x3 x4 x5 x6, P1 x1 x2 x3 x4 x5 x6 ∧ P2 x1 x2 x3 x4 x5 x6 ∧ P3 x1 x2 x3 x4 x5 x6) (k : ∀ x1 x2 x3 x4 x5 x6, P1 x1 x2 x3 x4 x5 x6 → P2 x1 x2 x3 x4 x5 x6 → P3 x1 x2 x3 x4 x5 x6 → G) : G := h.elim fun x1 h => h.elim fun x2 h => h.elim fun x3 h => h.elim fun x4 h => h.elim fun x5 h => h.elim fun x6 h => k x1 x2 x3 x4 x5 x6 h.1 h.2.1 h.2.2
theorem el_6_4 {a1 : Sort _} {a2 : Sort _} {a3 : Sort _} {a4 : Sort _} {a5 : Sort _} {a6 : Sort _} {P1 : a1 → a2 → a3 → a4 → a5 → a6 → Prop} {P2 : a1 → a2 → a3 → a4 → a5 → a6 → Prop} {P3 : a1 → a2 → a3 → a4 → a5 → a6 → Prop} {P4 : a1 → a2 → a3 → a4 → a5 → a6 → Prop} {G : Prop} (h : ∃ x1 x2 x3 x4 x5 x6, P1 x1 x2 x3 x4 x5 x6 ∧ P2 x1 x2 x3 x4 x5 x6 ∧ P3 x1 x2 x3 x4 x5 x6 ∧ P4 x1 x2 x3 x4 x5 x6) (k : ∀ x1 x2 x3 x4 x5 x6, P1 x1 x2 x3 x4 x5 x6 → P2 x1 x2 x3 x4 x5 x6 → P3 x1 x2 x3 x4 x5 x6 → P4 x1 x2 x3 x4 x5 x6 → G) : G := h.elim fun x1 h => h.elim fun x2 h => h.elim fun x3 h => h.elim fun x4 h => h.elim fun x5 h => h.elim fun x6 h => k x1 x2 x3 x4 x5 x6 h.1 h.2.1 h.2.2.1 h.2.2.2
theorem el_6_6 {a1 : Sort _} {a2 : Sort _} {a3 : Sort _} {a4 : Sort _} {a5 : Sort _} {a6 : Sort _} {P1 : a1 → a2 → a3 → a4 → a5 → a6 → Prop} {P2 : a1 → a2 → a3 → a4 → a5 → a6 → Prop} {P3 : a1 → a2 → a3 → a4 → a5 → a6 → Prop} {P4 : a1 → a2 → a3 → a4 → a5 → a6 → Prop} {P5 : a1 → a2 → a3 → a4 → a5 → a6 → Prop} {P6 : a1 → a2 → a3 → a4 → a5 → a6 → Prop} {G : Prop} (h : ∃ x1 x2 x3 x4 x5 x6, P1 x1 x2 x3 x4 x5 x6 ∧ P2 x1 x2 x3 x4 x5 x6 ∧ P3 x1 x2 x3 x4 x5 x6 ∧ P4 x1 x2 x3 x4 x5 x6 ∧ P5 x1 x2 x3 x4 x5 x6 ∧ P6 x1 x2 x3 x4 x5 x6) (k : ∀ x1 x2 x3 x4 x5 x6, P1 x1 x2 x3 x4 x5 x6 → P2 x1 x2 x3 x4 x5 x6 → P3 x1 x2 x3 x4 x5 x6 → P4 x1 x2 x3 x4 x5 x6 → P5 x1 x2 x3 x4 x5 x6 → P6 x1 x2 x3 x4 x5 x6 → G) : G := h.elim fun x1 h => h.elim fun x2 h => h.elim fun x3 h => h.elim fun x4 h => h.elim fun x5 h => h.elim fun x6 h => k x1 x2 x3 x4 x5 x6 h.1 h.2.1 h.2.2.1 h.2.2.2.1 h.2.2.2.2.1 h.2.2.2.2.2
theorem el_7_3 {a1 : Sort _} {a2 : Sort _} {a3 : Sort _} {a4 : Sort _} {a5 : Sort _} {a6 : Sort _} {a7 : Sort _} {P1 : a1 → a2 → a3 → a4 → a5 → a6 → a7 → Prop} {P2 : a1 → a2 → a3 → a4 → a5 → a6 → a7 → Prop} {P3 : a1 → a2 → a3 → a4 → a5 → a6 → a7 → Prop} {G : Prop} (h : ∃ x1 x2 x3 x4 x5 x6 x7, P1 x1 x2 x3 x4 x5 x6 x7 ∧ P2 x1 x2 x3 x4 x5 x6 x7 ∧ P3 x1 x2 x3 x4 x5 x6 x7) (k : ∀ x1 x2 x3 x4 x5 x6 x7, P1 x1 x2 x3 x4 x5 x6 x7 → P2 x1 x2 x3 x4 x5 x6 x7 → P3 x1 x2 x3 x4 x5 x6 x7 → G) : G := h.elim fun x1 h => h.elim fun x2 h => h.elim fun x3 h => h.elim fun x4 h => h.elim fun x5 h => h.elim fun x6 h => h.elim fun x7 h => k x1 x2 x3 x4 x5 x6 x7 h.1 h.2.1 h.2.2
theorem el_7_8 {a1 : Sort _} {a2 : Sort _} {a3 : Sort _} {a4 : Sort _} {a5 : Sort _} {a6 : Sort _} {a7 : Sort _} {P1 : a1 → a2 → a3 → a4 → a5 → a6 → a7 → Prop} {P2 : a1 → a2 → a3 → a4 → a5 → a6 → a7 → Prop} {P3 : a1 → a2 → a3 → a4 → a5 → a6 → a7 → Prop} {P4 : a1 → a2 → a3 → a4 → a5 → a6 → a7 → Prop} {P5 : a1 → a2 → a3 → a4 → a5 → a6 → a7 → Prop} {P6 : a1 → a2 → a3 → a4 → a5 → a6 → a7 → Prop} {P7 : a1 → a2 → a3 → a4 → a5 → a6 → a7 → Prop} {P8 : a1 → a2 → a3 → a4 → a5 → a6 → a7 → Prop} {G : Prop} (h : ∃ x1 x2 x3 x4 x5 x6 x7, P1 x1 x2 x3 x4 x5 x6 x7 ∧ P2 x1 x2 x3 x4 x5 x6 x7 ∧ P3 x1 x2 x3 x4 x5 x6 x7 ∧ P4 x1 x2 x3 x4 x5 x6 x7 ∧ P5 x1 x2 x3 x4 x5 x6 x7 ∧ P6 x1 x2 x3 x4 x5 x6 x7 ∧ P7 x1 x2 x3 x4 x5 x6 x7 ∧ P8 x1 x2 x3 x4 x5 x6 x7) (k : ∀ x1 x2 x3 x4 x5 x6 x7, P1 x1 x2 x3 x4 x5 x6 x7 → P2 x1 x2 x3 x4 x5 x6 x7 → P3 x1 x2 x3 x4 x5 x6 x7 → P4 x1 x2 x3 x4 x5 x6 x7 → P5 x1 x2 x3 x4 x5 x6 x7 → P6 x1 x2 x3 x4 x5 x6 x7 → P7 x1 x2 x3 x4 x5 x6 x7 → P8 x1 x2 x3 x4 x5 x6 x7 → G) : G := h.elim fun x1 h => h.elim fun x2 h => h.elim fun x3 h => h.elim fun x4 h => h.elim fun x5 h => h.elim fun x6 h => h.elim fun x7 h => k x1 x2 x3 x4 x5 x6 x7 h.1 h.2.1 h.2.2.1 h.2.2.2.1 h.2.2.2.2.1 h.2.2.2.2.2.1 h.2.2.2.2.2.2.1 h.2.2.2.2.2.2.2
theorem el_8_5 {a1 : Sort _} {a2 : Sort _} {a3 : Sort _} {a4 : Sort _} {a5 : Sort _} {a6 : Sort _} {a7 : Sort _} {a8 : Sort _} {P1 : a1 → a2 → a3 → a4 → a5 → a6 → a7 → a8 → Prop} {P2 : a1 → a2 → a3 → a4 → a5 → a6 → a7 → a8 → Prop} {P3 : a1 → a2 → a3 → a4 → a5 → a6 → a7 → a8 → Prop} {P4 : a1 → a2 → a3 → a4 → a5 → a6 → a7 → a8 → Prop} {P5 : a1 → a2 → a3 → a4 → a5 → a6 → a7 → a8 → Prop} {G : Prop} (h : ∃ x1 x2 x3 x4 x5 x6 x7 x8, P1 x1 x2 x3 x4 x5 x6 x7 x8 ∧ P2 x1 x2 x3 x4 x5 x6 x7 x8 ∧ P3 x1 x2 x3 x4 x5 x6 x7 x8 ∧ P4 x1 x2 x3 x4 x5 x6 x7 x8 ∧ P5 x1 x2 x3 x4 x5 x6 x7 x8) (k : ∀ x1 x2 x3 x4 x5 x6 x7 x8, P1 x1 x2 x3 x4 x5 x6 x7 x8 → P2 x1 x2 x3 x4 x5 x6 x7 x8 → P3 x1 x2 x3 x4 x5 x6 x7 x8 → P4 x1 x2 x3 x4 x5 x6 x7 x8 → P5 x1 x2 x3 x4 x5 x6 x7 x8 → G) : G := h.elim fun x1 h => h.elim fun x2 h => h.elim fun x3 h => h.elim fun x4 h => h.elim fun x5 h => h.elim fun x6 h => h.elim fun x7 h => h.elim fun x8 h => k x1 x2 x3 x4 x5 x6 x7 x8 h.1 h.2.1 h.2.2.1 h.2.2.2.1 h.2.2.2.2
theorem el_8_6 {a1 : Sort _} {a2 : Sort _} {a3 : Sort _} {a4 : Sort _} {a5 : Sort _} {a6 : Sort _} {a7 : Sort _} {a8 : Sort _} {P1 : a1 → a2 → a3 → a4 → a5 → a6 → a7 → a8 → Prop} {P2 : a1 → a2 → a3 → a4 → a5 → a6 → a7 → a8 → Prop} {P3 : a1 → a2 → a3 → a4 → a5 → a6 → a7 → a8 → Prop} {P4 : a1 → a2 → a3 → a4 → a5 → a6 → a7 → a8 → Prop} {P5 : a1 → a2 → a3 → a4 → a5 → a6 → a7 → a8 → Prop} {P6 : a1 → a2 → a3 → a4 → a5 → a6 → a7 → a8 → Prop} {G : Prop} (h : ∃ x1 x2 x3 x4 x5 x6 x7 x8, P1 x1 x2 x3 x4 x5 x6 x7 x8 ∧ P2 x1 x2 x3 x4 x5 x6 x7 x8 ∧ P3 x1 x2 x3 x4 x5 x6 x7 x8 ∧ P4 x1 x2 x3 x4 x5 x6 x7 x8 ∧ P5 x1 x2 x3 x4 x5 x6 x7 x8 ∧ P6 x1 x2 x3 x4 x5 x6 x7 x8) (k : ∀ x1 x2 x3 x4 x5 x6 x7 x8, P1 x1 x2 x3 x4 x5 x6 x7 x8 → P2 x1 x2 x3 x4 x5 x6 x7 x8 → P3 x1 x2 x3 x4 x5 x6 x7 x8 → P4 x1 x2 x3 x4 x5 x6 x7 x8 → P5 x1 x2 x3 x4 x5 x6 x7 x8 → P6 x1 x2 x3 x4 x5 x6 x7 x8 → G) : G := h.elim fun x1 h => h.elim fun x2 h => h.elim fun x3 h => h.elim fun x4 h => h.elim fun x5 h => h.elim fun x6 h => h.elim fun x7 h => h.elim fun x8 h => k x1 x2 x3 x4 x5 x6 x7 x8 h.1 h.2.1 h.2.2.1 h.2.2.2.1 h.2.2.2.2.1 h.2.2.2.2.2
theorem el_8_8 {a1 : Sort _} {a2 : Sort _} {a3 : Sort _} {a4 : Sort _} {a5 : Sort _} {a6 : Sort _} {a7 : Sort _} {a8 : Sort _} {P1 : a1 → a2 → a3 → a4 → a5 → a6 → a7 → a8 → Prop} {P2 : a1 → a2 → a3 → a4 → a5 → a6 → a7 → a8 → Prop} {P3 : a1 → a2 → a3 → a4 → a5 → a6 → a7 → a8 → Prop} {P4 : a1 → a2 → a3 → a4 → a5 → a6 → a7 → a8 → Prop} {P5 : a1 → a2 → a3 → a4 → a5 → a6 → a7 → a8 → Prop} {P6 : a1 → a2 → a3 → a4 → a5 → a6 → a7 → a8 → Prop} {P7 : a1 → a2 → a3 → a4 → a5 → a6 → a7 → a8 → Prop} {P8 : a1 → a2 → a3 → a4 → a5 → a6 → a7 → a8 → Prop} {G : Prop} (h : ∃ x1 x2 x3 x4 x5 x6 x7 x8, P1 x1 x2 x3 x4 x5 x6 x7 x8 ∧ P2 x1 x2 x3 x4 x5 x6 x7 x8 ∧ P3 x1 x2 x3 x4 x5 x6 x7 x8 ∧ P4 x1 x2 x3 x4 x5 x6 x7 x8 ∧ P5 x1 x2 x3 x4 x5 x6 x7 x8 ∧ P6 x1 x2 x3 x4 x5 x6 x7 x8 ∧ P7 x1 x2 x3 x4 x5 x6 x7 x8 ∧ P8 x1 x2 x3 x4 x5 x6 x7 x8) (k : ∀ x1 x2 x3 x4 x5 x6 x7 x8, P1 x1 x2 x3 x4 x5 x6 x7 x8 → P2 x1 x2 x3 x4 x5 x6 x7 x8 → P3 x1 x2 x3 x4 x5 x6 x7 x8 → P4 x1 x2 x3 x4 x5 x6 x7 x8 → P5 x1 x2 x3 x4 x5 x6 x7 x8 → P6 x1 x2 x3 x4 x5 x6 x7 x8 → P7 x1 x2 x3 x4 x5 x6 x7 x8 → P8 x1 x2 x3 x4 x5 x6 x7 x8 → G) : G := h.elim fun x1 h => h.elim fun x2 h => h.elim fun x3 h => h.elim fun x4 h => h.elim fun x5 h => h.elim fun x6 h => h.elim fun x7 h => h.elim fun x8 h => k x1 x2 x3 x4 x5 x6 x7 x8 h.1 h.2.1 h.2.2.1 h.2.2.2.1 h.2.2.2.2.1 h.2.2.2.2.2.1 h.2.2.2.2.2.2.1 h.2.2.2.2.2.2.2
theorem el_9_3 {a1 : Sort _} {a2 : Sort _} {a3 : Sort _} {a4 : Sort _} {a5 : Sort _} {a6 : Sort _} {a7 : Sort _} {a8 : Sort _} {a9 : Sort _} {P1 : a1 → a2 → a3 → a4 → a5 → a6 → a7 → a8 → a9 → Prop} {P2 : a1 → a2 → a3 → a4 → a5 → a6 → a7 → a8 → a9 → Prop} {P3 : a1 → a2 → a3 → a4 → a5 → a6 → a7 → a8 → a9 → Prop} {G : Prop} (h : ∃ x1 x2 x3 x4 x5 x6 x7 x8 x9, P1 x1 x2 x3 x4 x5 x6 x7 x8 x9 ∧ P2 x1 x2 x3 x4 x5 x6 x7 x8 x9 ∧ P3 x1 x2 x3 x4 x5 x6 x7 x8 x9) (k : ∀ x1 x2 x3 x4 x5 x6 x7 x8 x9, P1 x1 x2 x3 x4 x5 x6 x7 x8 x9 → P2 x1 x2 x3 x4 x5 x6 x7 x8 x9 → P3 x1 x2 x3 x4 x5 x6 x7 x8 x9 → G) : G := h.elim fun x1 h => h.elim fun x2 h => h.elim fun x3 h => h.elim fun x4 h => h.elim fun x5 h => h.elim fun x6 h => h.elim fun x7 h => h.elim fun x8 h => h.elim fun x9 h => k x1 x2 x3 x4 x5 x6 x7 x8 x9 h.1 h.2.1 h.2.2
theorem el_17_4 {a1 : Sort _} {a2 : Sort _} {a3 : Sort _} {a4 : Sort _} {a5 : Sort _} {a6 : Sort _} {a7 : Sort _} {a8 : Sort _} {a9 : Sort _} {a10 : Sort _} {a11 : Sort _} {a12 : Sort _} {a13 : Sort _} {a14 : Sort _} {a15 : Sort _} {a16 : Sort _} {a17 : Sort _} {P1 : a1 → a2 → a3 → a4 → a5 → a6 → a7 → a8 → a9 → a10 → a11 → a12 → a13 → a14 → a15 → a16 → a17 → Prop} {P2 : a1 → a2 → a3 → a4 → a5 → a6 → a7 → a8 → a9 → a10 → a11 → a12 → a13 → a14 → a15 → a16 → a17 → Prop} {P3 : a1 → a2 → a3 → a4 → a5 → a6 → a7 → a8 → a9 → a10 → a11 → a12 → a13 → a14 → a15 → a16 → a17 → Prop} {P4 : a1 → a2 → a3 → a4 → a5 → a6 → a7 → a8 → a9 → a10 → a11 → a12 → a13 → a14 → a15 → a16 → a17 → Prop} {G : Prop} (h : ∃ x1 x2 x3 x4 x5 x6 x7 x8 x9 x10 x11 x12 x13 x14 x15 x16 x17, P1 x1 x2 x3 x4 x5 x6 x7 x8 x9 x10 x11 x12 x13 x14 x15 x16 x17 ∧ P2 x1 x2 x3 x4 x5 x6 x7 x8 x9 x10 x11 x12 x13 x14 x15 x16 x17 ∧ P3 x1 x2 x3 x4 x5 x6 x7 x8 x9 x10 x11 x12 x13 x14 x15 x16 x17 ∧ P4 x1 x2 x3 x4 x5 x6 x7 x8 x9 x10 x11 x12 x13 x14 x15 x16 x17) (k : ∀ x1 x2 x3 x4 x5 x6 x7 x8 x9 x10 x11 x12 x13 x14 x15 x16 x17, P1 x1 x2 x3 x4 x5 x6 x7 x8 x9 x10 x11 x12 x13 x14 x15 x16 x17 → P2 x1 x2 x3 x4 x5 x6 x7 x8 x9 x10 x11 x12 x13 x14 x15 x16 x17 → P3 x1 x2 x3 x4 x5 x6 x7 x8 x9 x10 x11 x12 x13 x14 x15 x16 x17 → P4 x1 x2 x3 x4 x5 x6 x7 x8 x9 x10 x11 x12 x13 x14 x15 x16 x17 → G) : G := h.elim fun x1 h => h.elim fun x2 h => h.elim fun x3 h => h.elim fun x4 h => h.elim fun x5 h => h.elim fun x6 h => h.elim fun x7 h => h.elim fun x8 h => h.elim fun x9 h => h.elim fun x10 h => h.elim fun x11 h => h.elim fun x12 h => h.elim fun x13 h => h.elim fun x14 h => h.elim fun x15 h => h.elim fun x16 h => h.elim fun x17 h => k x1 x2 x3 x4 x5 x6 x7 x8 x9 x10 x11 x12 x13 x14 x15 x16 x17 h.1 h.2.1 h.2.2.1 h.2.2.2
theorem in_ccccec {P1 : Prop} {P2 : Prop} {P3 : Prop} {P4 : Prop} {a1 : Sort _} {P5 : a1 → Prop} {P6 : a1 → Prop} (h1 : P1) (h2 : P2) (h3 : P3) (h4 : P4) (x1 : a1) (h5 : P5 x1) (h6 : P6 x1) : P1 ∧ P2 ∧ P3 ∧ P4 ∧ ∃ x1, P5 x1 ∧ P6 x1 := ⟨h1, h2, h3, h4, x1, h5, h6⟩
theorem in_ccccecc {P1 : Prop} {P2 : Prop} {P3 : Prop} {P4 : Prop} {a1 : Sort _} {P5 : a1 → Prop} {P6 : a1 → Prop} {P7 : a1 → Prop} (h1 : P1) (h2 : P2) (h3 : P3) (h4 : P4) (x1 : a1) (h5 : P5 x1) (h6 : P6 x1) (h7 : P7 x1) : P1 ∧ P2 ∧ P3 ∧ P4 ∧ ∃ x1, P5 x1 ∧ P6 x1 ∧ P7 x1 := ⟨h1, h2, h3, h4, x1, h5, h6, h7⟩
theorem in_ccceeeccc {P1 : Prop} {P2 : Prop} {P3 : Prop} {a1 : Sort _} {a2 : Sort _} {a3 : Sort _} {P4 : a1 → a2 → a3 → Prop} {P5 : a1 → a2 → a3 → Prop} {P6 : a1 → a2 → a3 → Prop} {P7 : a1 → a2 → a3 → Prop} (h1 : P1) (h2 : P2) (h3 : P3) (x1 : a1) (x2 : a2) (x3 : a3) (h4 : P4 x1 x2 x3) (h5 : P5 x1 x2 x3) (h6 : P6 x1 x2 x3) (h7 : P7 x1 x2 x3) : P1 ∧ P2 ∧ P3 ∧ ∃ x1, ∃ x2, ∃ x3, P4 x1 x2 x3 ∧ P5 x1 x2 x3 ∧ P6 x1 x2 x3 ∧ P7 x1 x2 x3 := ⟨h1, h2, h3, x1, x2, x3, h4, h5, h6, h7⟩
theorem in_cceceeec {P1 : Prop} {P2 : Prop} {a1 : Sort _} {P3 : a1 → Prop} {a2 : Sort _} {a3 : Sort _} {a4 : Sort _} {P4 : a1 → a2 → a3 → a4 → Prop} {P5 : a1 → a2 → a3 → a4 → Prop} (h1 : P1) (h2 : P2) (x1 : a1) (h3 : P3 x1) (x2 : a2) (x3 : a3) (x4 : a4) (h4 : P4 x1 x2 x3 x4) (h5 : P5 x1 x2 x3 x4) : P1 ∧ P2 ∧ ∃ x1, P3 x1 ∧ ∃ x2, ∃ x3, ∃ x4, P4 x1 x2 x3 x4 ∧ P5 x1 x2 x3 x4 := ⟨h1, h2, x1, h3, x2, x3, x4, h4, h5⟩
theorem in_cceceeeccccc {P1 : Prop} {P2 : Prop} {a1 : Sort _} {P3 : a1 → Prop} {a2 : Sort _} {a3 : Sort _} {a4 : Sort _} {P4 : a1 → a2 → a3 → a4 → Prop} {P5 : a1 → a2 → a3 → a4 → Prop} {P6 : a1 → a2 → a3 → a4 → Prop} {P7 : a1 → a2 → a3 → a4 → Prop} {P8 : a1 → a2 → a3 → a4 → Prop} {P9 : a1 → a2 → a3 → a4 → Prop} (h1 : P1) (h2 : P2) (x1 : a1) (h3 : P3 x1) (x2 : a2) (x3 : a3) (x4 : a4) (h4 : P4 x1 x2 x3 x4) (h5 : P5 x1 x2 x3 x4) (h6 : P6 x1 x2 x3 x4) (h7 : P7 x1 x2 x3 x4) (h8 : P8 x1 x2 x3 x4) (h9 : P9 x1 x2 x3 x4) : P1 ∧ P2 ∧ ∃ x1, P3 x1 ∧ ∃ x2, ∃ x3, ∃ x4, P4 x1 x2 x3 x4 ∧ P5 x1 x2 x3 x4 ∧ P6 x1 x2 x3 x4 ∧ P7 x1 x2 x3 x4 ∧ P8 x1 x2 x3 x4 ∧ P9 x1 x2 x3 x4 := ⟨h1, h2, x1, h3, x2, x3, x4, h4, h5, h6, h7, h8, h9⟩
theorem in_cceec {P1 : Prop} {P2 : Prop} {a1 : Sort _} {a2 : Sort _} {P3 : a1 → a2 → Prop} {P4 : a1 → a2 → Prop} (h1 : P1) (h2 : P2) (x1 : a1) (x2 : a2) (h3 : P3 x1 x2) (h4 : P4 x1 x2) : P1 ∧ P2 ∧ ∃ x1, ∃ x2, P3 x1 x2 ∧ P4 x1 x2 := ⟨h1, h2, x1, x2, h3, h4⟩
theorem in_cec {P1 : Prop} {a1 : Sort _} {P2 : a1 → Prop} {P3 : a1 → Prop} (h1 : P1) (x1 : a1) (h2 : P2 x1) (h3 : P3 x1) : P1 ∧ ∃ x1, P2 x1 ∧ P3 x1 := ⟨h1, x1, h2, h3⟩
theorem in_cecc {P1 : Prop} {a1 : Sort _} {P2 : a1 → Prop} {P3 : a1 → Prop} {P4 : a1 → Prop} (h1 : P1) (x1 : a1) (h2 : P2 x1) (h3 : P3 x1) (h4 : P4 x1) : P1 ∧ ∃ x1, P2 x1 ∧ P3 x1 ∧ P4 x1 := ⟨h1, x1, h2, h3, h4⟩
theorem in_cececc {P1 : Prop} {a1 : Sort _} {P2 : a1 → Prop} {a2 : Sort _} {P3 : a1 → a2 → Prop} {P4 : a1 → a2 → Prop} {P5 : a1 → a2 → Prop} (h1 : P1) (x1 : a1) (h2 : P2 x1) (x2 : a2) (h3 : P3 x1 x2) (h4 : P4 x1 x2) (h5 : P5 x1 x2) : P1 ∧ ∃ x1, P2 x1 ∧ ∃ x2, P3 x1 x2 ∧ P4 x1 x2 ∧ P5 x1 x2 := ⟨h1, x1, h2, x2, h3, h4, h5⟩
theorem in_ceec {P1 : Prop} {a1 : Sort _} {a2 : Sort _} {P2 : a1 → a2 → Prop} {P3 : a1 → a2 → Prop} (h1 : P1) (x1 : a1) (x2 : a2) (h2 : P2 x1 x2) (h3 : P3 x1 x2) : P1 ∧ ∃ x1, ∃ x2, P2 x1 x2 ∧ P3 x1 x2 := ⟨h1, x1, x2, h2, h3⟩
theorem in_ceecc {P1 : Prop} {a1 : Sort _} {a2 : Sort _} {P2 : a1 → a2 → Prop} {P3 : a1 → a2 → Prop} {P4 : a1 → a2 → Prop} (h1 : P1) (x1 : a1) (x2 : a2) (h2 : P2 x1 x2) (h3 : P3 x1 x2) (h4 : P4 x1 x2) : P1 ∧ ∃ x1, ∃ x2, P2 x1 x2 ∧ P3 x1 x2 ∧ P4 x1 x2 := ⟨h1, x1, x2, h2, h3, h4⟩
theorem in_ceeccec {P1 : Prop} {a1 : Sort _} {a2 : Sort _} {P2 : a1 → a2 → Prop} {P3 : a1 → a2 → Prop} {a3 : Sort _} {P4 : a1 → a2 → a3 → Prop} {P5 : a1 → a2 → a3 → Prop} (h1 : P1) (x1 : a1) (x2 : a2) (h2 : P2 x1 x2) (h3 : P3 x1 x2) (x3 : a3) (h4 : P4 x1 x2 x3) (h5 : P5 x1 x2 x3) : P1 ∧ ∃ x1, ∃ x2, P2 x1 x2 ∧ P3 x1 x2 ∧ ∃ x3, P4 x1 x2 x3 ∧ P5 x1 x2 x3 := ⟨h1, x1, x2, h2, h3, x3, h4, h5⟩
theorem in_ceeeccc {P1 : Prop} {a1 : Sort _} {a2 : Sort _} {a3 : Sort _} {P2 : a1 → a2 → a3 → Prop} {P3 : a1 → a2 → a3 → Prop} {P4 : a1 → a2 → a3 → Prop} {P5 : a1 → a2 → a3 → Prop} (h1 : P1) (x1 : a1) (x2 : a2) (x3 : a3) (h2 : P2 x1 x2 x3) (h3 : P3 x1 x2 x3) (h4 : P4 x1 x2 x3) (h5 : P5 x1 x2 x3) : P1 ∧ ∃ x1, ∃ x2, ∃ x3, P2 x1 x2 x3 ∧ P3 x1 x2 x3 ∧ P4 x1 x2 x3 ∧ P5 x1 x2 x3 := ⟨h1, x1, x2, x3, h2, h3, h4, h5⟩
theorem in_ceeeccceeeeeeccccc {P1 : Prop} {a1 : Sort _} {a2 : Sort _} {a3 : Sort _} {P2 : a1 → a2 → a3 → Prop} {P3 : a1 → a2 → a3 → Prop} {P4 : a1 → a2 → a3 → Prop} {a4 : Sort _} {a5 : Sort _} {a6 : Sort _} {a7 : Sort _} {a8 : Sort _} {a9 : Sort _} {P5 : a1 → a2 → a3 → a4 → a5 → a6 → a7 → a8 → a9 → Prop} {P6 : a1 → a2 → a3 → a4 → a5 → a6 → a7 → a8 → a9 → Prop} {P7 : a1 → a2 → a3 → a4 → a5 → a6 → a7 → a8 → a9 → Prop} {P8 : a1 → a2 → a3 → a4 → a5 → a6 → a7 → a8 → a9 → Prop} {P9 : a1 → a2 → a3 → a4 → a5 → a6 → a7 → a8 → a9 → Prop} {P10 : a1 → a2 → a3 → a4 → a5 → a6 → a7 → a8 → a9 → Prop} (h1 : P1) (x1 : a1) (x2 : a2) (x3 : a3) (h2 : P2 x1 x2 x3) (h3 : P3 x1 x2 x3) (h4 : P4 x1 x2 x3) (x4 : a4) (x5 : a5) (x6 : a6) (x7 : a7) (x8 : a8) (x9 : a9) (h5 : P5 x1 x2 x3 x4 x5 x6 x7 x8 x9) (h6 : P6 x1 x2 x3 x4 x5 x6 x7 x8 x9) (h7 : P7 x1 x2 x3 x4 x5 x6 x7 x8 x9) (h8 : P8 x1 x2 x3 x4 x5 x6 x7 x8 x9) (h9 : P9 x1 x2 x3 x4 x5 x6 x7 x8 x9) (h10 : P10 x1 x2 x3 x4 x5 x6 x7 x8 x9) : P1 ∧ ∃ x1, ∃ x2, ∃ x3, P2 x1 x2 x3 ∧ P3 x1 x2 x3 ∧ P4 x1 x2 x3 ∧ ∃ x4, ∃ x5, ∃ x6, ∃ x7, ∃ x8, ∃ x9, P5 x1 x2 x3 x4 x5 x6 x7 x8 x9 ∧ P6 x1 x2 x3 x4 x5 x6 x7 x8 x9 ∧ P7 x1 x2 x3 x4 x5 x6 x7 x8 x9 ∧ P8 x1 x2 x3 x4 x5 x6 x7 x8 x9 ∧ P9 x1 x2 x3 x4 x5 x6 x7 x8 x9 ∧ P10 x1 x2 x3 x4 x5 x6 x7 x8 x9 := ⟨h1, x1, x2, x3, h2, h3, h4, x4, x5, x6, x7, x8, x9, h5, h6, h7, h8, h9, h10⟩
theorem in_ec {a1 : Sort _} {P1 : a1 → Prop} {P2 : a1 → Prop} (x1 : a1) (h1 : P1 x1) (h2 : P2 x1) : ∃ x1, P1 x1 ∧ P2 x1 := ⟨x1, h1, h2⟩
theorem in_ecc {a1 : Sort _} {P1 : a1 → Prop} {P2 : a1 → Prop} {P3 : a1 → Prop} (x1 : a1) (h1 : P1 x1) (h2 : P2 x1) (h3 : P3 x1) : ∃ x1, P1 x1 ∧ P2 x1 ∧ P3 x1 := ⟨x1, h1, h2, h3⟩
theorem in_eccc {a1 : Sort _} {P1 : a1 → Prop} {P2 : a1 → Prop} {P3 : a1 → Prop} {P4 : a1 → Prop} (x1 : a1) (h1 : P1 x1) (h2 : P2 x1) (h3 : P3 x1) (h4 : P4 x1) : ∃ x1, P1 x1 ∧ P2 x1 ∧ P3 x1 ∧ P4 x1 := ⟨x1, h1, h2, h3, h4⟩
theorem in_ecccc {a1 : Sort _} {P1 : a1 → Prop} {P2 : a1 → Prop} {P3 : a1 → Prop} {P4 : a1 → Prop} {P5 : a1 → Prop} (x1 : a1) (h1 : P1 x1) (h2 : P2 x1) (h3 : P3 x1) (h4 : P4 x1) (h5 : P5 x1) : ∃ x1, P1 x1 ∧ P2 x1 ∧ P3 x1 ∧ P4 x1 ∧ P5 x1 := ⟨x1, h1, h2, h3, h4, h5⟩
theorem in_eceec {a1 : Sort _} {P1 : a1 → Prop} {a2 : Sort _} {a3 : Sort _} {P2 : a1 → a2 → a3 → Prop} {P3 : a1 → a2 → a3 → Prop} (x1 : a1) (h1 : P1 x1) (x2 : a2) (x3 : a3) (h2 : P2 x1 x2 x3) (h3 : P3 x1 x2 x3) : ∃ x1, P1 x1 ∧ ∃ x2, ∃ x3, P2 x1 x2 x3 ∧ P3 x1 x2 x3 := ⟨x1, h1, x2, x3, h2, h3⟩
theorem in_eceecc {a1 : Sort _} {P1 : a1 → Prop} {a2 : Sort _} {a3 : Sort _} {P2 : a1 → a2 → a3 → Prop} {P3 : a1 → a2 → a3 → Prop} {P4 : a1 → a2 → a3 → Prop} (x1 : a1) (h1 : P1 x1) (x2 : a2) (x3 : a3) (h2 : P2 x1 x2 x3) (h3 : P3 x1 x2 x3) (h4 : P4 x1 x2 x3) : ∃ x1, P1 x1 ∧ ∃ x2, ∃ x3, P2 x1 x2 x3 ∧ P3 x1 x2 x3 ∧ P4 x1 x2 x3 := ⟨x1, h1, x2, x3, h2, h3, h4⟩
theorem in_eceeccc {a1 : Sort _} {P1 : a1 → Prop} {a2 : Sort _} {a3 : Sort _} {P2 : a1 → a2 → a3 → Prop} {P3 : a1 → a2 → a3 → Prop} {P4 : a1 → a2 → a3 → Prop} {P5 : a1 → a2 → a3 → Prop} (x1 : a1) (h1 : P1 x1) (x2 : a2) (x3 : a3) (h2 : P2 x1 x2 x3) (h3 : P3 x1 x2 x3) (h4 : P4 x1 x2 x3) (h5 : P5 x1 x2 x3) : ∃ x1, P1 x1 ∧ ∃ x2, ∃ x3, P2 x1 x2 x3 ∧ P3 x1 x2 x3 ∧ P4 x1 x2 x3 ∧ P5 x1 x2 x3 := ⟨x1, h1, x2, x3, h2, h3, h4, h5⟩
theorem in_eceeeccc {a1 : Sort _} {P1 : a1 → Prop} {a2 : Sort _} {a3 : Sort _} {a4 : Sort _} {P2 : a1 → a2 → a3 → a4 → Prop} {P3 : a1 → a2 → a3 → a4 → Prop} {P4 : a1 → a2 → a3 → a4 → Prop} {P5 : a1 → a2 → a3 → a4 → Prop} (x1 : a1) (h1 : P1 x1) (x2 : a2) (x3 : a3) (x4 : a4) (h2 : P2 x1 x2 x3 x4) (h3 : P3 x1 x2 x3 x4) (h4 : P4 x1 x2 x3 x4) (h5 : P5 x1 x2 x3 x4) : ∃ x1, P1 x1 ∧ ∃ x2, ∃ x3, ∃ x4, P2 x1 x2 x3 x4 ∧ P3 x1 x2 x3 x4 ∧ P4 x1 x2 x3 x4 ∧ P5 x1 x2 x3 x4 := ⟨x1, h1, x2, x3, x4, h2, h3, h4, h5⟩
theorem in_eec {a1 : Sort _} {a2 : Sort _} {P1 : a1 → a2 → Prop} {P2 : a1 → a2 → Prop} (x1 : a1) (x2 : a2) (h1 : P1 x1 x2) (h2 : P2 x1 x2) : ∃ x1, ∃ x2, P1 x1 x2 ∧ P2 x1 x2 := ⟨x1, x2, h1, h2⟩
theorem in_eecc {a1 : Sort _} {a2 : Sort _} {P1 : a1 → a2 → Prop} {P2 : a1 → a2 → Prop} {P3 : a1 → a2 → Prop} (x1 : a1) (x2 : a2) (h1 : P1 x1 x2) (h2 : P2 x1 x2) (h3 : P3 x1 x2) : ∃ x1, ∃ x2, P1 x1 x2 ∧ P2 x1 x2 ∧ P3 x1 x2 := ⟨x1, x2, h1, h2, h3⟩
theorem in_eeccc {a1 : Sort _} {a2 : Sort _} {P1 : a1 → a2 → Prop} {P2 : a1 → a2 → Prop} {P3 : a1 → a2 → Prop} {P4 : a1 → a2 → Prop} (x1 : a1) (x2 : a2) (h1 : P1 x1 x2) (h2 : P2 x1 x2) (h3 : P3 x1 x2) (h4 : P4 x1 x2) : ∃ x1, ∃ x2, P1 x1 x2 ∧ P2 x1 x2 ∧ P3 x1 x2 ∧ P4 x1 x2 := ⟨x1, x2, h1, h2, h3, h4⟩
theorem in_eeccccc {a1 : Sort _} {a2 : Sort _} {P1 : a1 → a2 → Prop} {P2 : a1 → a2 → Prop} {P3 : a1 → a2 → Prop} {P4 : a1 → a2 → Prop} {P5 : a1 → a2 → Prop} {P6 : a1 → a2 → Prop} (x1 : a1) (x2 : a2) (h1 : P1 x1 x2) (h2 : P2 x1 x2) (h3 : P3 x1 x2) (h4 : P4 x1 x2) (h5 : P5 x1 x2) (h6 : P6 x1 x2) : ∃ x1, ∃ x2, P1 x1 x2 ∧ P2 x1 x2 ∧ P3 x1 x2 ∧ P4 x1 x2 ∧ P5 x1 x2 ∧ P6 x1 x2 := ⟨x1, x2, h1, h2, h3, h4, h5, h6⟩
theorem in_eeccccec {a1 : Sort _} {a2 : Sort _} {P1 : a1 → a2 → Prop} {P2 : a1 → a2 → Prop} {P3 : a1 → a2 → Prop} {P4 : a1 → a2 → Prop} {a3 : Sort _} {P5 : a1 → a2 → a3 → Prop} {P6 : a1 → a2 → a3 → Prop} (x1 : a1) (x2 : a2) (h1 : P1 x1 x2) (h2 : P2 x1 x2) (h3 : P3 x1 x2) (h4 : P4 x1 x2) (x3 : a3) (h5 : P5 x1 x2 x3) (h6 : P6 x1 x2 x3) : ∃ x1, ∃ x2, P1 x1 x2 ∧ P2 x1 x2 ∧ P3 x1 x2 ∧ P4 x1 x2 ∧ ∃ x3, P5 x1 x2 x3 ∧ P6 x1 x2 x3 := ⟨x1, x2, h1, h2, h3, h4, x3, h5, h6⟩
theorem in_eeccceeccceeccc {a1 : Sort _} {a2 : Sort _} {P1 : a1 → a2 → Prop} {P2 : a1 → a2 → Prop} {P3 : a1 → a2 → Prop} {a3 : Sort _} {a4 : Sort _} {P4 : a1 → a2 → a3 → a4 → Prop} {P5 : a1 → a2 → a3 → a4 → Prop} {P6 : a1 → a2 → a3 → a4 → Prop} {a5 : Sort _} {a6 : Sort _} {P7 : a1 → a2 → a3 → a4 → a5 → a6 → Prop} {P8 : a1 → a2 → a3 → a4 → a5 → a6 → Prop} {P9 : a1 → a2 → a3 → a4 → a5 → a6 → Prop} {P10 : a1 → a2 → a3 → a4 → a5 → a6 → Prop} (x1 : a1) (x2 : a2) (h1 : P1 x1 x2) (h2 : P2 x1 x2) (h3 : P3 x1 x2) (x3 : a3) (x4 : a4) (h4 : P4 x1 x2 x3 x4) (h5 : P5 x1 x2 x3 x4) (h6 : P6 x1 x2 x3 x4) (x5 : a5) (x6 : a6) (h7 : P7 x1 x2 x3 x4 x5 x6) (h8 : P8 x1 x2 x3 x4 x5 x6) (h9 : P9 x1 x2 x3 x4 x5 x6) (h10 : P10 x1 x2 x3 x4 x5 x6) : ∃ x1, ∃ x2, P1 x1 x2 ∧ P2 x1 x2 ∧ P3 x1 x2 ∧ ∃ x3, ∃ x4, P4 x1 x2 x3 x4 ∧ P5 x1 x2 x3 x4 ∧ P6 x1 x2 x3 x4 ∧ ∃ x5, ∃ x6, P7 x1 x2 x3 x4 x5 x6 ∧ P8 x1 x2 x3 x4 x5 x6 ∧ P9 x1 x2 x3 x4 x5 x6 ∧ P10 x1 x2 x3 x4 x5 x6 := ⟨x1, x2, h1, h2, h3, x3, x4, h4, h5, h6, x5, x6, h7, h8, h9, h10⟩
theorem in_eeccec {a1 : Sort _} {a2 : Sort _} {P1 : a1 → a2 → Prop} {P2 : a1 → a2 → Prop} {a3 : Sort _} {P3 : a1 → a2 → a3 → Prop} {P4 : a1 → a2 → a3 → Prop} (x1 : a1) (x2 : a2) (h1 : P1 x1 x2) (h2 : P2 x1 x2) (x3 : a3) (h3 : P3 x1 x2 x3) (h4 : P4 x1 x2 x3) : ∃ x1, ∃ x2, P1 x1 x2 ∧ P2 x1 x2 ∧ ∃ x3, P3 x1 x2 x3 ∧ P4 x1 x2 x3 := ⟨x1, x2, h1, h2, x3, h3, h4⟩
theorem in_eeec {a1 : Sort _} {a2 : Sort _} {a3 : Sort _} {P1 : a1 → a2 → a3 → Prop} {P2 : a1 → a2 → a3 → Prop} (x1 : a1) (x2 : a2) (x3 : a3) (h1 : P1 x1 x2 x3) (h2 : P2 x1 x2 x3) : ∃ x1, ∃ x2, ∃ x3, P1 x1 x2 x3 ∧ P2 x1 x2 x3 := ⟨x1, x2, x3, h1, h2⟩
theorem in_eeecc {a1 : Sort _} {a2 : Sort _} {a3 : Sort _} {P1 : a1 → a2 → a3 → Prop} {P2 : a1 → a2 → a3 → Prop} {P3 : a1 → a2 → a3 → Prop} (x1 : a1) (x2 : a2) (x3 : a3) (h1 : P1 x1 x2 x3) (h2 : P2 x1 x2 x3) (h3 : P3 x1 x2 x3) : ∃ x1, ∃ x2, ∃ x3, P1 x1 x2 x3 ∧ P2 x1 x2 x3 ∧ P3 x1 x2 x3 := ⟨x1, x2, x3, h1, h2, h3⟩
theorem in_eeeccc {a1 : Sort _} {a2 : Sort _} {a3 : Sort _} {P1 : a1 → a2 → a3 → Prop} {P2 : a1 → a2 → a3 → Prop} {P3 : a1 → a2 → a3 → Prop} {P4 : a1 → a2 → a3 → Prop} (x1 : a1) (x2 : a2) (x3 : a3) (h1 : P1 x1 x2 x3) (h2 : P2 x1 x2 x3) (h3 : P3 x1 x2 x3) (h4 : P4 x1 x2 x3) : ∃ x1, ∃ x2, ∃ x3, P1 x1 x2 x3 ∧ P2 x1 x2 x3 ∧ P3 x1 x2 x3 ∧ P4 x1 x2 x3 := ⟨x1, x2, x3, h1, h2, h3, h4⟩
theorem in_eeeccceeeeecccc {a1 : Sort _} {a2 : Sort _} {a3 : Sort _} {P1 : a1 → a2 → a3 → Prop} {P2 : a1 → a2 → a3 → Prop} {P3 : a1 → a2 → a3 → Prop} {a4 : Sort _} {a5 : Sort _} {a6 : Sort _} {a7 : Sort _} {a8 : Sort _} {P4 : a1 → a2 → a3 → a4 → a5 → a6 → a7 → a8 → Prop} {P5 : a1 → a2 → a3 → a4 → a5 → a6 → a7 → a8 → Prop} {P6 : a1 → a2 → a3 → a4 → a5 → a6 → a7 → a8 → Prop} {P7 : a1 → a2 → a3 → a4 → a5 → a6 → a7 → a8 → Prop} {P8 : a1 → a2 → a3 → a4 → a5 → a6 → a7 → a8 → Prop} (x1 : a1) (x2 : a2) (x3 : a3) (h1 : P1 x1 x2 x3) (h2 : P2 x1 x2 x3) (h3 : P3 x1 x2 x3) (x4 : a4) (x5 : a5) (x6 : a6) (x7 : a7) (x8 : a8) (h4 : P4 x1 x2 x3 x4 x5 x6 x7 x8) (h5 : P5 x1 x2 x3 x4 x5 x6 x7 x8) (h6 : P6 x1 x2 x3 x4 x5 x6 x7 x8) (h7 : P7 x1 x2 x3 x4 x5 x6 x7 x8) (h8 : P8 x1 x2 x3 x4 x5 x6 x7 x8) : ∃ x1, ∃ x2, ∃ x3, P1 x1 x2 x3 ∧ P2 x1 x2 x3 ∧ P3 x1 x2 x3 ∧ ∃ x4, ∃ x5, ∃ x6, ∃ x7, ∃ x8, P4 x1 x2 x3 x4 x5 x6 x7 x8 ∧ P5 x1 x2 x3 x4 x5 x6 x7 x8 ∧ P6 x1 x2 x3 x4 x5 x6 x7 x8 ∧ P7 x1 x2 x3 x4 x5 x6 x7 x8 ∧ P8 x1 x2 x3 x4 x5 x6 x7 x8 := ⟨x1, x2, x3, h1, h2, h3, x4, x5, x6, x7, x8, h4, h5, h6, h7, h8⟩
theorem in_eeeccceeeeeeccc {a1 : Sort _} {a2 : Sort _} {a3 : Sort _} {P1 : a1 → a2 → a3 → Prop} {P2 : a1 → a2 → a3 → Prop} {P3 : a1 → a2 → a3 → Prop} {a4 : Sort _} {a5 : Sort _} {a6 : Sort _} {a7 : Sort _} {a8 : Sort _} {a9 : Sort _} {P4 : a1 → a2 → a3 → a4 → a5 → a6 → a7 → a8 → a9 → Prop} {P5 : a1 → a2 → a3 → a4 → a5 → a6 → a7 → a8 → a9 → Prop} {P6 : a1 → a2 → a3 → a4 → a5 → a6 → a7 → a8 → a9 → Prop} {P7 : a1 → a2 → a3 → a4 → a5 → a6 → a7 → a8 → a9 → Prop} (x1 : a1) (x2 : a2) (x3 : a3) (h1 : P1 x1 x2 x3) (h2 : P2 x1 x2 x3) (h3 : P3 x1 x2 x3) (x4 : a4) (x5 : a5) (x6 : a6) (x7 : a7) (x8 : a8) (x9 : a9) (h4 : P4 x1 x2 x3 x4 x5 x6 x7 x8 x9) (h5 : P5 x1 x2 x3 x4 x5 x6 x7 x8 x9) (h6 : P6 x1 x2 x3 x4 x5 x6 x7 x8 x9) (h7 : P7 x1 x2 x3 x4 x5 x6 x7 x8 x9) : ∃ x1, ∃ x2, ∃ x3, P1 x1 x2 x3 ∧ P2 x1 x2 x3 ∧ P3 x1 x2 x3 ∧ ∃ x4, ∃ x5, ∃ x6, ∃ x7, ∃ x8, ∃ x9, P4 x1 x2 x3 x4 x5 x6 x7 x8 x9 ∧ P5 x1 x2 x3 x4 x5 x6 x7 x8 x9 ∧ P6 x1 x2 x3 x4 x5 x6 x7 x8 x9 ∧ P7 x1 x2 x3 x4 x5 x6 x7 x8 x9 := ⟨x1, x2, x3, h1, h2, h3, x4, x5, x6, x7, x8, x9, h4, h5, h6, h7⟩
theorem in_eeeccceeeeeeccccc {a1 : Sort _} {a2 : Sort _} {a3 : Sort _} {P1 : a1 → a2 → a3 → Prop} {P2 : a1 → a2 → a3 → Prop} {P3 : a1 → a2 → a3 → Prop} {a4 : Sort _} {a5 : Sort _} {a6 : Sort _} {a7 : Sort _} {a8 : Sort _} {a9 : Sort _} {P4 : a1 → a2 → a3 → a4 → a5 → a6 → a7 → a8 → a9 → Prop} {P5 : a1 → a2 → a3 → a4 → a5 → a6 → a7 → a8 → a9 → Prop} {P6 : a1 → a2 → a3 → a4 → a5 → a6 → a7 → a8 → a9 → Prop} {P7 : a1 → a2 → a3 → a4 → a5 → a6 → a7 → a8 → a9 → Prop} {P8 : a1 → a2 → a3 → a4 → a5 → a6 → a7 → a8 → a9 → Prop} {P9 : a1 → a2 → a3 → a4 → a5 → a6 → a7 → a8 → a9 → Prop} (x1 : a1) (x2 : a2) (x3 : a3) (h1 : P1 x1 x2 x3) (h2 : P2 x1 x2 x3) (h3 : P3 x1 x2 x3) (x4 : a4) (x5 : a5) (x6 : a6) (x7 : a7) (x8 : a8) (x9 : a9) (h4 : P4 x1 x2 x3 x4 x5 x6 x7 x8 x9) (h5 : P5 x1 x2 x3 x4 x5 x6 x7 x8 x9) (h6 : P6 x1 x2 x3 x4 x5 x6 x7 x8 x9) (h7 : P7 x1 x2 x3 x4 x5 x6 x7 x8 x9) (h8 : P8 x1 x2 x3 x4 x5 x6 x7 x8 x9) (h9 : P9 x1 x2 x3 x4 x5 x6 x7 x8 x9) : ∃ x1, ∃ x2, ∃ x3, P1 x1 x2 x3 ∧ P2 x1 x2 x3 ∧ P3 x1 x2 x3 ∧ ∃ x4, ∃ x5, ∃ x6, ∃ x7, ∃ x8, ∃ x9, P4 x1 x2 x3 x4 x5 x6 x7 x8 x9 ∧ P5 x1 x2 x3 x4 x5 x6 x7 x8 x9 ∧ P6 x1 x2 x3 x4 x5 x6 x7 x8 x9 ∧ P7 x1 x2 x3 x4 x5 x6 x7 x8 x9 ∧ P8 x1 x2 x3 x4 x5 x6 x7 x8 x9 ∧ P9 x1 x2 x3 x4 x5 x6 x7 x8 x9 := ⟨x1, x2, x3, h1, h2, h3, x4, x5, x6, x7, x8, x9, h4, h5, h6, h7, h8, h9⟩
theorem in_eeeecc {a1 : Sort _} {a2 : Sort _} {a3 : Sort _} {a4 : Sort _} {P1 : a1 → a2 → a3 → a4 → Prop} {P2 : a1 → a2 → a3 → a4 → Prop} {P3 : a1 → a2 → a3 → a4 → Prop} (x1 : a1) (x2 : a2) (x3 : a3) (x4 : a4) (h1 : P1 x1 x2 x3 x4) (h2 : P2 x1 x2 x3 x4) (h3 : P3 x1 x2 x3 x4) : ∃ x1, ∃ x2, ∃ x3, ∃ x4, P1 x1 x2 x3 x4 ∧ P2 x1 x2 x3 x4 ∧ P3 x1 x2 x3 x4 := ⟨x1, x2, x3, x4, h1, h2, h3⟩
theorem in_eeeeccc {a1 : Sort _} {a2 : Sort _} {a3 : Sort _} {a4 : Sort _} {P1 : a1 → a2 → a3 → a4 → Prop} {P2 : a1 → a2 → a3 → a4 → Prop} {P3 : a1 → a2 → a3 → a4 → Prop} {P4 : a1 → a2 → a3 → a4 → Prop} (x1 : a1) (x2 : a2) (x3 : a3) (x4 : a4) (h1 : P1 x1 x2 x3 x4) (h2 : P2 x1 x2 x3 x4) (h3 : P3 x1 x2 x3 x4) (h4 : P4 x1 x2 x3 x4) : ∃ x1, ∃ x2, ∃ x3, ∃ x4, P1 x1 x2 x3 x4 ∧ P2 x1 x2 x3 x4 ∧ P3 x1 x2 x3 x4 ∧ P4 x1 x2 x3 x4 := ⟨x1, x2, x3, x4, h1, h2, h3, h4⟩
theorem in_eeeecccc {a1 : Sort _} {a2 : Sort _} {a3 : Sort _} {a4 : Sort _} {P1 : a1 → a2 → a3 → a4 → Prop} {P2 : a1 → a2 → a3 → a4 → Prop} {P3 : a1 → a2 → a3 → a4 → Prop} {P4 : a1 → a2 → a3 → a4 → Prop} {P5 : a1 → a2 → a3 → a4 → Prop} (x1 : a1) (x2 : a2) (x3 : a3) (x4 : a4) (h1 : P1 x1 x2 x3 x4) (h2 : P2 x1 x2 x3 x4) (h3 : P3 x1 x2 x3 x4) (h4 : P4 x1 x2 x3 x4) (h5 : P5 x1 x2 x3 x4) : ∃ x1, ∃ x2, ∃ x3, ∃ x4, P1 x1 x2 x3 x4 ∧ P2 x1 x2 x3 x4 ∧ P3 x1 x2 x3 x4 ∧ P4 x1 x2 x3 x4 ∧ P5 x1 x2 x3 x4 := ⟨x1, x2, x3, x4, h1, h2, h3, h4, h5⟩
theorem in_eeeecccccccccc {a1 : Sort _} {a2 : Sort _} {a3 : Sort _} {a4 : Sort _} {P1 : a1 → a2 → a3 → a4 → Prop} {P2 : a1 → a2 → a3 → a4 → Prop} {P3 : a1 → a2 → a3 → a4 → Prop} {P4 : a1 → a2 → a3 → a4 → Prop} {P5 : a1 → a2 → a3 → a4 → Prop} {P6 : a1 → a2 → a3 → a4 → Prop} {P7 : a1 → a2 → a3 → a4 → Prop} {P8 : a1 → a2 → a3 → a4 → Prop} {P9 : a1 → a2 → a3 → a4 → Prop} {P10 : a1 → a2 → a3 → a4 → Prop} {P11 : a1 → a2 → a3 → a4 → Prop} (x1 : a1) (x2 : a2) (x3 : a3) (x4 : a4) (h1 : P1 x1 x2 x3 x4) (h2 : P2 x1 x2 x3 x4) (h3 : P3 x1 x2 x3 x4) (h4 : P4 x1 x2 x3 x4) (h5 : P5 x1 x2 x3 x4) (h6 : P6 x1 x2 x3 x4) (h7 : P7 x1 x2 x3 x4) (h8 : P8 x1 x2 x3 x4) (h9 : P9 x1 x2 x3 x4) (h10 : P10 x1 x2 x3 x4) (h11 : P11 x1 x2 x3 x4) : ∃ x1, ∃ x2, ∃ x3, ∃ x4, P1 x1 x2 x3 x4 ∧ P2 x1 x2 x3 x4 ∧ P3 x1 x2 x3 x4 ∧ P4 x1 x2 x3 x4 ∧ P5 x1 x2 x3 x4 ∧ P6 x1 x2 x3 x4 ∧ P7 x1 x2 x3 x4 ∧ P8 x1 x2 x3 x4 ∧ P9 x1 x2 x3 x4 ∧ P10 x1 x2 x3 x4 ∧ P11 x1 x2 x3 x4 := ⟨x1, x2, x3, x4, h1, h2, h3, h4, h5, h6, h7, h8, h9, h10, h11⟩
theorem in_eeeeccceeeccc {a1 : Sort _} {a2 : Sort _} {a3 : Sort _} {a4 : Sort _} {P1 : a1 → a2 → a3 → a4 → Prop} {P2 : a1 → a2 → a3 → a4 → Prop} {P3 : a1 → a2 → a3 → a4 → Prop} {a5 : Sort _} {a6 : Sort _} {a7 : Sort _} {P4 : a1 → a2 → a3 → a4 → a5 → a6 → a7 → Prop} {P5 : a1 → a2 → a3 → a4 → a5 → a6 → a7 → Prop} {P6 : a1 → a2 → a3 → a4 → a5 → a6 → a7 → Prop} {P7 : a1 → a2 → a3 → a4 → a5 → a6 → a7 → Prop} (x1 : a1) (x2 : a2) (x3 : a3) (x4 : a4) (h1 : P1 x1 x2 x3 x4) (h2 : P2 x1 x2 x3 x4) (h3 : P3 x1 x2 x3 x4) (x5 : a5) (x6 : a6) (x7 : a7) (h4 : P4 x1 x2 x3 x4 x5 x6 x7) (h5 : P5 x1 x2 x3 x4 x5 x6 x7) (h6 : P6 x1 x2 x3 x4 x5 x6 x7) (h7 : P7 x1 x2 x3 x4 x5 x6 x7) : ∃ x1, ∃ x2, ∃ x3, ∃ x4, P1 x1 x2 x3 x4 ∧ P2 x1 x2 x3 x4 ∧ P3 x1 x2 x3 x4 ∧ ∃ x5, ∃ x6, ∃ x7, P4 x1 x2 x3 x4 x5 x6 x7 ∧ P5 x1 x2 x3 x4 x5 x6 x7 ∧ P6 x1 x2 x3 x4 x5 x6 x7 ∧ P7 x1 x2 x3 x4 x5 x6 x7 := ⟨x1, x2, x3, x4, h1, h2, h3, x5, x6, x7, h4, h5, h6, h7⟩
theorem in_eeeeccceeeeccc {a1 : Sort _} {a2 : Sort _} {a3 : Sort _} {a4 : Sort _} {P1 : a1 → a2 → a3 → a4 → Prop} {P2 : a1 → a2 → a3 → a4 → Prop} {P3 : a1 → a2 → a3 → a4 → Prop} {a5 : Sort _} {a6 : Sort _} {a7 : Sort _} {a8 : Sort _} {P4 : a1 → a2 → a3 → a4 → a5 → a6 → a7 → a8 → Prop} {P5 : a1 → a2 → a3 → a4 → a5 → a6 → a7 → a8 → Prop} {P6 : a1 → a2 → a3 → a4 → a5 → a6 → a7 → a8 → Prop} {P7 : a1 → a2 → a3 → a4 → a5 → a6 → a7 → a8 → Prop} (x1 : a1) (x2 : a2) (x3 : a3) (x4 : a4) (h1 : P1 x1 x2 x3 x4) (h2 : P2 x1 x2 x3 x4) (h3 : P3 x1 x2 x3 x4) (x5 : a5) (x6 : a6) (x7 : a7) (x8 : a8) (h4 : P4 x1 x2 x3 x4 x5 x6 x7 x8) (h5 : P5 x1 x2 x3 x4 x5 x6 x7 x8) (h6 : P6 x1 x2 x3 x4 x5 x6 x7 x8) (h7 : P7 x1 x2 x3 x4 x5 x6 x7 x8) : ∃ x1, ∃ x2, ∃ x3, ∃ x4, P1 x1 x2 x3 x4 ∧ P2 x1 x2 x3 x4 ∧ P3 x1 x2 x3 x4 ∧ ∃ x5, ∃ x6, ∃ x7, ∃ x8, P4 x1 x2 x3 x4 x5 x6 x7 x8 ∧ P5 x1 x2 x3 x4 x5 x6 x7 x8 ∧ P6 x1 x2 x3 x4 x5 x6 x7 x8 ∧ P7 x1 x2 x3 x4 x5 x6 x7 x8 := ⟨x1, x2, x3, x4, h1, h2, h3, x5, x6, x7, x8, h4, h5, h6, h7⟩
theorem in_eeeeecccc {a1 : Sort _} {a2 : Sort _} {a3 : Sort _} {a4 : Sort _} {a5 : Sort _} {P1 : a1 → a2 → a3 → a4 → a5 → Prop} {P2 : a1 → a2 → a3 → a4 → a5 → Prop} {P3 : a1 → a2 → a3 → a4 → a5 → Prop} {P4 : a1 → a2 → a3 → a4 → a5 → Prop} {P5 : a1 → a2 → a3 → a4 → a5 → Prop} (x1 : a1) (x2 : a2) (x3 : a3) (x4 : a4) (x5 : a5) (h1 : P1 x1 x2 x3 x4 x5) (h2 : P2 x1 x2 x3 x4 x5) (h3 : P3 x1 x2 x3 x4 x5) (h4 : P4 x1 x2 x3 x4 x5) (h5 : P5 x1 x2 x3 x4 x5) : ∃ x1, ∃ x2, ∃ x3, ∃ x4, ∃ x5, P1 x1 x2 x3 x4 x5 ∧ P2 x1 x2 x3 x4 x5 ∧ P3 x1 x2 x3 x4 x5 ∧ P4 x1 x2 x3 x4 x5 ∧ P5 x1 x2 x3 x4 x5 := ⟨x1, x2, x3, x4, x5, h1, h2, h3, h4, h5⟩
theorem in_eeeeeccccc {a1 : Sort _} {a2 : Sort _} {a3 : Sort _} {a4 : Sort _} {a5 : Sort _} {P1 : a1 → a2 → a3 → a4 → a5 → Prop} {P2 : a1 → a2 → a3 → a4 → a5 → Prop} {P3 : a1 → a2 → a3 → a4 → a5 → Prop} {P4 : a1 → a2 → a3 → a4 → a5 → Prop} {P5 : a1 → a2 → a3 → a4 → a5 → Prop} {P6 : a1 → a2 → a3 → a4 → a5 → Prop} (x1 : a1) (x2 : a2) (x3 : a3) (x4 : a4) (x5 : a5) (h1 : P1 x1 x2 x3 x4 x5) (h2 : P2 x1 x2 x3 x4 x5) (h3 : P3 x1 x2 x3 x4 x5) (h4 : P4 x1 x2 x3 x4 x5) (h5 : P5 x1 x2 x3 x4 x5) (h6 : P6 x1 x2 x3 x4 x5) : ∃ x1, ∃ x2, ∃ x3, ∃ x4, ∃ x5, P1 x1 x2 x3 x4 x5 ∧ P2 x1 x2 x3 x4 x5 ∧ P3 x1 x2 x3 x4 x5 ∧ P4 x1 x2 x3 x4 x5 ∧ P5 x1 x2 x3 x4 x5 ∧ P6 x1 x2 x3 x4 x5 := ⟨x1, x2, x3, x4, x5, h1, h2, h3, h4, h5, h6⟩
theorem in_eeeeecccccccc {a1 : Sort _} {a2 : Sort _} {a3 : Sort _} {a4 : Sort _} {a5 : Sort _} {P1 : a1 → a2 → a3 → a4 → a5 → Prop} {P2 : a1 → a2 → a3 → a4 → a5 → Prop} {P3 : a1 → a2 → a3 → a4 → a5 → Prop} {P4 : a1 → a2 → a3 → a4 → a5 → Prop} {P5 : a1 → a2 → a3 → a4 → a5 → Prop} {P6 : a1 → a2 → a3 → a4 → a5 → Prop} {P7 : a1 → a2 → a3 → a4 → a5 → Prop} {P8 : a1 → a2 → a3 → a4 → a5 → Prop} {P9 : a1 → a2 → a3 → a4 → a5 → Prop} (x1 : a1) (x2 : a2) (x3 : a3) (x4 : a4) (x5 : a5) (h1 : P1 x1 x2 x3 x4 x5) (h2 : P2 x1 x2 x3 x4 x5) (h3 : P3 x1 x2 x3 x4 x5) (h4 : P4 x1 x2 x3 x4 x5) (h5 : P5 x1 x2 x3 x4 x5) (h6 : P6 x1 x2 x3 x4 x5) (h7 : P7 x1 x2 x3 x4 x5) (h8 : P8 x1 x2 x3 x4 x5) (h9 : P9 x1 x2 x3 x4 x5) : ∃ x1, ∃ x2, ∃ x3, ∃ x4, ∃ x5, P1 x1 x2 x3 x4 x5 ∧ P2 x1 x2 x3 x4 x5 ∧ P3 x1 x2 x3 x4 x5 ∧ P4 x1 x2 x3 x4 x5 ∧ P5 x1 x2 x3 x4 x5 ∧ P6 x1 x2 x3 x4 x5 ∧ P7 x1 x2 x3 x4 x5 ∧ P8 x1 x2 x3 x4 x5 ∧ P9 x1 x2 x3 x4 x5 := ⟨x1, x2, x3, x4, x5, h1, h2, h3, h4, h5, h6, h7, h8, h9⟩
theorem in_eeeeeccccceeeccc {a1 : Sort _} {a2 : Sort _} {a3 : Sort _} {a4 : Sort _} {a5 : Sort _} {P1 : a1 → a2 → a3 → a4 → a5 → Prop} {P2 : a1 → a2 → a3 → a4 → a5 → Prop} {P3 : a1 → a2 → a3 → a4 → a5 → Prop} {P4 : a1 → a2 → a3 → a4 → a5 → Prop} {P5 : a1 → a2 → a3 → a4 → a5 → Prop} {a6 : Sort _} {a7 : Sort _} {a8 : Sort _} {P6 : a1 → a2 → a3 → a4 → a5 → a6 → a7 → a8 → Prop} {P7 : a1 → a2 → a3 → a4 → a5 → a6 → a7 → a8 → Prop} {P8 : a1 → a2 → a3 → a4 → a5 → a6 → a7 → a8 → Prop} {P9 : a1 → a2 → a3 → a4 → a5 → a6 → a7 → a8 → Prop} (x1 : a1) (x2 : a2) (x3 : a3) (x4 : a4) (x5 : a5) (h1 : P1 x1 x2 x3 x4 x5) (h2 : P2 x1 x2 x3 x4 x5) (h3 : P3 x1 x2 x3 x4 x5) (h4 : P4 x1 x2 x3 x4 x5) (h5 : P5 x1 x2 x3 x4 x5) (x6 : a6) (x7 : a7) (x8 : a8) (h6 : P6 x1 x2 x3 x4 x5 x6 x7 x8) (h7 : P7 x1 x2 x3 x4 x5 x6 x7 x8) (h8 : P8 x1 x2 x3 x4 x5 x6 x7 x8) (h9 : P9 x1 x2 x3 x4 x5 x6 x7 x8) : ∃ x1, ∃ x2, ∃ x3, ∃ x4, ∃ x5, P1 x1 x2 x3 x4 x5 ∧ P2 x1 x2 x3 x4 x5 ∧ P3 x1 x2 x3 x4 x5 ∧ P4 x1 x2 x3 x4 x5 ∧ P5 x1 x2 x3 x4 x5 ∧ ∃ x6, ∃ x7, ∃ x8, P6 x1 x2 x3 x4 x5 x6 x7 x8 ∧ P7 x1 x2 x3 x4 x5 x6 x7 x8 ∧ P8 x1 x2 x3 x4 x5 x6 x7 x8 ∧ P9 x1 x2 x3 x4 x5 x6 x7 x8 := ⟨x1, x2, x3, x4, x5, h1, h2, h3, h4, h5, x6, x7, x8, h6, h7, h8, h9⟩
theorem in_eeeeeecccccccc {a1 : Sort _} {a2 : Sort _} {a3 : Sort _} {a4 : Sort _} {a5 : Sort _} {a6 : Sort _} {P1 : a1 → a2 → a3 → a4 → a5 → a6 → Prop} {P2 : a1 → a2 → a3 → a4 → a5 → a6 → Prop} {P3 : a1 → a2 → a3 → a4 → a5 → a6 → Prop} {P4 : a1 → a2 → a3 → a4 → a5 → a6 → Prop} {P5 : a1 → a2 → a3 → a4 → a5 → a6 → Prop} {P6 : a1 → a2 → a3 → a4 → a5 → a6 → Prop} {P7 : a1 → a2 → a3 → a4 → a5 → a6 → Prop} {P8 : a1 → a2 → a3 → a4 → a5 → a6 → Prop} {P9 : a1 → a2 → a3 → a4 → a5 → a6 → Prop} (x1 : a1) (x2 : a2) (x3 : a3) (x4 : a4) (x5 : a5) (x6 : a6) (h1 : P1 x1 x2 x3 x4 x5 x6) (h2 : P2 x1 x2 x3 x4 x5 x6) (h3 : P3 x1 x2 x3 x4 x5 x6) (h4 : P4 x1 x2 x3 x4 x5 x6) (h5 : P5 x1 x2 x3 x4 x5 x6) (h6 : P6 x1 x2 x3 x4 x5 x6) (h7 : P7 x1 x2 x3 x4 x5 x6) (h8 : P8 x1 x2 x3 x4 x5 x6) (h9 : P9 x1 x2 x3 x4 x5 x6) : ∃ x1, ∃ x2, ∃ x3, ∃ x4, ∃ x5, ∃ x6, P1 x1 x2 x3 x4 x5 x6 ∧ P2 x1 x2 x3 x4 x5 x6 ∧ P3 x1 x2 x3 x4 x5 x6 ∧ P4 x1 x2 x3 x4 x5 x6 ∧ P5 x1 x2 x3 x4 x5 x6 ∧ P6 x1 x2 x3 x4 x5 x6 ∧ P7 x1 x2 x3 x4 x5 x6 ∧ P8 x1 x2 x3 x4 x5 x6 ∧ P9 x1 x2 x3 x4 x5 x6 := ⟨x1, x2, x3, x4, x5, x6, h1, h2, h3, h4, h5, h6, h7, h8, h9⟩
theorem in_eeeeeeecc {a1 : Sort _} {a2 : Sort _} {a3 : Sort _} {a4 : Sort _} {a5 : Sort _} {a6 : Sort _} {a7 : Sort _} {P1 : a1 → a2 → a3 → a4 → a5 → a6 → a7 → Prop} {P2 : a1 → a2 → a3 → a4 → a5 → a6 → a7 → Prop} {P3 : a1 → a2 → a3 → a4 → a5 → a6 → a7 → Prop} (x1 : a1) (x2 : a2) (x3 : a3) (x4 : a4) (x5 : a5) (x6 : a6) (x7 : a7) (h1 : P1 x1 x2 x3 x4 x5 x6 x7) (h2 : P2 x1 x2 x3 x4 x5 x6 x7) (h3 : P3 x1 x2 x3 x4 x5 x6 x7) : ∃ x1, ∃ x2, ∃ x3, ∃ x4, ∃ x5, ∃ x6, ∃ x7, P1 x1 x2 x3 x4 x5 x6 x7 ∧ P2 x1 x2 x3 x4 x5 x6 x7 ∧ P3 x1 x2 x3 x4 x5 x6 x7 := ⟨x1, x2, x3, x4, x5, x6, x7, h1, h2, h3⟩
namespace L2
open PySem PySem.Spec PyProof.Rows
noncomputable abbrev Key := Sum Int Str
noncomputable def keyIs : Key → Value → Bool
  | .inl k, v => Value.isInt k v
  | .inr x, v => Value.isStrOf x v
noncomputable def keyH (w : World) : Key → Int
  | .inl k => hashInt k
  | .inr x => hashStr w x
theorem keyIs_shape : ∀ {k : Key} {v : Value}, keyIs k v = true → (∃ i t, k = Sum.inl i ∧ v = Value.int i t) ∨ (∃ x t, k = Sum.inr x ∧ v = Value.str x t)
  | .inl i, v, h => by
    refine el_1_1 (Value.isInt_shape (k := i) (v := v) h) ?_; intro t e
    exact .inl ⟨i, t, rfl, e⟩
  | .inr x, v, h => by
    refine el_1_1 (Value.isStrOf_shape (x := x) (v := v) h) ?_; intro t e
    exact .inr ⟨x, t, rfl, e⟩
theorem keyIs_int (i : Int) (t : Tok) : keyIs (.inl i) (.int i t) = true := by simp [keyIs, Value.isInt]
theorem keyIs_str (x : Str) (t : Tok) : keyIs (.inr x) (.str x t) = true := by simp [keyIs, Value.isStrOf]
theorem key_ll (a b : Int) : decide ((Sum.inl a : Key) = Sum.inl b) = (a == b) := by
  by_cases e : a = b
  · subst e; simp
  · have h : ¬ (Sum.inl a : Key) = Sum.inl b := fun q => e (Sum.inl.inj q)
    rw [decide_eq_false h]
    exact (beq_eq_false_iff_ne.mpr e).symm
theorem key_rr (a b : Str) : decide ((Sum.inr a : Key) = Sum.inr b) = decide (a = b) := by
  by_cases e : a = b
  · subst e; simp
  · have h : ¬ (Sum.inr a : Key) = Sum.inr b := fun q => e (Sum.inr.inj q)
    rw [decide_eq_false h, decide_eq_false e]
theorem key_lr (a : Int) (b : Str) : decide ((Sum.inl a : Key) = Sum.inr b) = false := decide_eq_false (fun q => nomatch q)
theorem key_rl (a : Str) (b : Int) : decide ((Sum.inr a : Key) = Sum.inl b) = false := decide_eq_false (fun q => nomatch q)
noncomputable def mixKind (prog : Program) (w : World) : PySem.KeyKind prog w Key where
  is := keyIs
  hash := keyH w
  inj := fun v a b ha hb => by
    rcases keyIs_shape ha with ⟨i, t, rfl, rfl⟩ | ⟨x, t, rfl, rfl⟩
    · rcases keyIs_shape hb with ⟨j, u, rfl, e⟩ | ⟨y, u, rfl, e⟩
      · injection e with e1 _; rw [e1]
      · exact nomatch e
    · rcases keyIs_shape hb with ⟨j, u, rfl, e⟩ | ⟨y, u, rfl, e⟩
      · exact nomatch e
      · injection e with e1 _; rw [e1]
  byValue := fun k v h => by
    rcases keyIs_shape h with ⟨i, t, rfl, rfl⟩ | ⟨x, t, rfl, rfl⟩ <;> rfl
  pyHash := fun hv h => by
    rcases keyIs_shape hv with ⟨i, t, rfl, rfl⟩ | ⟨x, t, rfl, rfl⟩
    · exact wpAny_pyHash_int h
    · exact wpAny_pyHash_str h
  eqBool := fun hu hv h => by
    rcases keyIs_shape hu with ⟨i, t, rfl, rfl⟩ | ⟨x, t, rfl, rfl⟩
    · rcases keyIs_shape hv with ⟨j, u, rfl, rfl⟩ | ⟨y, u, rfl, rfl⟩
      · rw [key_ll] at h; exact wpAny_eqBool_int h
      · rw [key_lr] at h; exact SeqAt.EqAt.int_str i t y u _ _ _ _ h
    · rcases keyIs_shape hv with ⟨j, u, rfl, rfl⟩ | ⟨y, u, rfl, rfl⟩
      · rw [key_rl] at h; exact SeqAt.EqAt.str_int x t j u _ _ _ _ h
      · rw [key_rr] at h; exact wpAny_eqBool_str h
  «strs» := fun k x t v h => by
    rcases keyIs_shape h with ⟨i, u, rfl, e⟩ | ⟨y, u, rfl, e⟩
    · exact nomatch e
    · injection e with e1 _
      subst e1
      cases v <;> rfl
theorem mixKind_int (prog : Program) (w : World) (i : Int) (t : Tok) : (mixKind prog w).is (.inl i) (.int i t) = true := keyIs_int i t
theorem mixKind_str (prog : Program) (w : World) (x : Str) (t : Tok) : (mixKind prog w).is (.inr x) (.str x t) = true := keyIs_str x t
end L2
namespace L2
open PySem PySem.Spec PyProof.Rows
inductive V where
  | non | bl (b : Bool) | int (i : Int) | str (x : Str) | byt (b : Array UInt8) | flt (b : UInt64) | ref (a : Addr) | ty (n : String)
  deriving DecidableEq
noncomputable def RelV : V → Value → Prop
  | .non, u => u = Value.none
  | .bl b, u => u = Value.bool b
  | .int i, u => ∃ t, u = Value.int i t
  | .str x, u => ∃ t, u = Value.str x t
  | .byt b, u => ∃ t, u = Value.bytes b t
  | .flt b, u => ∃ t, u = Value.float b t
  | .ref a, u => u = Value.ref a
  | .ty n, u => u = Value.type n
noncomputable abbrev Vals : List V → List Value → Prop := Paired RelV
theorem Vals.length {xs : List V} {us : List Value} (r : Vals xs us) : xs.length = us.length := Paired.length r
theorem Vals.get : ∀ {xs : List V} {us : List Value} {i : Nat} {x : V}, Vals xs us → xs[i]? = some x → ∃ u, us[i]? = some u ∧ RelV x u
  | _, _, _, _, .nil, e => by simp at e
  | _, _, 0, _, .cons r _, e => by simp at e; subst e; exact ⟨_, rfl, r⟩
  | _, _, i + 1, x, .cons _ t, e => by
    refine el_1_2 (Vals.get (i := i) (x := x) t (by simpa using e)) ?_; intro u h1 h2
    exact in_ec u (by simpa using h1) h2
theorem Vals.set {x : V} {u : Value} (r : RelV x u) : ∀ {xs : List V} {us : List Value} (i : Nat), Vals xs us → Vals (xs.set i x) (us.set i u)
  | _, _, _, .nil => .nil
  | _, _, 0, .cons _ t => .cons r t
  | _, _, i + 1, .cons q t => .cons q (Vals.set r i t)
theorem Vals.append : ∀ {xs ys : List V} {us ws : List Value}, Vals xs us → Vals ys ws → Vals (xs ++ ys) (us ++ ws)
  | _, _, _, _, .nil, s => s
  | _, _, _, _, .cons r t, s => .cons r (Vals.append t s)
theorem Vals.take : ∀ {xs : List V} {us : List Value} (n : Nat), Vals xs us → Vals (xs.take n) (us.take n)
  | _, _, 0, _ => .nil
  | _, _, _ + 1, .nil => .nil
  | _, _, n + 1, .cons r t => .cons r (Vals.take n t)
theorem Vals.drop : ∀ {xs : List V} {us : List Value} (n : Nat), Vals xs us → Vals (xs.drop n) (us.drop n)
  | _, _, 0, r => r
  | _, _, _ + 1, .nil => .nil
  | _, _, n + 1, .cons _ t => Vals.drop n t
noncomputable def RelO : Option V → Option Value → Prop
  | some v, some u => RelV v u
  | none, none => True
  | _, _ => False
noncomputable def KV {κ : Type} : List (κ × V) → List (κ × Value) → Prop := Paired fun (p : κ × V) (q : κ × Value) => p.1 = q.1 ∧ RelV p.2 q.2
noncomputable def kV : Key → V
  | .inl i => .int i
  | .inr x => .str x
inductive HO where
  | lst (xs : List V)
  | tup (xs : List V)
  | dK (kvs : List (Key × V)) | dT (kvs : List (List Key × V))
  | set (S : Int → Bool) (n : Nat)
  | ins (C dx : Addr) (fs : List (Str × V))
  | own (x : Addr)
  | xd (fs : List (Str × V))
  | met (f x : Addr)
  | rng (lo hi : Int)
  | frz (o : Obj) (u : HO)
  | tbl (ps : Array Value)
  | ext (φ : Heap → Prop)
noncomputable abbrev Hp := Addr → Option HO
noncomputable def upd (H : Hp) (a : Addr) (o : HO) : Hp := fun b => if b = a then some o else H b
theorem upd_same {H : Hp} {a : Addr} {o : HO} : upd H a o a = some o := by unfold upd; rw [if_pos rfl]
theorem upd_ne {H : Hp} {a b : Addr} {o : HO} (h : b ≠ a) : upd H a o b = H b := by unfold upd; rw [if_neg h]
theorem ne_of {H : Hp} {a b : Addr} {o u : HO} (h : H a = some o) (h' : H b = some u) (d : o ≠ u) : a ≠ b := by
  intro e; subst e; rw [h] at h'; exact d (Option.some.inj h')
theorem ne_of_none {H : Hp} {a b : Addr} {o : HO} (h : H a = some o) (h' : H b = none) : a ≠ b := by
  intro e; subst e; rw [h] at h'; cases h'
section
variable (P : Program) (w : World)
noncomputable def ObjOk (H : Hp) (h : Heap) (a : Addr) : HO → Prop
  | .lst xs => xs.length ≤ sizeLine ∧ ∃ (its : List Value) (n : Nat), Vals xs its ∧ h.get? a = some { cls := .type "list", data := .seq its.toArray n }
  | .tup xs => xs.length ≤ sizeLine ∧ ∃ its : List Value, Vals xs its ∧ IsTup h a its.toArray
  | .dK kvs => kvs.length ≤ sizeLine ∧ (a == sysModules) = false ∧ ∃ vs, KV kvs vs ∧ h.DictOf (mixKind P w) a vs
  | .dT kvs => kvs.length ≤ sizeLine ∧ (a == sysModules) = false ∧ ∃ xs : List (List Key × Addr × Value),
      Paired (fun (p : List Key × V) (q : List Key × Addr × Value) => p.1 = q.1 ∧ H q.2.1 = some (.tup (p.1.map kV)) ∧ RelV p.2 q.2.2) kvs xs ∧
      ∃ o es ep, h.get? a = some o ∧ o.ExactDict ∧ o.data = .dict es ep ∧ es.toList = xs.map (entryOfKey (tupleKind (mixKind P w))) ∧ (xs.map (·.1)).Nodup
  | .set S n => h.SetOf (intKind P w) a S n
  | .ins C dx fs => H dx = some (.own a) ∧ fs.length ≤ 1000 ∧ dx ≠ a ∧ h.get? a = some (PySem.W.instObj C dx) ∧
      ∃ mA, h.Ns1 dx mA ∧ (∀ f, RelO (fs.lookup f) (mA f)) ∧ PySem.Within mA (fs.map (·.1))
  | .own _ => ∃ o, h.get? a = some o
  | .xd fs => ∃ mA, h.Ns1 a mA ∧ ∀ f, RelO (fs.lookup f) (mA f)
  | .rng lo hi => ∃ t u v, h.get? a = some { cls := .type "range", data := .fields #[.int lo t, .int hi u, .int 1 v] }
  | .frz o u => h.get? a = some o ∧ ObjOk H h a u
  | .tbl ps => h.get? a = some { cls := .none, data := .fields ps }
  | .met f x => h.get? a = some (PySem.W.methodObj (.ref f) (.ref x))
  | .ext φ => φ h ∧ (∃ o, h.get? a = some o) ∧ ∀ h1 h2 : Heap, φ h1 → (∀ o, h1.get? a = some o → h2.get? a = some o) → φ h2
noncomputable def HOk (H : Hp) (h : Heap) : Prop := ∀ a o, H a = some o → ObjOk P w H h a o
end
section
variable {P : Program} {w : World} {H H' : Hp} {h h' : Heap} {a : Addr} {o : HO}
theorem ObjOk.lt (x : ObjOk P w H h a o) : a < h.objs.size := by
  cases o with
  | lst xs => obtain ⟨_, _, _, _, e⟩ := x; exact Heap.lt_size e
  | tup xs => obtain ⟨_, _, _, p⟩ := x; exact p.lt
  | dK kvs => obtain ⟨_, _, _, _, o, _, _, e, _⟩ := x; exact Heap.lt_size e
  | dT kvs => obtain ⟨_, _, _, _, o, _, _, e, _⟩ := x; exact Heap.lt_size e
  | set S n => obtain ⟨o, _, _, _, e, _⟩ := x; exact Heap.lt_size e
  | ins C dx fs => obtain ⟨_, _, _, e, _⟩ := x; exact Heap.lt_size e
  | own y => obtain ⟨_, e⟩ := x; exact Heap.lt_size e
  | xd fs => obtain ⟨_, ⟨_, _, _, e, _⟩, _⟩ := x; exact Heap.lt_size e
  | rng lo hi => obtain ⟨_, _, _, e⟩ := x; exact Heap.lt_size e
  | frz ob u => obtain ⟨e, _⟩ := x; exact Heap.lt_size e
  | tbl ps => exact Heap.lt_size (show h.get? a = some _ from x)
  | met f y => exact Heap.lt_size (show h.get? a = some _ from x)
  | ext φ => obtain ⟨_, ⟨_, e⟩, _⟩ := x; exact Heap.lt_size e
theorem Paired.mapP {α β : Type} {F G : α → β → Prop} : ∀ {l₁ : List α} {l₂ : List β}, Paired F l₁ l₂ → (∀ a b, F a b → G a b) → Paired G l₁ l₂
  | _, _, .nil, _ => .nil
  | _, _, .cons r t, f => .cons (f _ _ r) (Paired.mapP t f)
theorem ObjOk.stay (x : ObjOk P w H h a o) (k : ∀ b u, (b = a ∨ H b = some (.own a)) → h.get? b = some u → h'.get? b = some u)
    (ho : ∀ b, H b = some (.own a) → H' b = some (.own a)) (ht : ∀ b xs, H b = some (.tup xs) → H' b = some (.tup xs)) : ObjOk P w H' h' a o := by
  induction o with
  | lst xs => obtain ⟨z, its, n, r, e⟩ := x; exact ⟨z, its, n, r, k _ _ (.inl rfl) e⟩
  | tup xs => obtain ⟨z, its, r, ob, e, c⟩ := x; exact ⟨z, its, r, ob, k _ _ (.inl rfl) e, c⟩
  | dK kvs => obtain ⟨z, y, vs, r, ob, es, ep, e, c⟩ := x; exact ⟨z, y, vs, r, ob, es, ep, k _ _ (.inl rfl) e, c⟩
  | dT kvs =>
    obtain ⟨z, y, xs, r, ob, es, ep, e, c⟩ := x
    exact in_cceceeec z y xs (Paired.mapP r fun p q z => ⟨z.1, ht _ _ z.2.1, z.2.2⟩) ob es ep (k _ _ (.inl rfl) e) c
  | set S n => obtain ⟨ob, es, ep, t, e, c⟩ := x; exact ⟨ob, es, ep, t, k _ _ (.inl rfl) e, c⟩
  | ins C dx fs =>
    obtain ⟨d, z, ne, e, mA, ⟨od, es, ep, e2, c⟩, r⟩ := x
    exact in_ccccec (ho _ d) z ne (k _ _ (.inl rfl) e) mA (⟨od, es, ep, k _ _ (.inr d) e2, c⟩) r
  | own y => obtain ⟨ob, e⟩ := x; exact ⟨ob, k _ _ (.inl rfl) e⟩
  | xd fs => obtain ⟨mA, ⟨od, es, ep, e, c⟩, r⟩ := x; exact ⟨mA, ⟨od, es, ep, k _ _ (.inl rfl) e, c⟩, r⟩
  | rng lo hi => obtain ⟨t, u, v, e⟩ := x; exact ⟨t, u, v, k _ _ (.inl rfl) e⟩
  | frz ob u ih => obtain ⟨e, q⟩ := x; exact ⟨k _ _ (.inl rfl) e, ih q⟩
  | tbl ps =>
    have e : h.get? a = some { cls := .none, data := .fields ps } := x
    show h'.get? a = some { cls := .none, data := .fields ps }
    exact k a _ (.inl rfl) e
  | met f y =>
    have e : h.get? a = some (PySem.W.methodObj (.ref f) (.ref y)) := x
    show h'.get? a = some (PySem.W.methodObj (.ref f) (.ref y))
    exact k a _ (.inl rfl) e
  | ext φ => obtain ⟨p, ⟨o, e⟩, st⟩ := x; exact ⟨st _ _ p fun o q => k _ _ (.inl rfl) q, ⟨o, k _ _ (.inl rfl) e⟩, st⟩
theorem HOk.lt (x : HOk P w H h) (e : H a = some o) : a < h.objs.size := (x a o e).lt
theorem HOk.fresh (x : HOk P w H h) (e : h.objs.size ≤ a) : H a = none := by
  cases q : H a with
  | none => rfl
  | some u => exact absurd (Nat.lt_of_lt_of_le (x.lt q) e) (Nat.lt_irrefl _)
theorem HOk.kept (x : HOk P w H h) (k : ∀ b u, h.get? b = some u → h'.get? b = some u) : HOk P w H h' := fun a o e =>
  (x a o e).stay (fun b u _ q => k b u q) (fun _ q => q) fun _ _ q => q
theorem HOk.laid (x : HOk P w H h) (k : ∀ b u, h.get? b = some u → h'.get? b = some u) (hp : h.objs.size ≤ a) (new : ObjOk P w (upd H a o) h' a o) : HOk P w (upd H a o) h' := fun b u e => by
  have hn := x.fresh hp
  by_cases hb : b = a
  · subst hb; rw [upd_same] at e; cases e; exact new
  · rw [upd_ne hb] at e
    exact (x b u e).stay (fun c v _ q => k c v q) (fun c q => by rw [upd_ne (ne_of_none q hn)]; exact q) fun c xs q => by rw [upd_ne (ne_of_none q hn)]; exact q
end
noncomputable def Rd (H : Hp) (a : Addr) (u : HO) : Prop := H a = some u ∨ ∃ o, H a = some (.frz o u)
theorem Rd.ok {P : Program} {w : World} {H : Hp} {h : Heap} {a : Addr} {u : HO} (r : Rd H a u) (x : HOk P w H h) : ObjOk P w H h a u := by
  rcases r with r | ⟨o, r⟩
  · exact x a u r
  · refine el_0_2 (x a _ r) ?_; intro _ q
    exact q
noncomputable def Mut : Option HO → Prop
  | some (.lst _) => True
  | some (.dK _) => True
  | some (.dT _) => True
  | some (.set _ _) => True
  | some (.ins _ _ _) => True
  | some (.ext _) => True
  | _ => False
section
variable {P : Program} {w : World} {H : Hp} {h h' : Heap} {x e : Addr} {o' : HO}
theorem HOk.write (ok : HOk P w H h) (mu : Mut (H x)) (he : e = x ∨ H e = some (.own x)) (k : ∀ b u, b ≠ e → h.get? b = some u → h'.get? b = some u) (heo : ∃ u, h'.get? e = some u)
    (new : ObjOk P w (upd H x o') h' x o') : HOk P w (upd H x o') h' := fun b u q => by
  have nown : ∀ c y, H c = some (.own y) → c ≠ x := fun c y r z => by subst z; rw [r] at mu; exact mu
  have ntup : ∀ c xs, H c = some (.tup xs) → c ≠ x := fun c xs r z => by subst z; rw [r] at mu; exact mu
  by_cases hb : b = x
  · subst hb; rw [upd_same] at q; cases q; exact new
  · rw [upd_ne hb] at q
    by_cases hbe : b = e
    · have q' : H b = some (.own x) := by
        rcases he with z | z
        · exact absurd (hbe.trans z) hb
        · rw [hbe]; exact z
      rw [q] at q'; cases q'
      refine el_1_1 heo ?_; clear heo; intro v hv
      exact ⟨v, by rw [hbe]; exact hv⟩
    · refine (ok b u q).stay (fun c v hc r => k c v ?_ r) (fun c r => by rw [upd_ne (nown c b r)]; exact r) fun c xs r => by rw [upd_ne (ntup c xs r)]; exact r
      rcases hc with rfl | hc
      · exact hbe
      · rintro rfl
        rcases he with z | z
        · exact nown c b hc z
        · rw [hc] at z; cases z; exact hb rfl
end
structure Un (fs ex : List Addr) (H H' : Hp) (h h' : Heap) : Prop where
  keep : ∀ b o, h.get? b = some o → H b = none → b ∉ fs → b ∉ ex → h'.get? b = some o
  slot : ∀ b o, h.get? b = some o → H b = none → b ∈ fs → b ∉ ex → ∃ sl, h'.get? b = some { o with slots := sl }
  free : ∀ b o, h.get? b = some o → H b = none → b ∉ ex → H' b = none
  there : ∀ b o, h.get? b = some o → b ∉ ex → ∃ o', h'.get? b = some o'
  tups : ∀ b xs, H b = some (.tup xs) → H' b = some (.tup xs)
  frzs : ∀ b o u, H b = some (.frz o u) → H' b = some (.frz o u)
  tbls : ∀ b ps, H b = some (.tbl ps) → ∃ more, H' b = some (.tbl (ps ++ more))
section
variable {fs fs' ex ex' : List Addr} {H H1 H2 : Hp} {h h1 h2 h' : Heap} {a x e : Addr} {o : HO}
theorem Un.any (u : Un fs ex H H1 h h1) {b : Addr} {ob : Obj} (q : h.get? b = some ob) (n : H b = none) (hx : b ∉ ex) : ∃ sl, h1.get? b = some { ob with slots := sl } := by
  by_cases hb : b ∈ fs
  · exact u.slot b ob q n hb hx
  · exact ⟨ob.slots, u.keep b ob q n hb hx⟩
theorem Un.kept (k : ∀ b u, h.get? b = some u → h'.get? b = some u) : Un fs ex H H h h' :=
  ⟨fun b ob q _ _ _ => k b ob q, fun b ob q _ _ _ => ⟨ob.slots, k b ob q⟩, fun _ _ _ n _ => n, fun b ob q _ => ⟨ob, k b ob q⟩, fun _ _ q => q, fun _ _ _ q => q, fun _ ps q => ⟨#[], by rw [q]; simp⟩⟩
theorem Un.refl : Un fs ex H H h h := Un.kept fun _ _ q => q
theorem Un.laid (k : ∀ b u, h.get? b = some u → h'.get? b = some u) (hp : h.objs.size ≤ a) (hn : H a = none) : Un fs ex H (upd H a o) h h' where
  keep := fun b u q _ _ _ => k b u q
  slot := fun b u q _ _ _ => ⟨u.slots, k b u q⟩
  free := fun b u q n _ => by rw [upd_ne (Nat.ne_of_lt (Nat.lt_of_lt_of_le (Heap.lt_size q) hp))]; exact n
  there := fun b u q _ => ⟨u, k b u q⟩
  tups := fun b xs q => by rw [upd_ne (ne_of_none q hn)]; exact q
  frzs := fun b u xs q => by rw [upd_ne (ne_of_none q hn)]; exact q
  tbls := fun b ps q => ⟨#[], by rw [upd_ne (ne_of_none q hn), q]; simp⟩
theorem Un.write (mu : Mut (H x)) (he : e = x ∨ H e = some (.own x)) (k : ∀ b u, b ≠ e → h.get? b = some u → h'.get? b = some u) (heo : ∃ u, h'.get? e = some u) : Un fs ex H (upd H x o) h h' := by
  have hx : ∀ b, H b = none → b ≠ x := fun b n z => by subst z; rw [n] at mu; exact mu
  have hb : ∀ b, H b = none → b ≠ e := fun b n z => by
    subst z
    rcases he with r | r
    · exact hx b n r
    · rw [n] at r; cases r
  have hm : ∀ b u, H b = some u → ¬ Mut (some u) → b ≠ x := fun b u q nm z => by subst z; rw [q] at mu; exact nm mu
  refine ⟨fun b u q n _ _ => k b u (hb b n) q, fun b u q n _ _ => ⟨u.slots, k b u (hb b n) q⟩, fun b u q n _ => by rw [upd_ne (hx b n)]; exact n, fun b u q _ => ?_,
    fun b xs q => by rw [upd_ne (hm b _ q fun z => z)]; exact q, fun b u xs q => by rw [upd_ne (hm b _ q fun z => z)]; exact q, fun b ps q => ⟨#[], by rw [upd_ne (hm b _ q fun z => z), q]; simp⟩⟩
  by_cases hbe : b = e
  · subst hbe; exact heo
  · exact ⟨u, k b u hbe q⟩
end
noncomputable def trk (h : Heap) (H : Hp) : List Addr := (List.range h.objs.size).filter fun a => (H a).isSome
noncomputable def hidT (h : Heap) (H : Hp) : Heap := PySem.W.hideAll h (trk h H)
theorem hidT_size (h : Heap) (H : Hp) : (hidT h H).objs.size = h.objs.size := PySem.W.hideAll_size _ _
theorem hidT_get {h : Heap} {H : Hp} {b : Addr} {o : Obj} (e : h.get? b = some o) (n : H b = none) : (hidT h H).get? b = some o :=
  PySem.W.hideAll_get _ e fun hm => by
    have q : (H b).isSome = true := (List.mem_filter.mp hm).2
    rw [n] at q; simp at q
theorem of_hidT {h : Heap} {H : Hp} {b : Addr} {o : Obj} (e : (hidT h H).get? b = some o) : h.get? b = some o ∧ H b = none := by
  have e' : h.get? b = some o := PySem.W.of_hideAll (trk h H) e
  refine ⟨e', ?_⟩
  cases q : H b with
  | none => rfl
  | some x =>
    have hm : b ∈ trk h H := List.mem_filter.mpr ⟨List.mem_range.mpr (Heap.lt_size e'), by simp [q]⟩
    have z : (hidT h H).get? b = none := PySem.W.hideAll_none (trk h H) hm
    rw [z] at e; cases e
noncomputable def allNews (g h : Heap) (L : Addr) : List (Addr × Obj) := (List.range h.objs.size).filterMap fun a => if a = L ∨ (g.get? a).isSome = true then none else (h.get? a).map fun o => (a, o)
noncomputable def rest (g h : Heap) (L d : Addr) : List (Addr × Obj) := (allNews g h L).filter fun p => decide (p.1 ≠ d)
end L2
namespace L2
open PySem PySem.Spec PyProof.Rows
structure Mod (K : PySem.W.Frag) (mg : Str → Option Value) (base : Heap) : Prop where
  kin : K.In base
  glob : base.Ns mainGlobals mg
  blt : ∃ mb, base.Ns builtinsNs mb ∧ ∀ x : Str, x ≠ "__name__" → mb x = bootBuiltins x
  nolimit : base.NoLimit
structure Cx where
  prog : Program
  w : World
  K : PySem.W.Frag
  mg : Str → Option Value
  base : Heap
  A : Around
  N : List Str
  s₀ : Shared
  H₀ : Hp
  env : Env
  outer : List Env
  stack : List Env
  ex : List Addr
  fn : Str → Bool
  calm : Bool
  pn : List (Addr × Obj)
  xe : Value → Shared → Prop
noncomputable def frs (l : List Env) : List Addr := l.filterMap (·.frame)
noncomputable abbrev Cx.fs (X : Cx) : List Addr := frs X.outer
noncomputable def Vis (sc : Scope) (x : Str) : Prop := sc.names.lookup x = some .local ∨ sc.names.lookup x = some .cell ∨ sc.names.lookup x = some .free
noncomputable def Loc (sc : Scope) (x : Str) : Prop := sc.names.lookup x = some .local ∨ sc.names.lookup x = some .cell
noncomputable def Look (env : Env) (h : Heap) (m : Str → Option Value) (x : Str) (u : Value) : Prop :=
  (env.kindOf x = some .local ∧ m x = some u) ∨ ((env.kindOf x = some .cell ∨ env.kindOf x = some .free) ∧ ∃ c, env.cells.lookup x = some c ∧ h.IsCell c (some u))
structure Cx.Ok (X : Cx) : Prop where
  mod : Mod X.K X.mg X.base
  kind : X.env.scope.kind = .function
  glob : X.env.globals = mainGlobals
  blt : X.env.builtins = builtinsNs
  above : X.s₀.heap.objs.size ≤ X.env.locals
  inj : ∀ x y c, X.env.cells.lookup x = some c → X.env.cells.lookup y = some c → x = y
  has : ∀ x, (X.env.kindOf x = some .cell ∨ X.env.kindOf x = some .free) → ∃ c, X.env.cells.lookup x = some c
  cab : ∀ x c, X.fn x = true → X.env.cells.lookup x = some c → X.s₀.heap.objs.size ≤ c
  hd : X.calm = true → X.A.handled = none
  frames : X.A.frames = some X.stack
  stk : X.stack = X.outer ∨ (X.stack = X.env :: X.outer ∧ X.env.frame = some X.env.locals)
  exf : ∀ b ∈ X.ex, b ≠ X.env.locals ∧ ∀ x c, X.env.cells.lookup x = some c → c ≠ b
  bs : ∀ b o, X.base.get? b = some o → X.s₀.heap.get? b = some o ∧ X.H₀ b = none
  bsz : X.base.objs.size ≤ X.s₀.heap.objs.size
  noex : ∀ b o, X.base.get? b = some o → b ∉ X.ex
  exfs : ∀ b ∈ X.ex, b ∉ X.fs
  funs : X.s₀.heap.FunFrames X.base X.outer
  frf : ∀ b ∈ X.fs, X.H₀ b = none
structure Inv (X : Cx) (pins : List (Addr × Obj)) (σ : List (Option V)) (H : Hp) (s : Shared) : Prop where
  ok : X.Ok
  os : s.os = X.s₀.os
  bare : AllBare s.gens
  base : Un X.fs X.ex X.H₀ H X.s₀.heap s.heap
  loc : ∃ m, s.heap.Ns X.env.locals m ∧ ∀ (i : Nat) (x : Str) (v : V), X.N[i]? = some x → σ[i]? = some (some v) → Vis X.env.scope x → ∃ u, RelV v u ∧ Look X.env s.heap m x u
  cell : ∀ x c, X.env.cells.lookup x = some c → ∃ v, s.heap.IsCell c v
  free : H X.env.locals = none
  freeC : ∀ x c, X.env.cells.lookup x = some c → H c = none
  pin : ∀ p ∈ X.pn ++ pins, s.heap.get? p.1 = some p.2 ∧ H p.1 = none ∧ p.1 ≠ X.env.locals ∧ p.1 ∉ X.fs ∧ ∀ v, p.2.data ≠ .cell v
  hok : HOk X.prog X.w H s.heap
  len : σ.length = X.N.length
section
variable {X : Cx} {pins : List (Addr × Obj)} {σ : List (Option V)} {H H' : Hp} {s : Shared} {h' : Heap}
theorem Cx.Ok.nofr (ok : X.Ok) {b : Addr} {o : Obj} (e : X.base.get? b = some o) : b ∉ X.fs := fun hb => by
  have := (ok.funs.mem hb).1
  rw [e] at this; cases this
theorem Inv.bs (I : Inv X pins σ H s) : ∀ b o, X.base.get? b = some o → s.heap.get? b = some o ∧ H b = none := fun b o e =>
  ⟨I.base.keep b o (I.ok.bs b o e).1 (I.ok.bs b o e).2 (I.ok.nofr e) (I.ok.noex b o e), I.base.free b o (I.ok.bs b o e).1 (I.ok.bs b o e).2 (I.ok.noex b o e)⟩
theorem Inv.bk (I : Inv X pins σ H s) : ∀ b o, X.base.get? b = some o → s.heap.get? b = some o := fun b o e => (I.bs b o e).1
theorem Inv.mod (I : Inv X pins σ H s) : Mod X.K X.mg X.base := I.ok.mod
theorem Inv.kIn (I : Inv X pins σ H s) : X.K.In s.heap := I.ok.mod.kin.keeps I.bk
theorem Inv.lt (I : Inv X pins σ H s) : X.env.locals < s.heap.objs.size := let ⟨_, hn, _⟩ := I.loc; hn.lt
theorem Inv.sz (I : Inv X pins σ H s) : X.s₀.heap.objs.size ≤ s.heap.objs.size := Nat.le_trans I.ok.above (Nat.le_of_lt I.lt)
theorem Inv.nofs (I : Inv X pins σ H s) {a : Addr} (h : s.heap.objs.size ≤ a) : a ∉ X.fs := fun hb => by
  obtain ⟨_, o, ho, _⟩ := I.ok.funs.mem hb
  exact absurd (Nat.lt_of_lt_of_le (Heap.lt_size ho) (Nat.le_trans I.sz h)) (Nat.lt_irrefl _)
theorem Inv.cne (I : Inv X pins σ H s) : ∀ x c, X.env.cells.lookup x = some c → c ≠ X.env.locals := fun x c e z => by
  refine el_2_2 (I.cell x c e) ?_; intro v o ho hd
  refine el_1_2 (I.loc) ?_; intro m zq1 _
  refine el_3_3 zq1 ?_; clear zq1; intro o' es ep ho' hd' _
  rw [z, ho'] at ho; cases ho; rw [hd'] at hd; cases hd
theorem Inv.funs (I : Inv X pins σ H s) : s.heap.FunFrames X.base X.outer := by
  have all : ∀ (l : List Env), (∀ b ∈ frs l, b ∈ X.fs) → X.s₀.heap.FunFrames X.base l → s.heap.FunFrames X.base l := by
    intro l
    induction l with
    | nil => intro _ _; trivial
    | cons env r ih =>
      intro hs hl
      refine el_0_3 hl ?_; clear hl; intro hk zq2 hr
      refine el_2_4 zq2 ?_; clear zq2; intro L o hf hn ho hd
      have hL : L ∈ X.fs := hs L (by unfold frs; rw [List.filterMap_cons, hf]; exact List.mem_cons_self)
      refine el_1_1 (I.base.slot L o ho (I.ok.frf L hL) hL fun z => I.ok.exfs L z hL) ?_; intro sl e
      exact ⟨hk, ⟨L, _, hf, hn, e, hd⟩, ih (fun b hb => hs b (by unfold frs; rw [List.filterMap_cons, hf]; exact List.mem_cons_of_mem _ hb)) hr⟩
  exact all X.outer (fun _ hb => hb) I.ok.funs
theorem Inv.stack (I : Inv X pins σ H s) : s.heap.FunFrames X.base X.stack := by
  rcases I.ok.stk with e | ⟨e, hf⟩
  · rw [e]; exact I.funs
  · rw [e]
    refine el_1_2 (I.loc) ?_; intro m hn _
    refine .cons (by rw [I.ok.kind]; decide) hf hn ?_ I.funs
    exact Heap.get?_none_of_le (Nat.le_trans I.ok.bsz I.ok.above)
theorem Inv.stkSub (I : Inv X pins σ H s) : ∀ b ∈ frs X.stack, b ∈ X.env.locals :: X.fs := fun b hb => by
  rcases I.ok.stk with e | ⟨e, hf⟩
  · rw [e] at hb; exact List.mem_cons_of_mem _ hb
  · rw [e] at hb
    unfold frs at hb
    rw [List.filterMap_cons, hf] at hb
    exact hb
theorem Inv.stkFree (I : Inv X pins σ H s) : ∀ b ∈ frs X.stack, H b = none := fun b hb => by
  rcases List.mem_cons.mp (I.stkSub b hb) with e | hb
  · rw [e]; exact I.free
  · obtain ⟨_, o, ho, _⟩ := I.ok.funs.mem hb
    exact I.base.free b o ho (I.ok.frf b hb) fun z => I.ok.exfs b z hb
theorem Inv.step {g' : Array GenState} {t' : Nat} {d' : Drawn} {ch : List Addr} (I : Inv X pins σ H s)
    (hch : ∀ b ∈ ch, (b ∈ X.ex ∨ X.s₀.heap.objs.size ≤ b) ∧ b ≠ X.env.locals ∧ (∀ x c, X.env.cells.lookup x = some c → c ≠ b) ∧ ∀ p ∈ X.pn ++ pins, p.1 ≠ b)
    (keep : ∀ b o, b ≠ X.env.locals → b ∉ X.fs → b ∉ ch → s.heap.get? b = some o → H b = none → h'.get? b = some o)
    (slot : ∀ b o, b ≠ X.env.locals → b ∈ X.fs → b ∉ ch → s.heap.get? b = some o → H b = none → ∃ sl, h'.get? b = some { o with slots := sl }) (free : ∀ b o, b ∉ ch → s.heap.get? b = some o → H b = none → H' b = none)
    (there : ∀ b o, b ∉ ch → s.heap.get? b = some o → ∃ o', h'.get? b = some o')
    (tups : ∀ b xs, H b = some (.tup xs) → H' b = some (.tup xs)) (frzs : ∀ b o u, H b = some (.frz o u) → H' b = some (.frz o u)) (tbls : ∀ b ps, H b = some (.tbl ps) → ∃ more, H' b = some (.tbl (ps ++ more)))
    (ns : ∀ m, s.heap.Ns X.env.locals m → h'.Ns X.env.locals m) (hok : HOk X.prog X.w H' h') (hg : AllBare g') :
    Inv X pins σ H' { s with heap := h', gens := g', drawn := d', toks := t' } := by
  have neL : ∀ b o, X.s₀.heap.get? b = some o → b ≠ X.env.locals := fun b o e => Nat.ne_of_lt (Nat.lt_of_lt_of_le (Heap.lt_size e) I.ok.above)
  have neC : ∀ b o, X.s₀.heap.get? b = some o → b ∉ X.ex → b ∉ ch := fun b o e hx hb => by
    rcases (hch b hb).1 with z | z
    · exact hx z
    · exact absurd (Nat.lt_of_lt_of_le (Heap.lt_size e) z) (Nat.lt_irrefl _)
  have cellK : ∀ x c, X.env.cells.lookup x = some c → ∀ v, s.heap.IsCell c v → h'.IsCell c v := fun x c e v ⟨o, ho, hd⟩ => by
    have nch : c ∉ ch := fun z => (hch c z).2.2.1 x c e rfl
    by_cases hc : c ∈ X.fs
    · refine el_1_1 (slot c o (I.cne x c e) hc nch ho (I.freeC x c e)) ?_; intro sl q
      exact in_ec _ q hd
    · exact in_ec o (keep c o (I.cne x c e) hc nch ho (I.freeC x c e)) hd
  refine ⟨I.ok, I.os, hg, ⟨fun b o e n hb hx => ?_, fun b o e n hb hx => ?_, fun b o e n hx => ?_, fun b o e hx => ?_, fun b xs e => tups b xs (I.base.tups b xs e), fun b o xs e => frzs b o xs (I.base.frzs b o xs e), fun b ps e => ?_⟩, ?_, fun x c e => ?_, ?_, fun x c e => ?_, fun p hp => ?_, hok, I.len⟩
  · exact keep b o (neL b o e) hb (neC b o e hx) (I.base.keep b o e n hb hx) (I.base.free b o e n hx)
  · refine el_1_1 (I.base.slot b o e n hb hx) ?_; intro sl e1
    refine el_1_1 (slot b _ (neL b o e) hb (neC b o e hx) e1 (I.base.free b o e n hx)) ?_; intro sl' e2
    exact ⟨sl', e2⟩
  · refine el_1_1 (I.base.there b o e hx) ?_; intro o' e1
    exact free b o' (neC b o e hx) e1 (I.base.free b o e n hx)
  · refine el_1_1 (I.base.there b o e hx) ?_; intro o' e1
    exact there b o' (neC b o e hx) e1
  · refine el_1_1 (I.base.tbls b ps e) ?_; intro m1 e1
    refine el_1_1 (tbls b _ e1) ?_; intro m2 e2
    exact ⟨m1 ++ m2, by rw [e2, Array.append_assoc]⟩
  · refine el_1_2 (I.loc) ?_; intro m hn hl
    refine in_ec m (ns m hn) (fun i x v e1 e2 e3 => ?_)
    refine el_1_2 (hl i x v e1 e2 e3) ?_; intro u r l
    refine in_ec u r ?_
    rcases l with l | ⟨k, c, e, z⟩
    · exact .inl l
    · exact .inr ⟨k, c, e, cellK x c e _ z⟩
  · refine el_1_1 (I.cell x c e) ?_; intro v z
    exact ⟨v, cellK x c e v z⟩
  · refine el_1_2 (I.loc) ?_; intro m zq3 _
    refine el_3_2 zq3 ?_; clear zq3; intro o _ _ ho _
    exact free _ o (fun z => (hch _ z).2.1 rfl) ho I.free
  · refine el_2_2 (I.cell x c e) ?_; intro v o ho hd
    exact free c o (fun z => (hch c z).2.2.1 x c e rfl) ho (I.freeC x c e)
  · refine el_0_5 (I.pin p hp) ?_; intro e n ne nf d
    have nch : p.1 ∉ ch := fun z => (hch p.1 z).2.2.2 p hp rfl
    exact ⟨keep p.1 p.2 ne nf nch e n, free p.1 p.2 nch e n, ne, nf, d⟩
theorem Inv.un {t' : Nat} (I : Inv X pins σ H s) (u : Un X.fs [] H H' s.heap h') (hok : HOk X.prog X.w H' h') : Inv X pins σ H' { s with heap := h', toks := t' } := by
  refine el_1_2 (id I.loc) ?_; intro m zq4 _
  refine el_3_2 zq4 ?_; clear zq4; intro o es ep ho r
  refine el_1_1 (u.any ho I.free (by simp)) ?_; intro sl hL
  exact I.step (g' := s.gens) (d' := s.drawn) (ch := []) (fun _ z => nomatch z) (fun b o _ hb _ e n => u.keep b o e n hb (by simp)) (fun b o _ hb _ e n => u.slot b o e n hb (by simp)) (fun b o _ e n => u.free b o e n (by simp)) (fun b o _ e => u.there b o e (by simp)) u.tups u.frzs u.tbls (fun m' hm => by
    refine el_3_2 hm ?_; clear hm; intro o' es' ep' ho' r'
    rw [ho] at ho'; cases ho'
    exact ⟨_, es', ep', hL, r'⟩) hok I.bare
theorem Inv.call {g' : Array GenState} {t' : Nat} {d' : Drawn} {ch : List Addr} (I : Inv X pins σ H s) (u : Un (frs X.stack) ch H H' s.heap h') (hok : HOk X.prog X.w H' h') (hg : AllBare g')
    (hch : ∀ b ∈ ch, (b ∈ X.ex ∨ X.s₀.heap.objs.size ≤ b) ∧ b ≠ X.env.locals ∧ (∀ x c, X.env.cells.lookup x = some c → c ≠ b) ∧ ∀ p ∈ X.pn ++ pins, p.1 ≠ b) :
    Inv X pins σ H' { s with heap := h', gens := g', drawn := d', toks := t' } := by
  refine el_1_2 (id I.loc) ?_; intro m zq5 _
  refine el_3_2 zq5 ?_; clear zq5; intro o es ep ho r
  refine el_1_1 (u.any ho I.free fun z => (hch _ z).2.1 rfl) ?_; intro sl hL
  exact I.step (ch := ch) hch (fun b o hL hb hc e n => u.keep b o e n (fun z => (List.mem_cons.mp (I.stkSub b z)).elim hL hb) hc) (fun b o _ _ hc e n => u.any e n hc) (fun b o hc e n => u.free b o e n hc) (fun b o hc e => u.there b o e hc) u.tups u.frzs u.tbls (fun m' hm => by
    refine el_3_2 hm ?_; clear hm; intro o' es' ep' ho' r'
    rw [ho] at ho'; cases ho'
    exact ⟨_, es', ep', hL, r'⟩) hok hg
theorem Inv.turned {t' : Nat} {it : Addr} (I : Inv X pins σ H s) (k : ∀ b o, b ≠ it → s.heap.get? b = some o → h'.get? b = some o) (hn : H it = none) (hL : it ≠ X.env.locals)
    (h1 : it ∈ X.ex ∨ X.s₀.heap.objs.size ≤ it) (h2 : ∀ x c, X.env.cells.lookup x = some c → c ≠ it) (h3 : ∀ p ∈ X.pn ++ pins, p.1 ≠ it) : Inv X pins σ H { s with heap := h', toks := t' } := by
  have nit : ∀ b u, H b = some u → b ≠ it := fun b u e z => by rw [z, hn] at e; cases e
  refine I.step (g' := s.gens) (d' := s.drawn) (ch := [it]) (fun b hb => ?_) (fun b o _ _ hc e _ => k b o (fun z => hc (by simp [z])) e) (fun b o _ _ hc e _ => ⟨o.slots, k b o (fun z => hc (by simp [z])) e⟩) (fun _ _ _ _ n => n)
    (fun b o hc e => ⟨o, k b o (fun z => hc (by simp [z])) e⟩) (fun _ _ e => e) (fun _ _ _ e => e) (fun b ps e => ⟨#[], by rw [e]; simp⟩) (fun m hm => ?_) (fun b u e => ?_) I.bare
  · have e : b = it := by simpa using hb
    subst e
    exact ⟨h1, hL, h2, h3⟩
  · refine el_3_2 hm ?_; clear hm; intro o es ep ho r
    exact in_eeec o es ep (k _ o (Ne.symm hL) ho) r
  · refine (I.hok b u e).stay (fun c v hc q => k c v ?_ q) (fun _ q => q) fun _ _ q => q
    rcases hc with z | z
    · rw [z]; exact nit b u e
    · exact nit c _ z
theorem Inv.tok (I : Inv X pins σ H s) (t : Nat) : Inv X pins σ H { s with toks := t } := I.un (h' := s.heap) (t' := t) Un.refl I.hok
theorem Inv.kept {t' : Nat} (I : Inv X pins σ H s) (k : ∀ b u, s.heap.get? b = some u → h'.get? b = some u) : Inv X pins σ H { s with heap := h', toks := t' } := I.un (Un.kept k) (I.hok.kept k)
theorem Inv.laid {a : Addr} {o : HO} {t' : Nat} (I : Inv X pins σ H s) (k : ∀ b u, s.heap.get? b = some u → h'.get? b = some u) (hp : s.heap.objs.size ≤ a) (new : ObjOk X.prog X.w (upd H a o) h' a o) :
    Inv X pins σ (upd H a o) { s with heap := h', toks := t' } := I.un (Un.laid k hp (I.hok.fresh hp)) (I.hok.laid k hp new)
theorem Inv.write {x e : Addr} {o : HO} {t' : Nat} (I : Inv X pins σ H s) (mu : Mut (H x)) (he : e = x ∨ H e = some (.own x)) (k : ∀ b u, b ≠ e → s.heap.get? b = some u → h'.get? b = some u) (heo : ∃ u, h'.get? e = some u)
    (new : ObjOk X.prog X.w (upd H x o) h' x o) : Inv X pins σ (upd H x o) { s with heap := h', toks := t' } := I.un (Un.write mu he k heo) (I.hok.write mu he k heo new)
theorem Inv.pins_of {pins' : List (Addr × Obj)} (I : Inv X pins σ H s) (h : ∀ p ∈ pins', s.heap.get? p.1 = some p.2 ∧ H p.1 = none ∧ p.1 ≠ X.env.locals ∧ p.1 ∉ X.fs ∧ ∀ v, p.2.data ≠ .cell v) : Inv X pins' σ H s :=
  ⟨I.ok, I.os, I.bare, I.base, I.loc, I.cell, I.free, I.freeC, fun p hp => (List.mem_append.mp hp).elim (fun z => I.pin p (List.mem_append_left _ z)) (h p), I.hok, I.len⟩
theorem nodup_ix {N : List Str} (hN : N.Nodup) {i j : Nat} {x : Str} (a : N[i]? = some x) (b : N[j]? = some x) : i = j := by
  refine el_1_1 (List.getElem?_eq_some_iff.mp a) ?_; intro h1 e1
  refine el_1_1 (List.getElem?_eq_some_iff.mp b) ?_; intro h2 e2
  exact (List.getElem_inj hN).mp (e1.trans e2.symm)
theorem store_ok2 {M : Model} {A : Around} {E : Value → Shared → Prop} {i : Nat} {x : Str} {v : V} {u : Value} {Q : Unit → Shared → Prop} (I : Inv X pins σ H s) (hN : X.N.Nodup) (hi : X.N[i]? = some x) (hx : Loc X.env.scope x) (r : RelV v u)
    (h : ∀ s', Inv X pins (σ.set i (some v)) H s' → (∃ a, Heap.SameBut a s.heap s'.heap ∧ (a = X.env.locals ∨ X.env.cells.lookup x = some a)) → Q () s') (hf : X.fn x = true ∨ X.env.scope.names.lookup x = some .local := by first | exact .inl rfl | exact .inr rfl | assumption) : wpAny M A (storeName X.env x u) Q E s := by
  refine el_1_2 (id I.loc) ?_; intro m hn hl
  have hcls : (X.env.scope.kind == .class || (X.env.scope.kind == .module && X.env.locals != X.env.globals)) = false := by rw [I.ok.kind]; rfl
  have hiσ : i < σ.length := by rw [I.len]; exact (List.getElem?_eq_some_iff.mp hi).1
  have cne := I.cne
  have tracked : ∀ {a : Addr} {h' : Heap}, (∃ o, s.heap.get? a = some o ∧ H a = none) → Heap.SameBut a s.heap h' → HOk X.prog X.w H h' := fun {a h'} ha hs b ob e => by
    refine el_1_2 ha ?_; clear ha; intro _ _ hfree
    refine (I.hok b ob e).stay (fun c w' hc q => (hs.2 c ?_).trans q) (fun _ q => q) fun _ _ q => q
    rintro rfl
    rcases hc with rfl | hc
    · rw [hfree] at e; cases e
    · rw [hfree] at hc; cases hc
  rcases hx with hk | hk
  · refine wpAny_storeName_local hk hn (fun h' hn' hs => ?_) hcls
    refine el_3_2 (id hn) ?_; intro oL _ _ hoL _
    refine h _ ⟨I.ok, I.os, I.bare, ⟨fun b o e n hb hx => ?_, fun b o e n hb hx => ?_, I.base.free, fun b o e hx => ?_, I.base.tups, I.base.frzs, I.base.tbls⟩, ⟨_, hn', fun j y v' e1 e2 e3 => ?_⟩, fun y c e => ?_, I.free, I.freeC, fun p hp => ?_, tracked ⟨oL, hoL, I.free⟩ hs, by simpa using I.len⟩ ⟨_, hs, .inl rfl⟩
    · exact (hs.2 b (Nat.ne_of_lt (Nat.lt_of_lt_of_le (Heap.lt_size e) I.ok.above))).trans (I.base.keep b o e n hb hx)
    · refine el_1_1 (I.base.slot b o e n hb hx) ?_; intro sl e1
      exact ⟨sl, (hs.2 b (Nat.ne_of_lt (Nat.lt_of_lt_of_le (Heap.lt_size e) I.ok.above))).trans e1⟩
    · refine el_1_1 (I.base.there b o e hx) ?_; intro o' e1
      exact ⟨o', (hs.2 b (Nat.ne_of_lt (Nat.lt_of_lt_of_le (Heap.lt_size e) I.ok.above))).trans e1⟩
    · by_cases hj : j = i
      · subst hj
        rw [hi] at e1; cases e1
        rw [List.getElem?_set_self hiσ] at e2
        cases e2
        exact in_ec u r (.inl ⟨hk, by simp⟩)
      · rw [List.getElem?_set_ne (Ne.symm hj)] at e2
        refine el_1_2 (hl j y v' e1 e2 e3) ?_; intro u' r' q
        refine in_ec u' r' ?_
        rcases q with ⟨k, e⟩ | ⟨k, c, e, z⟩
        · refine .inl ⟨k, ?_⟩
          have : y ≠ x := fun e => hj (nodup_ix hN e1 (e ▸ hi))
          simp [this, e]
        · exact .inr ⟨k, c, e, z.sameBut hs (cne y c e)⟩
    · refine el_1_1 (I.cell y c e) ?_; intro w' z
      exact ⟨w', z.sameBut hs (cne y c e)⟩
    · refine el_0_5 (I.pin p hp) ?_; intro e n ne nf d
      exact ⟨(hs.2 p.1 ne).trans e, n, ne, nf, d⟩
  · have hfn : X.fn x = true := by
      rcases hf with z | z
      · exact z
      · rw [z] at hk; cases hk
    refine el_1_1 (I.ok.has x (.inl hk)) ?_; intro c hc
    refine el_1_1 (I.cell x c hc) ?_; intro w' z
    refine wpAny_storeName_cell I.ok.kind hk hc z (fun h' hc' hs => ?_)
    refine el_1_2 (id z) ?_; intro oc hoc hocd
    refine h { s with heap := h' } ⟨I.ok, I.os, I.bare, ⟨fun b o e n hb hx => ?_, fun b o e n hb hx => ?_, I.base.free, fun b o e hx => ?_, I.base.tups, I.base.frzs, I.base.tbls⟩, ⟨m, hn.sameBut hs (Ne.symm (cne x c hc)), fun j y v' e1 e2 e3 => ?_⟩, fun y c' e => ?_, I.free, I.freeC, fun p hp => ?_, tracked ⟨oc, hoc, I.freeC x c hc⟩ hs, by simpa using I.len⟩ ⟨c, hs, .inr hc⟩
    · exact (hs.2 b (Nat.ne_of_lt (Nat.lt_of_lt_of_le (Heap.lt_size e) (I.ok.cab x c hfn hc)))).trans (I.base.keep b o e n hb hx)
    · refine el_1_1 (I.base.slot b o e n hb hx) ?_; intro sl e1
      exact ⟨sl, (hs.2 b (Nat.ne_of_lt (Nat.lt_of_lt_of_le (Heap.lt_size e) (I.ok.cab x c hfn hc)))).trans e1⟩
    · refine el_1_1 (I.base.there b o e hx) ?_; intro o' e1
      exact ⟨o', (hs.2 b (Nat.ne_of_lt (Nat.lt_of_lt_of_le (Heap.lt_size e) (I.ok.cab x c hfn hc)))).trans e1⟩
    · by_cases hj : j = i
      · subst hj
        rw [hi] at e1; cases e1
        rw [List.getElem?_set_self hiσ] at e2
        cases e2
        exact in_ec u r (.inr ⟨.inl hk, c, hc, hc'⟩)
      · rw [List.getElem?_set_ne (Ne.symm hj)] at e2
        refine el_1_2 (hl j y v' e1 e2 e3) ?_; intro u' r' q
        refine in_ec u' r' ?_
        rcases q with q | ⟨k, c', e, z'⟩
        · exact .inl q
        · refine .inr ⟨k, c', e, z'.sameBut hs ?_⟩
          rintro rfl
          exact hj (nodup_ix hN e1 (I.ok.inj _ _ _ e hc ▸ hi))
    · by_cases hcc : c' = c
      · subst hcc; exact ⟨_, hc'⟩
      · refine el_1_1 (I.cell y c' e) ?_; intro w2 z2
        exact ⟨w2, z2.sameBut hs hcc⟩
    · refine el_0_5 (I.pin p hp) ?_; intro e n ne nf d
      refine ⟨(hs.2 p.1 ?_).trans e, n, ne, nf, d⟩
      intro q
      rw [q, hoc] at e
      have q' : oc = p.2 := Option.some.inj e
      exact d w' (by rw [← q']; exact hocd)
theorem store_ok {M : Model} {A : Around} {E : Value → Shared → Prop} {i : Nat} {x : Str} {v : V} {u : Value} {Q : Unit → Shared → Prop} (I : Inv X pins σ H s) (hN : X.N.Nodup) (hi : X.N[i]? = some x) (hx : Loc X.env.scope x) (r : RelV v u)
    (h : ∀ s', Inv X pins (σ.set i (some v)) H s' → Q () s') (hf : X.fn x = true ∨ X.env.scope.names.lookup x = some .local := by first | exact .inl rfl | exact .inr rfl | assumption) : wpAny M A (storeName X.env x u) Q E s :=
  store_ok2 I hN hi hx r (fun s' I' _ => h s' I') hf
theorem Inv.call' {s' : Shared} {ch : List Addr} (I : Inv X pins σ H s) (ho : s'.os = s.os) (u : Un (frs X.stack) ch H H' s.heap s'.heap) (hok : HOk X.prog X.w H' s'.heap) (hg : AllBare s'.gens)
    (hch : ∀ b ∈ ch, (b ∈ X.ex ∨ X.s₀.heap.objs.size ≤ b) ∧ b ≠ X.env.locals ∧ (∀ x c, X.env.cells.lookup x = some c → c ≠ b) ∧ ∀ p ∈ X.pn ++ pins, p.1 ≠ b) : Inv X pins σ H' s' := by
  obtain ⟨h', g', d', t', o'⟩ := s'
  have e : o' = s.os := ho
  subst e
  exact I.call (g' := g') (t' := t') (d' := d') u hok hg hch
end
noncomputable abbrev XK := Value → Option Addr → Hp → Prop
noncomputable abbrev St := List (Option V)
noncomputable abbrev VK := V → Hp → Prop
noncomputable abbrev TE := St → Hp → VK → Prop
noncomputable abbrev TT := St → Hp → (Bool → Hp → Prop) → Prop
noncomputable abbrev TA := St → Hp → (List V → Hp → Prop) → Prop
structure Ends where
  nx : St → Hp → Prop
  rt : VK
  bk : St → Hp → Prop := fun _ _ => False
  ct : St → Hp → Prop := fun _ _ => False
noncomputable abbrev TS := Ends → St → Hp → Prop
noncomputable def EP (X : Cx) (pins : List (Addr × Obj)) (σ : St) (Q : VK) (u : Value) (s' : Shared) : Prop := ∃ v H', Inv X pins σ H' s' ∧ RelV v u ∧ Q v H'
noncomputable def TP (X : Cx) (pins : List (Addr × Obj)) (σ : St) (Q : Bool → Hp → Prop) (b : Bool) (s' : Shared) : Prop := ∃ H', Inv X pins σ H' s' ∧ Q b H'
noncomputable def AP (X : Cx) (pins : List (Addr × Obj)) (σ : St) (Q : List V → Hp → Prop) (us : List Value) (s' : Shared) : Prop := ∃ vs H', Inv X pins σ H' s' ∧ Vals vs us ∧ Q vs H'
noncomputable def SP (X : Cx) (pins : List (Addr × Obj)) (D : Ends) (f : Flow) (s' : Shared) : Prop :=
  match f with
  | .next => ∃ σ' H', Inv X pins σ' H' s' ∧ D.nx σ' H'
  | .brk => ∃ σ' H', Inv X pins σ' H' s' ∧ D.bk σ' H'
  | .cont => ∃ σ' H', Inv X pins σ' H' s' ∧ D.ct σ' H'
  | .ret u => ∃ v σ' H', Inv X pins σ' H' s' ∧ RelV v u ∧ D.rt v H'
noncomputable def PE (X : Cx) (e : Expr) (t : TE) : Prop :=
  ∀ (pins : List (Addr × Obj)) (s : Shared) (σ : St) (H : Hp) (Q : VK), Inv X pins σ H s → t σ H Q → wpAny (model X.prog X.w) X.A (eval e X.env) (EP X pins σ Q) X.xe s
noncomputable def PT (X : Cx) (e : Expr) (t : TT) : Prop :=
  ∀ (pins : List (Addr × Obj)) (s : Shared) (σ : St) (H : Hp) (Q : Bool → Hp → Prop), Inv X pins σ H s → t σ H Q → wpAny (model X.prog X.w) X.A (isTrue e X.env (eval e X.env)) (TP X pins σ Q) X.xe s
noncomputable def PW (X : Cx) (e : Expr) (t : TT) : Prop :=
  ∀ (whole : Sem Value) (pins : List (Addr × Obj)) (s : Shared) (σ : St) (H : Hp) (Q : Bool → Hp → Prop), Inv X pins σ H s → t σ H Q → wpAny (model X.prog X.w) X.A (isTrue e X.env whole) (TP X pins σ Q) X.xe s
theorem PW.pt {X : Cx} {e : Expr} {t : TT} (h : PW X e t) : PT X e t := h _
noncomputable def PA (X : Cx) (es : List Expr) (t : TA) : Prop :=
  ∀ (pos : Pos) (pins : List (Addr × Obj)) (s : Shared) (σ : St) (H : Hp) (Q : List V → Hp → Prop), Inv X pins σ H s → t σ H Q → wpAny (model X.prog X.w) X.A (spliced (backTo pos (starEach es X.env))) (AP X pins σ Q) X.xe s
noncomputable def PS (X : Cx) (st : Stmt) (t : TS) : Prop :=
  ∀ (pins : List (Addr × Obj)) (s : Shared) (σ : St) (H : Hp) (D : Ends), Inv X pins σ H s → t D σ H → wpAny (model X.prog X.w) X.A (exec st X.env) (SP X pins D) X.xe s
noncomputable def PSs (X : Cx) (st : List Stmt) (t : TS) : Prop :=
  ∀ (pins : List (Addr × Obj)) (s : Shared) (σ : St) (H : Hp) (D : Ends), Inv X pins σ H s → t D σ H → wpAny (model X.prog X.w) X.A (execs st X.env) (SP X pins D) X.xe s
theorem thn {α : Type} {t : Sem α} {Q Q' : α → Shared → Prop} {M : Model} {A : Around} {E : Value → Shared → Prop} {s : Shared} (h : wpAny M A t Q E s) (hQ : ∀ a s, Q a s → Q' a s) : wpAny M A t Q' E s := wpAny_mono h hQ fun _ _ x => x
end L2
namespace L2
open PySem PySem.Spec PyProof.Rows
section
variable {X : Cx}
noncomputable def tVar (i : Nat) : TE := fun σ H Q => ∃ v, σ[i]? = some (some v) ∧ Q v H
noncomputable def tC (v : V) : TE := fun _ H Q => Q v H
theorem pe_var {i : Nat} {x : Str} {pos : Pos} (hN : X.N[i]? = some x) (hv : Vis X.env.scope x) (hd : (x == ("__debug__" : Str)) = false := by decide) (hcd : (x == ("__classdict__" : Str)) = false := by decide) : PE X (.Name x pos) (tVar i) := by
  intro pins s σ H Q I h
  refine el_1_2 h ?_; clear h; intro v e h
  refine el_1_2 (I.loc) ?_; intro m hn hl
  refine el_1_2 (hl i x v hN e hv) ?_; intro u r l
  have fin : EP X pins σ Q u s := ⟨v, H, I, r, h⟩
  rcases l with ⟨hk, hm⟩ | ⟨hk, c, hc, hcell⟩
  · exact wpAny_Name (wpAny_loadName_local I.ok.kind hk hn hm fin) hd
  · rcases hk with hk | hk
    · exact wpAny_Name (wpAny_loadName_cell I.ok.kind hk hc hcell fin) hd
    · exact wpAny_Name (wpAny_loadName_free I.ok.kind hk hc hcell fin hcd) hd
theorem pe_int {i j pos} : PE X (.Constant (.int i) j pos) (tC (.int i)) := fun _ _ _ H _ I h => wpAny_Constant_int ⟨.int i, H, I.tok _, ⟨_, rfl⟩, h⟩
theorem pe_bl {b j pos} : PE X (.Constant (.bool b) j pos) (tC (.bl b)) := fun _ _ _ H _ I h => Constant_bool ⟨.bl b, H, I, rfl, h⟩
theorem pe_str {x j pos} : PE X (.Constant (.str x) j pos) (tC (.str x)) := fun _ _ _ H _ I h => Calls.Constant_str ⟨.str x, H, I.tok _, ⟨_, rfl⟩, h⟩
noncomputable def Gl (X : Cx) (x : Str) : Prop := X.env.kindOf x = some .globalImplicit
theorem ld_glob {E : Value → Shared → Prop} {pins : List (Addr × Obj)} {s : Shared} {σ : St} {H : Hp} {x : Str} {u : Value} {pos : Pos} {Q : Value → Shared → Prop} (I : Inv X pins σ H s) (hg : Gl X x) (hm : X.mg x = some u) (h : Q u s)
    (hd : (x == ("__debug__" : Str)) = false := by decide) : wpAny (model X.prog X.w) X.A (eval (.Name x pos) X.env) Q E s :=
  Calls.Name_function_global I.ok.kind hg (Calls.loadGlobal_global (by rw [I.ok.glob]; exact I.mod.glob.keeps I.bk) hm h) hd
theorem ld_blt {E : Value → Shared → Prop} {pins : List (Addr × Obj)} {s : Shared} {σ : St} {H : Hp} {x : Str} {u : Value} {pos : Pos} {Q : Value → Shared → Prop} (I : Inv X pins σ H s) (hg : Gl X x) (hm : X.mg x = none) (hv : bootBuiltins x = some u) (h : Q u s)
    (hn : x ≠ "__name__" := by decide) (hd : (x == ("__debug__" : Str)) = false := by decide) : wpAny (model X.prog X.w) X.A (eval (.Name x pos) X.env) Q E s := by
  refine el_1_2 (I.mod.blt) ?_; intro mb h1 h2
  exact Calls.Name_function_global I.ok.kind hg (Calls.loadGlobal_builtin (by rw [I.ok.glob]; exact I.mod.glob.keeps I.bk) hm (by rw [I.ok.blt]; exact h1.keeps I.bk) ((h2 x hn).trans hv) h) hd
theorem pe_glob {x : Str} {v : V} {u : Value} {pos : Pos} (hg : Gl X x) (hm : X.mg x = some u) (r : RelV v u) (hd : (x == ("__debug__" : Str)) = false := by decide) : PE X (.Name x pos) (tC v) :=
  fun _ _ _ H _ I h => ld_glob I hg hm ⟨v, H, I, r, h⟩ hd
theorem pe_bltn {x : Str} {v : V} {u : Value} {pos : Pos} (hg : Gl X x) (hm : X.mg x = none) (hv : bootBuiltins x = some u) (r : RelV v u) (hn : x ≠ "__name__" := by decide) (hd : (x == ("__debug__" : Str)) = false := by decide) : PE X (.Name x pos) (tC v) :=
  fun _ _ _ H _ I h => ld_blt I hg hm hv ⟨v, H, I, r, h⟩ hn hd
variable {a b : Expr} {ta tb : TE} {pos : Pos}
noncomputable def tB (t : TE) : TT := fun σ H Q => t σ H fun x H1 => ∃ c, x = .bl c ∧ Q c H1
variable {tA tB' : TT} {rest : List Expr}
noncomputable def tAnd (t u : TT) : TT := fun σ H Q => t σ H fun c H1 => if c = true then u σ H1 Q else Q false H1
noncomputable def tOr (t u : TT) : TT := fun σ H Q => t σ H fun c H1 => if c = true then Q true H1 else u σ H1 Q
noncomputable def tNot (t : TT) : TT := fun σ H Q => t σ H fun c H1 => Q (!c) H1
theorem pw_and1 (ha : PT X a tA) : PW X (.BoolOp .And [a] pos) tA := by
  intro wh pins s σ H Q I h
  refine isTrue_and (thn (ha pins s σ H Q I h) fun c s1 e => ?_)
  cases c with
  | true => exact isTrue_and_nil e
  | false => exact e
theorem pw_or1 (ha : PT X a tA) : PW X (.BoolOp .Or [a] pos) tA := by
  intro wh pins s σ H Q I h
  refine isTrue_or (thn (ha pins s σ H Q I h) fun c s1 e => ?_)
  cases c with
  | false => exact isTrue_or_nil e
  | true => exact e
theorem pw_and (ha : PT X a tA) (hb : PW X (.BoolOp .And (b :: rest) pos) tB') : PW X (.BoolOp .And (a :: b :: rest) pos) (tAnd tA tB') := by
  intro wh pins s σ H Q I h
  refine isTrue_and (thn (ha pins s σ H _ I h) fun c s1 zz0 => ?_)
  refine el_1_2 zz0 ?_; clear zz0; intro H1 I1 q1
  cases c with
  | true => exact hb wh pins s1 σ H1 Q I1 q1
  | false => exact ⟨H1, I1, q1⟩
theorem pw_or (ha : PT X a tA) (hb : PW X (.BoolOp .Or (b :: rest) pos) tB') : PW X (.BoolOp .Or (a :: b :: rest) pos) (tOr tA tB') := by
  intro wh pins s σ H Q I h
  refine isTrue_or (thn (ha pins s σ H _ I h) fun c s1 zz0 => ?_)
  refine el_1_2 zz0 ?_; clear zz0; intro H1 I1 q1
  cases c with
  | true => exact ⟨H1, I1, q1⟩
  | false => exact hb wh pins s1 σ H1 Q I1 q1
theorem pt_not (ha : PT X a tA) : PT X (.UnaryOp .Not a pos) (tNot tA) := by
  intro pins s σ H Q I h
  exact isTrue_not (ha pins s σ H (fun c H1 => Q (!c) H1) I h)
noncomputable def tAndV (ta tb : TE) : TE := fun σ H Q => ta σ H fun x H1 => ∃ c, x = .bl c ∧ if c = true then tb σ H1 Q else Q (.bl false) H1
noncomputable def tOrV (ta tb : TE) : TE := fun σ H Q => ta σ H fun x H1 => ∃ c, x = .bl c ∧ if c = true then Q (.bl true) H1 else tb σ H1 Q
noncomputable def tNotV (ta : TE) : TE := fun σ H Q => ta σ H fun x H1 => ∃ c, x = .bl c ∧ Q (.bl (!c)) H1
theorem pe_one {op} {t : TE} (h : PE X a t) : PE X (.BoolOp op [a] pos) t := fun pins s σ H Q I hw => BoolOp_one (h pins s σ H Q I hw)
theorem pe_and (ha : PE X a ta) (hb : PE X (.BoolOp .And (b :: rest) pos) tb) : PE X (.BoolOp .And (a :: b :: rest) pos) (tAndV ta tb) := by
  intro pins s σ H Q I h
  refine BoolOp_and (thn (ha pins s σ H _ I h) fun v s1 zz0 => ?_)
  refine el_2_3 zz0 ?_; clear zz0; intro x H1 I1 r1 q1
  refine el_1_2 q1 ?_; clear q1; intro c zq6 q1
  obtain rfl := zq6
  cases r1
  refine wpAny_truthy_bool ?_
  cases c with
  | true => exact hb pins s1 σ H1 Q I1 q1
  | false => exact ⟨.bl false, H1, I1, rfl, q1⟩
theorem pe_or (ha : PE X a ta) (hb : PE X (.BoolOp .Or (b :: rest) pos) tb) : PE X (.BoolOp .Or (a :: b :: rest) pos) (tOrV ta tb) := by
  intro pins s σ H Q I h
  refine BoolOp_or (thn (ha pins s σ H _ I h) fun v s1 zz0 => ?_)
  refine el_2_3 zz0 ?_; clear zz0; intro x H1 I1 r1 q1
  refine el_1_2 q1 ?_; clear q1; intro c zq7 q1
  obtain rfl := zq7
  cases r1
  refine wpAny_truthy_bool ?_
  cases c with
  | false => exact hb pins s1 σ H1 Q I1 q1
  | true => exact ⟨.bl true, H1, I1, rfl, q1⟩
theorem pe_not (ha : PE X a ta) : PE X (.UnaryOp .Not a pos) (tNotV ta) := by
  intro pins s σ H Q I h
  refine UnaryOp_ (thn (ha pins s σ H _ I h) fun v s1 zz0 => ?_)
  refine el_2_3 zz0 ?_; clear zz0; intro x H1 I1 r1 q1
  refine el_1_2 q1 ?_; clear q1; intro c zq8 q1
  obtain rfl := zq8
  cases r1
  exact not_of (wpAny_truthy_bool ⟨.bl (!c), H1, I1, rfl, q1⟩)
end
end L2
namespace L2
open PySem PySem.Spec PyProof.Rows
noncomputable def SqL (K : PySem.W.Frag) (H : Hp) (a : Addr) (xs : List V) : Prop :=
  Rd H a (.lst xs) ∨
    ∃ (o : Obj) (its : Array Value) (n : Nat), K.lookup a = some o ∧ o.cls = .type "list" ∧ o.dict = none ∧ o.data = .seq its n ∧ its.size ≤ sizeLine ∧ Vals xs its.toList
noncomputable def SqT (K : PySem.W.Frag) (H : Hp) (a : Addr) (xs : List V) : Prop :=
  Rd H a (.tup xs) ∨
    ∃ (o : Obj) (its : Array Value) (n : Nat), K.lookup a = some o ∧ o.cls = .type "tuple" ∧ o.data = .seq its n ∧ its.size ≤ sizeLine ∧ Vals xs its.toList
noncomputable def absV : Value → Option V
  | .none => some .non
  | .bool b => some (.bl b)
  | .int i _ => some (.int i)
  | .str x _ => some (.str x)
  | .bytes b _ => some (.byt b)
  | .float b _ => some (.flt b)
  | .ref a => some (.ref a)
  | .type n => some (.ty n)
  | _ => none
theorem RelV.abs {x : V} {u : Value} (r : RelV x u) : absV u = some x := by
  cases x with
  | non => cases r; rfl
  | bl _ => cases r; rfl
  | int _ => obtain ⟨t, rfl⟩ := r; rfl
  | str _ => obtain ⟨t, rfl⟩ := r; rfl
  | byt _ => obtain ⟨t, rfl⟩ := r; rfl
  | flt _ => obtain ⟨t, rfl⟩ := r; rfl
  | ref _ => cases r; rfl
  | ty _ => cases r; rfl
theorem RelV.inj {x y : V} {u : Value} (r : RelV x u) (q : RelV y u) : x = y := Option.some.inj (r.abs.symm.trans q.abs)
theorem Vals.inj : ∀ {xs ys : List V} {us : List Value}, Vals xs us → Vals ys us → xs = ys
  | _, _, _, .nil, .nil => rfl
  | _, _, _, .cons r t, .cons r' t' => by rw [r.inj r', Vals.inj t t']
section
variable {X : Cx} {pins : List (Addr × Obj)} {σ : St} {H : Hp} {s : Shared} {a : Addr} {xs ys : List V}
theorem SqL.of {K : PySem.W.Frag} (h : H a = some (.lst xs)) : SqL K H a xs := .inl (.inl h)
theorem SqT.of {K : PySem.W.Frag} (h : H a = some (.tup xs)) : SqT K H a xs := .inl (.inl h)
theorem Inv.list (I : Inv X pins σ H s) (h : SqL X.K H a xs) : ∃ its : List Value, Vals xs its ∧ PlainL s.heap a its.toArray ∧ xs.length ≤ sizeLine := by
  rcases h with h | ⟨o, its, n, hk, hc, hd, hs, hz, r⟩
  · obtain ⟨z, its, n, r, e⟩ := h.ok I.hok
    exact in_ecc its r (⟨_, n, e, rfl, rfl, rfl⟩) z
  · refine in_ecc its.toList r (⟨o, n, I.kIn a o hk, hc, hd, by simpa using hs⟩) ?_
    have e := r.length
    simp only [Array.length_toList] at e
    (first | lia | omega)
theorem Inv.tuple (I : Inv X pins σ H s) (h : SqT X.K H a xs) : ∃ its : List Value, Vals xs its ∧ IsTup s.heap a its.toArray ∧ xs.length ≤ sizeLine := by
  rcases h with h | ⟨o, its, n, hk, hc, hs, hz, r⟩
  · obtain ⟨z, its, r, p⟩ := h.ok I.hok
    exact in_ecc its r p z
  · refine in_ecc its.toList r (⟨o, I.kIn a o hk, hc, n, by simpa using hs⟩) ?_
    have e := r.length
    simp only [Array.length_toList] at e
    (first | lia | omega)
theorem Inv.list_inj (I : Inv X pins σ H s) (h : SqL X.K H a xs) (h' : SqL X.K H a ys) : xs = ys := by
  refine el_1_3 (I.list h) ?_; intro its r zq9 _
  refine el_2_4 zq9 ?_; clear zq9; intro o n e _ _ d
  refine el_1_3 (I.list h') ?_; intro its' r' zq10 _
  refine el_2_4 zq10 ?_; clear zq10; intro o' n' e' _ _ d'
  rw [e] at e'; cases e'
  rw [d] at d'
  injection d' with d1 _
  have : its = its' := by simpa using congrArg Array.toList d1
  subst this
  exact r.inj r'
theorem Inv.tuple_inj (I : Inv X pins σ H s) (h : SqT X.K H a xs) (h' : SqT X.K H a ys) : xs = ys := by
  refine el_1_3 (I.tuple h) ?_; intro its r zq11 _
  obtain ⟨o, e, _, n, d⟩ := zq11
  refine el_1_3 (I.tuple h') ?_; intro its' r' zq12 _
  obtain ⟨o', e', _, n', d'⟩ := zq12
  rw [e] at e'; cases e'
  rw [d] at d'
  injection d' with d1 _
  have : its = its' := by simpa using congrArg Array.toList d1
  subst this
  exact r.inj r'
end
noncomputable abbrev Cx.wish (X : Cx) (E : Value → Shared → Prop) : Cx := { X with xe := E }
noncomputable abbrev Cx.nox (X : Cx) : Cx := X.wish fun _ _ => False
theorem Cx.Ok.wish {X : Cx} (ok : X.Ok) (E : Value → Shared → Prop) : (X.wish E).Ok :=
  ⟨ok.mod, ok.kind, ok.glob, ok.blt, ok.above, ok.inj, ok.has, ok.cab, ok.hd, ok.frames, ok.stk, ok.exf, ok.bs, ok.bsz, ok.noex, ok.exfs, ok.funs, ok.frf⟩
theorem Cx.Ok.unwish {X : Cx} {E : Value → Shared → Prop} (ok : (X.wish E).Ok) : X.Ok :=
  ⟨ok.mod, ok.kind, ok.glob, ok.blt, ok.above, ok.inj, ok.has, ok.cab, ok.hd, ok.frames, ok.stk, ok.exf, ok.bs, ok.bsz, ok.noex, ok.exfs, ok.funs, ok.frf⟩
section
variable {X : Cx} {pins : List (Addr × Obj)} {σ : St} {H : Hp} {s : Shared} {E : Value → Shared → Prop}
theorem Inv.wish (I : Inv X pins σ H s) (E : Value → Shared → Prop) : Inv (X.wish E) pins σ H s := ⟨I.ok.wish E, I.os, I.bare, I.base, I.loc, I.cell, I.free, I.freeC, I.pin, I.hok, I.len⟩
theorem Inv.unwish (I : Inv (X.wish E) pins σ H s) : Inv X pins σ H s := ⟨I.ok.unwish, I.os, I.bare, I.base, I.loc, I.cell, I.free, I.freeC, I.pin, I.hok, I.len⟩
theorem SP.unwish {D : Ends} {f : Flow} {s' : Shared} (h : SP (X.wish E) pins D f s') : SP X pins D f s' := by
  cases f with
  | next => obtain ⟨σ', H', I, q⟩ := h; exact ⟨σ', H', I.unwish, q⟩
  | brk => obtain ⟨σ', H', I, q⟩ := h; exact ⟨σ', H', I.unwish, q⟩
  | cont => obtain ⟨σ', H', I, q⟩ := h; exact ⟨σ', H', I.unwish, q⟩
  | ret u => obtain ⟨v, σ', H', I, r, q⟩ := h; exact ⟨v, σ', H', I.unwish, r, q⟩
theorem PSs.nox {st : List Stmt} {t : TS} (h : PSs X.nox st t) : PSs X st t := fun pins s σ H D I hw =>
  wpAny_mono (h pins s σ H D (I.wish _) hw) (fun _ _ q => q.unwish) fun _ _ z => False.elim z
end
section
variable {X : Cx} {st : Stmt} {rest : List Stmt} {t u : TS} {e : Expr} {te : TE} {pos : Pos}
noncomputable def tNext : TS := fun D σ H => D.nx σ H
noncomputable def tSeq (t u : TS) : TS := fun D σ H => t { D with nx := u D } σ H
theorem pss_nil : PSs X [] tNext := fun _ _ σ H _ I h => wpAny_execs_nil ⟨σ, H, I, h⟩
theorem pss_cons (h1 : PS X st t) (h2 : PSs X rest u) : PSs X (st :: rest) (tSeq t u) := by
  intro pins s σ H D I h
  refine wpAny_execs_cons (thn (h1 pins s σ H { D with nx := u D } I h) fun f s1 q => ?_)
  cases f with
  | next =>
    refine el_2_2 q ?_; clear q; intro σ' H' I' q
    exact h2 pins s1 σ' H' D I' q
  | ret v => exact q
  | brk => exact q
  | cont => exact q
theorem pss_one (h1 : PS X st t) : PSs X [st] t := by
  intro pins s σ H D I h
  refine wpAny_execs_cons (thn (h1 pins s σ H D I h) fun f s1 q => ?_)
  cases f with
  | next => exact wpAny_execs_nil q
  | ret v => exact q
  | brk => exact q
  | cont => exact q
theorem Inv.quiet {pins : List (Addr × Obj)} {σ : St} {H : Hp} {s : Shared} (I : Inv X pins σ H s) : interactive X.env = false := by simp [interactive, I.ok.kind]
noncomputable def tDrop (te : TE) : TS := fun D σ H => te σ H fun _ H1 => D.nx σ H1
theorem ps_expr (he : PE X e te) (hs : swapsWith e none pos.line X.env = pure false := by rfl) : PS X (.Expr e pos) (tDrop te) := by
  intro pins s σ H D I h
  refine wpAny_Expr_any (thn (he pins s σ H _ I h) fun v s1 zz0 => ?_) I.quiet hs
  refine el_2_3 zz0 ?_; clear zz0; intro x H1 I1 r1 q1
  exact in_eec σ H1 I1 q1
noncomputable def tRet (te : TE) : TS := fun D σ H => te σ H D.rt
theorem ps_ret (he : PE X e te) : PS X (.Return (some e) pos) (tRet te) := by
  intro pins s σ H D I h
  refine wpAny_Return_some (thn (he pins s σ H _ I h) fun v s1 zz0 => ?_)
  refine el_2_3 zz0 ?_; clear zz0; intro x H1 I1 r1 q1
  exact in_eeecc x σ H1 I1 r1 q1
noncomputable def tIfS (c : TT) (t u : TS) : TS := fun D σ H => c σ H fun b H1 => if b = true then t D σ H1 else u D σ H1
theorem ps_if {c : Expr} {a b : List Stmt} {tc : TT} (hc : PT X c tc) (ha : PSs X a t) (hb : PSs X b u) : PS X (.If c a b pos) (tIfS tc t u) := by
  intro pins s σ H D I h
  refine wpAny_If (thn (hc pins s σ H _ I h) fun d s1 zz0 => ?_)
  refine el_1_2 zz0 ?_; clear zz0; intro H1 I1 q1
  cases d with
  | true => exact ha pins s1 σ H1 D I1 q1
  | false => exact hb pins s1 σ H1 D I1 q1
end
noncomputable abbrev TG := V → St → Hp → (St → Hp → Prop) → Prop
noncomputable abbrev TGs := List V → St → Hp → (St → Hp → Prop) → Prop
noncomputable def PG (X : Cx) (target : Expr) (t : TG) : Prop :=
  ∀ (pins : List (Addr × Obj)) (s : Shared) (σ : St) (H : Hp) (v : V) (u : Value) (Q : St → Hp → Prop), Inv X pins σ H s → RelV v u → t v σ H Q →
    wpAny (model X.prog X.w) X.A (assign target X.env u) (fun _ s' => ∃ σ' H', Inv X pins σ' H' s' ∧ Q σ' H') X.xe s
noncomputable def PGs (X : Cx) (ts : List Expr) (t : TGs) : Prop :=
  ∀ (pins : List (Addr × Obj)) (s : Shared) (σ : St) (H : Hp) (vs : List V) (us : List Value) (Q : St → Hp → Prop), Inv X pins σ H s → Vals vs us → t vs σ H Q →
    wpAny (model X.prog X.w) X.A (assignInOrder ((assignEach ts X.env).map (·.2)) us) (fun _ s' => ∃ σ' H', Inv X pins σ' H' s' ∧ Q σ' H') X.xe s
noncomputable abbrev TSet := V → V → V → Hp → (Hp → Prop) → Prop
noncomputable def PSet (X : Cx) (t : TSet) : Prop :=
  ∀ (pins : List (Addr × Obj)) (s : Shared) (σ : St) (H : Hp) (o i v : V) (ov iv u : Value) (Q : Hp → Prop), Inv X pins σ H s → RelV o ov → RelV i iv → RelV v u → t o i v H Q →
    wpAny (model X.prog X.w) X.A (setItem ov iv u) (fun _ s' => ∃ H', Inv X pins σ H' s' ∧ Q H') X.xe s
section
variable {X : Cx} {pos : Pos}
noncomputable def gName (i : Nat) : TG := fun v σ H Q => Q (σ.set i (some v)) H
theorem pg_name {i : Nat} {x : Str} (hN : X.N.Nodup) (hi : X.N[i]? = some x) (hx : Loc X.env.scope x) (hf : X.fn x = true ∨ X.env.scope.names.lookup x = some .local := by first | exact .inl rfl | exact .inr rfl | assumption) : PG X (.Name x pos) (gName i) := by
  intro pins s σ H v u Q I r h
  exact wpAny_assign_Name (store_ok I hN hi hx r (fun s' I' => ⟨_, H, I', h⟩) hf)
noncomputable def gNil : TGs := fun vs σ H Q => vs = [] ∧ Q σ H
noncomputable def gCons (t : TG) (u : TGs) : TGs := fun vs σ H Q => ∃ v r, vs = v :: r ∧ t v σ H fun σ' H' => u r σ' H' Q
theorem pgs_nil : PGs X [] gNil := by
  intro pins s σ H vs us Q I r h
  refine el_0_2 h ?_; clear h; intro e h
  subst e
  cases r
  exact assignInOrder_nil ⟨σ, H, I, h⟩
theorem pgs_cons {e : Expr} {es : List Expr} {t : TG} {u : TGs} (h1 : PG X e t) (h2 : PGs X es u)
    (hs : (assignEach (e :: es) X.env).map (·.2) = assign e X.env :: (assignEach es X.env).map (·.2) := by rfl) : PGs X (e :: es) (gCons t u) := by
  intro pins s σ H vs us Q I r h
  refine el_2_2 h ?_; clear h; intro v vr e1 h
  subst e1
  cases r with
  | cons r rr =>
    rw [hs]
    refine assignInOrder_cons (thn (h1 pins s σ H _ _ _ I r h) fun _ s1 zz0 => ?_)
    obtain ⟨σ1, H1, I1, q1⟩ := zz0
    exact h2 pins s1 σ1 H1 _ _ Q I1 rr q1
noncomputable def gTup (K : PySem.W.Frag) (n : Nat) (t : TGs) : TG := fun v σ H Q => ∃ a xs, v = .ref a ∧ SqT K H a xs ∧ xs.length = n ∧ t xs σ H Q
theorem pg_tup {es : List Expr} {k : Nat} {t : TGs} {n : Nat} (hc : X.calm = true) (h : PGs X es t)
    (hn : (assignEach es X.env).length = n := by rfl) (hst : (assignEach es X.env).findIdx? (·.1) = none := by rfl) : PG X (.Tuple es k pos) (gTup X.K n t) := by
  intro pins s σ H v u Q I r hw
  refine el_2_4 hw ?_; clear hw; intro a xs e1 hq hl hw
  subst e1
  cases r
  refine el_1_3 (I.tuple hq) ?_; intro its rv ht hz
  refine assign_Tuple_tuple (I.ok.hd hc) ht (by simp [hn, ← hl, rv.length]) hst fun h' hx => ?_
  have I1 : Inv X pins σ H { s with heap := h' } := I.kept (t' := s.toks) fun b o e => hx b o (Nat.ne_of_lt (Heap.lt_size e)) e
  exact h pins _ σ H xs _ Q I1 (by simpa using rv) hw
noncomputable def gSub (to ti : TE) (t : TSet) : TG := fun v σ H Q => to σ H fun o H1 => ti σ H1 fun i H2 => t o i v H2 fun H3 => Q σ H3
theorem pg_sub {o i : Expr} {to ti : TE} {t : TSet} (ho : PE X o to) (hi : PE X i ti) (hs : PSet X t)
    (ha : ∀ v, assign (.Subscript o i pos) X.env v = (do
      let ov ← holding [v] (eval o X.env)
      let iv ← holding [v, ov] (eval i X.env)
      standAt pos
      holding [v, ov, iv] (setItem ov iv v)
      release [v, ov, iv] []) := by intro _; rfl) : PG X (.Subscript o i pos) (gSub to ti t) := by
  intro pins s σ H v u Q I r h
  rw [ha]
  refine wpAny_bind (wpAny_holding (thn (ho pins s σ H _ I h) fun ov s1 zz0 => ?_))
  refine el_2_3 zz0 ?_; clear zz0; intro x H1 I1 r1 q1
  refine wpAny_bind (wpAny_holding (thn (hi pins s1 σ H1 _ I1 q1) fun iv s2 zz0 => ?_))
  refine el_2_3 zz0 ?_; clear zz0; intro y H2 I2 r2 q2
  refine wpAny_bind (wpAny_standAt (wpAny_bind (wpAny_holding (thn (hs pins s2 σ H2 x y v ov iv u _ I2 r1 r2 r q2) fun _ s3 zz0 => ?_))))
  refine el_1_2 zz0 ?_; clear zz0; intro H3 I3 q3
  exact wpAny_release ⟨σ, H3, I3, q3⟩
noncomputable def tAsg (te : TE) (g : TG) : TS := fun D σ H => te σ H fun x H1 => g x σ H1 D.nx
theorem ps_asg {tg e : Expr} {te : TE} {g : TG} (he : PE X e te) (hg : PG X tg g) (hs : swapsWithSole [tg] e pos.line X.env = pure false := by rfl) (hw : swappedStores [tg] e X.env = pure none := by rfl)
    (h1 : (assignEach [tg] X.env).map (·.2) = [assign tg X.env] := by rfl) : PS X (.Assign [tg] e pos) (tAsg te g) := by
  intro pins s σ H D I h
  refine wpAny_Assign_stores (thn (he pins s σ H _ I h) fun v s1 zz0 => ?_) hs hw
  refine el_2_3 zz0 ?_; clear zz0; intro x H1 I1 r1 q1
  rw [h1]
  exact thn (hg pins s1 σ H1 x v _ I1 r1 q1) fun _ s2 q => q
theorem ps_set {i : Nat} {x : Str} {e : Expr} {te : TE} {pos' : Pos} (hN : X.N.Nodup) (hi : X.N[i]? = some x) (hx : Loc X.env.scope x) (he : PE X e te) (hs : swapsWith e (some (.Name x pos')) pos.line X.env = pure false := by rfl) (hf : X.fn x = true ∨ X.env.scope.names.lookup x = some .local := by first | exact .inl rfl | exact .inr rfl | assumption) :
    PS X (.Assign [.Name x pos'] e pos) (tAsg te (gName i)) := by
  intro pins s σ H D I h
  refine wpAny_Assign_Name (thn (he pins s σ H _ I h) fun v s1 zz0 => ?_) hs
  refine el_2_3 zz0 ?_; clear zz0; intro y H1 I1 r1 q1
  exact store_ok I1 hN hi hx r1 (fun s2 I2 => ⟨_, H1, I2, q1⟩) hf
end
section
variable {X : Cx} {pos : Pos}
noncomputable def tWhile (c : TT) (tb : TS) : TS := fun D σ H => ∃ W : Nat → St → Hp → Prop, (∃ m, W m σ H) ∧ ∀ m σ H, W m σ H →
  c σ H fun b H1 => if b = true then ∃ N : St → Hp → Prop, (∀ σ' H', N σ' H' → ∃ m', m' < m ∧ W m' σ' H') ∧ tb { D with nx := N, ct := N, bk := D.nx } σ H1 else D.nx σ H1
theorem ps_while {c : Expr} {body : List Stmt} {tc : TT} {tb : TS} (hp : PassesOwn (model X.prog X.w) X.A X.env X.xe) (hc : PT X c tc) (hb : PSs X body tb) : PS X (.While c body [] pos) (tWhile tc tb) := by
  intro pins s σ H D I h
  refine el_1_2 h ?_; clear h; intro W zq13 turn
  refine el_1_1 zq13 ?_; clear zq13; intro m0 w0
  refine wpAny_While (codeAny_whileLoop (fun n s' => ∃ σ' H', Inv X pins σ' H' s' ∧ W n σ' H') ?_ m0 ⟨σ, H, I, w0⟩)
  intro n s1 zr14
  refine el_2_2 zr14 ?_; clear zr14; intro σ1 H1 I1 w1
  refine wpAny_passesOwn hp (thn (hc pins s1 σ1 H1 _ I1 (turn n σ1 H1 w1)) fun b s2 zz0 => ?_)
  refine el_1_2 zz0 ?_; clear zz0; intro H2 I2 q2
  cases b with
  | true =>
    refine el_1_2 q2 ?_; clear q2; intro N hN q2
    rw [if_pos rfl]
    refine wpAny_passesOwn hp (thn (hb pins s2 σ1 H2 _ I2 q2) fun f s3 q3 => ?_)
    cases f with
    | next =>
      obtain ⟨σ3, H3, I3, n3⟩ := q3
      obtain ⟨m', hm, w3⟩ := hN σ3 H3 n3
      exact in_eceec m' hm σ3 H3 I3 w3
    | cont =>
      obtain ⟨σ3, H3, I3, n3⟩ := q3
      obtain ⟨m', hm, w3⟩ := hN σ3 H3 n3
      exact in_eceec m' hm σ3 H3 I3 w3
    | brk => exact q3
    | ret v => exact q3
  | false =>
    rw [if_neg Bool.false_ne_true]
    exact wpAny_execs_nil ⟨σ1, H2, I2, q2⟩
end
structure It where
  go : Nat → Hp → Prop
  yld : Nat → Hp → V → Hp → Prop
  stop : Nat → Hp → Prop
noncomputable def FpOk (X : Cx) (pins : List (Addr × Obj)) (H : Hp) (b : Addr) : Prop :=
  H b = none ∧ b ≠ X.env.locals ∧ b ∉ X.fs ∧ (b ∈ X.ex ∨ X.s₀.heap.objs.size ≤ b) ∧ (∀ x c, X.env.cells.lookup x = some c → c ≠ b) ∧ ∀ p ∈ X.pn ++ pins, p.1 ≠ b
theorem Inv.fpOk {X : Cx} {pins : List (Addr × Obj)} {σ : St} {H H' : Hp} {s : Shared} {b : Addr} (I : Inv X pins σ H s) (hb : s.heap.objs.size ≤ b) (hn : H' b = none) : FpOk X pins H' b := by
  refine ⟨hn, Nat.ne_of_gt (Nat.lt_of_lt_of_le I.lt hb), I.nofs hb, .inr (Nat.le_trans I.sz hb), fun x c e z => ?_, fun p hp z => ?_⟩
  · refine el_1_1 (I.cell x c e) ?_; intro v q
    exact absurd (Nat.lt_of_lt_of_le q.lt (by rw [z]; exact hb)) (Nat.lt_irrefl _)
  · exact absurd (Nat.lt_of_lt_of_le (Heap.lt_size (I.pin p hp).1) (by rw [z]; exact hb)) (Nat.lt_irrefl _)
structure Turn (P : Program) (w : World) (K : PySem.W.Frag) (tg : Expr) (J : It) (fp : List Addr) (it : Addr) (tn : Nat → Heap → Prop) : Prop where
  mem : it ∈ fp
  obj : ∀ i h, tn i h → ∀ b ∈ fp, ∃ o, h.get? b = some o ∧ ∀ v, o.data ≠ .cell v
  keep : ∀ i h h', tn i h → (∀ b ∈ fp, ∀ o, h.get? b = some o → h'.get? b = some o) → tn i h'
  item : ∀ (X : Cx), X.prog = P → X.w = w → X.K = K → X.calm = true → ∀ (i : Nat) (pins : List (Addr × Obj)) (s : Shared) (σ : St) (H : Hp) (E : Value → Shared → Prop), Inv X pins σ H s → (∀ b ∈ fp, FpOk X pins H b) → tn i s.heap → J.go i H →
    wpAny (model P w) X.A (pyNext (.ref it)) (fun r s1 => ∃ u, r = some u ∧
      wpAny (model P w) X.A (letOwnedTupleGo tg (.ref it) u) (fun _ s2 => ∃ x H', Inv X pins σ H' s2 ∧ RelV x u ∧ J.yld i H x H' ∧ tn (i + 1) s2.heap ∧ ∀ b ∈ fp, H' b = none) E s1) E s
  done : ∀ (X : Cx), X.prog = P → X.w = w → X.K = K → X.calm = true → ∀ (i : Nat) (pins : List (Addr × Obj)) (s : Shared) (σ : St) (H : Hp) (E : Value → Shared → Prop), Inv X pins σ H s → (∀ b ∈ fp, FpOk X pins H b) → tn i s.heap → J.stop i H →
    wpAny (model P w) X.A (pyNext (.ref it)) (fun r s1 => r = none ∧ Inv X pins σ H s1) E s
  self : ∀ (A : Around) (i : Nat) (s : Shared) (Q : Value → Shared → Prop) (E : Value → Shared → Prop), tn i s.heap → Q (.ref it) s → wpAny (model P w) A (pyIter (.ref it)) Q E s
noncomputable abbrev TI := St → Hp → (It → Hp → Prop) → Prop
noncomputable def PIE (X : Cx) (pins : List (Addr × Obj)) (σ : St) (tg : Expr) (R : It → Hp → Prop) (itv : Value) (s2 : Shared) : Prop :=
  ∃ (it : Addr) (fp : List Addr) (tn : Nat → Heap → Prop) (J : It) (H' : Hp), itv = .ref it ∧ Inv X pins σ H' s2 ∧ Turn X.prog X.w X.K tg J fp it tn ∧ tn 0 s2.heap ∧ (∀ b ∈ fp, FpOk X pins H' b) ∧ R J H'
noncomputable def PI (X : Cx) (tg iter : Expr) (wi : TI) : Prop :=
  ∀ (pins : List (Addr × Obj)) (s : Shared) (σ : St) (H : Hp) (R : It → Hp → Prop), Inv X pins σ H s → wi σ H R →
    wpAny (model X.prog X.w) X.A (eval iter X.env) (fun v s1 => wpAny (model X.prog X.w) X.A (pyIter v) (PIE X pins σ tg R) X.xe s1) X.xe s
theorem go_of {M : Model} {A : Around} {E : Value → Shared → Prop} {s : Shared} {tg : Expr} {it : Addr} {u : Value} {o : Obj} {n : String} {vs : Array Value} {Q : Unit → Shared → Prop} (ho : s.heap.get? it = some o) (hc : o.cls = .type n) (hd : o.data = .fields vs)
    (hn : ["enumerate", "zip", "dict_itemiterator", "dict_reverseitemiterator", "odict_iterator", "itertools.zip_longest", "itertools.pairwise"].contains n = false) (hQ : Q () s) : wpAny M A (letOwnedTupleGo tg (.ref it) u) Q E s := by
  unfold letOwnedTupleGo
  cases tg <;> first
    | exact wpAny_pure hQ
    | (cases u <;> first
        | exact wpAny_pure hQ
        | (refine wpAny_bind (wpAny_load ho ?_)
           rw [hc, hd]
           show wpAny M A (if (["enumerate", "zip", "dict_itemiterator", "dict_reverseitemiterator", "odict_iterator", "itertools.zip_longest", "itertools.pairwise"].contains n && vs[0]? == some (rawInt _)) = true then _ else _) Q E s
           rw [if_neg (by intro h; rw [hn, Bool.false_and] at h; cases h)]
           exact wpAny_pure hQ))
noncomputable def Itl (K : PySem.W.Frag) (a : Addr) : It :=
  ⟨fun i H => ∃ xs x, SqL K H a xs ∧ xs[i]? = some x, fun i H x H' => H' = H ∧ ∀ xs, SqL K H a xs → xs[i]? = some x, fun i H => ∃ xs, SqL K H a xs ∧ xs.length ≤ i⟩
noncomputable def Itt (K : PySem.W.Frag) (a : Addr) : It :=
  ⟨fun i H => ∃ xs x, SqT K H a xs ∧ xs[i]? = some x, fun i H x H' => H' = H ∧ ∀ xs, SqT K H a xs → xs[i]? = some x, fun i H => ∃ xs, SqT K H a xs ∧ xs.length ≤ i⟩
noncomputable def Itr (lo : Int) (n : Nat) : It := ⟨fun i _ => i < n, fun i H x H' => H' = H ∧ x = .int (lo + i), fun i _ => n ≤ i⟩
theorem turn_list {P : Program} {w : World} {K : PySem.W.Frag} {tg : Expr} (a it : Addr) : Turn P w K tg (Itl K a) [it] it (fun i h => h.IsListIter it a i) where
  mem := by simp
  obj := fun i h st b hb => by
    have e : b = it := by simpa using hb
    subst e
    refine el_1_3 st ?_; clear st; intro o e c d
    exact in_ec o e (fun v z => by rw [d] at z; cases z)
  keep := fun i h h' st k => st.at fun o e => k it (by simp) o e
  item := by
    intro X hP hw hK hc i pins s σ H E I hf st hg
    subst hP hw hK
    refine el_2_2 hg ?_; clear hg; intro xs x hq hx
    refine el_1_3 (I.list hq) ?_; intro its rv p hz
    refine el_1_2 (rv.get hx) ?_; intro u hu ru
    refine el_0_6 (hf it (by simp)) ?_; intro f0 f1 f2 f3 f4 f5
    refine wpAny_pyNext_list_item st p.isList (x := u) (by simpa using hu) fun h' st' sb => ?_
    have I1 : Inv X pins σ H { s with heap := h' } := I.turned (t' := s.toks) (fun b o hb e => (sb.2 b hb).trans e) f0 f1 f3 f4 f5
    refine el_1_3 (id st') ?_; intro o e c d
    exact in_ec u rfl (go_of (s := { s with heap := h' }) e c d (by decide) ⟨x, H, I1, ru, ⟨rfl, fun ys hy => by rw [I.list_inj hy hq]; exact hx⟩, st', fun b hb => (hf b hb).1⟩)
  done := by
    intro X hP hw hK hc i pins s σ H E I hf st hg
    subst hP hw hK
    refine el_1_2 hg ?_; clear hg; intro xs hq hx
    refine el_1_3 (I.list hq) ?_; intro its rv p hz
    refine el_0_6 (hf it (by simp)) ?_; intro f0 f1 f2 f3 f4 f5
    have hl := rv.length
    exact wpAny_pyNext_list_end (I.ok.hd hc) st p.isList (by simp; (first | lia | omega)) fun h' eb => ⟨rfl, I.turned (t' := s.toks) (fun b o hb e => eb b o hb e) f0 f1 f3 f4 f5⟩
  self := fun _ _ _ _ _ st h => wpAny_pyIter_listiter st h
theorem turn_tuple {P : Program} {w : World} {K : PySem.W.Frag} {tg : Expr} (a it : Addr) : Turn P w K tg (Itt K a) [it] it (fun i h => h.IsTupleIter it a i) where
  mem := by simp
  obj := fun i h st b hb => by
    have e : b = it := by simpa using hb
    subst e
    refine el_1_3 st ?_; clear st; intro o e c d
    exact in_ec o e (fun v z => by rw [d] at z; cases z)
  keep := fun i h h' st k => st.at fun o e => k it (by simp) o e
  item := by
    intro X hP hw hK hc i pins s σ H E I hf st hg
    subst hP hw hK
    refine el_2_2 hg ?_; clear hg; intro xs x hq hx
    refine el_1_3 (I.tuple hq) ?_; intro its rv p hz
    refine el_1_2 (rv.get hx) ?_; intro u hu ru
    refine el_0_6 (hf it (by simp)) ?_; intro f0 f1 f2 f3 f4 f5
    refine wpAny_pyNext_tuple_item st (show s.heap.IsTuple a its.toArray from p) (x := u) (by simpa using hu) fun h' st' sb => ?_
    have I1 : Inv X pins σ H { s with heap := h' } := I.turned (t' := s.toks) (fun b o hb e => (sb.2 b hb).trans e) f0 f1 f3 f4 f5
    refine el_1_3 (id st') ?_; intro o e c d
    exact in_ec u rfl (go_of (s := { s with heap := h' }) e c d (by decide) ⟨x, H, I1, ru, ⟨rfl, fun ys hy => by rw [I.tuple_inj hy hq]; exact hx⟩, st', fun b hb => (hf b hb).1⟩)
  done := by
    intro X hP hw hK hc i pins s σ H E I hf st hg
    subst hP hw hK
    refine el_1_2 hg ?_; clear hg; intro xs hq hx
    refine el_1_3 (I.tuple hq) ?_; intro its rv p hz
    refine el_0_6 (hf it (by simp)) ?_; intro f0 f1 f2 f3 f4 f5
    have hl := rv.length
    exact wpAny_pyNext_tuple_end (I.ok.hd hc) st (show s.heap.IsTuple a its.toArray from p) (by simp; (first | lia | omega)) fun h' eb => ⟨rfl, I.turned (t' := s.toks) (fun b o hb e => eb b o hb e) f0 f1 f3 f4 f5⟩
  self := fun _ _ _ _ _ st h => wpAny_pyIter_tupleiter st h
theorem turn_range {P : Program} {w : World} {K : PySem.W.Frag} {tg : Expr} (it : Addr) (lo : Int) (n : Nat) : Turn P w K tg (Itr lo n) [it] it (fun i h => IsRangeIter h it (lo + (i : Nat) * 1) ((n : Int) - (i : Nat)) 1) where
  mem := by simp
  obj := fun i h st b hb => by
    have e : b = it := by simpa using hb
    subst e
    exact ⟨_, st, fun v z => by
      have z' : Data.fields _ = Data.cell v := z
      cases z'⟩
  keep := fun i h h' st k => k it (by simp) _ st
  item := by
    intro X hP hw hK hc i pins s σ H E I hf st hg
    subst hP hw hK
    refine el_0_6 (hf it (by simp)) ?_; intro f0 f1 f2 f3 f4 f5
    have W := Walks.range (prog := X.prog) (w := X.w) (I.ok.hd hc) it lo 1 n
    refine W.item i s _ _ hg st fun v h' tk hv st' kk => ?_
    refine el_1_1 hv ?_; clear hv; intro t zq15
    obtain rfl := zq15
    have I1 : Inv X pins σ H { s with heap := h', toks := tk } := I.turned (fun b o hb e => kk b o (by simpa using hb) e) f0 f1 f3 f4 f5
    refine in_ec _ rfl (go_of (s := { s with heap := h', toks := tk }) (n := "range_iterator") st' rfl rfl (by decide) ⟨.int (lo + i), H, I1, ⟨t, ?_⟩, ⟨rfl, rfl⟩, st', fun b hb => (hf b hb).1⟩)
    rw [Int.mul_one]
  done := by
    intro X hP hw hK hc i pins s σ H E I hf st hg
    subst hP hw hK
    refine el_0_6 (hf it (by simp)) ?_; intro f0 f1 f2 f3 f4 f5
    exact wpAny_pyNext_range_end (I.ok.hd hc) st (by have : n ≤ i := hg; (first | lia | omega)) fun h' eb => ⟨rfl, I.turned (t' := s.toks) (fun b o hb e => eb b o hb e) f0 f1 f3 f4 f5⟩
  self := fun _ _ _ _ _ st h => wpAny_pyIter_rangeiter st h
end L2
namespace L2
open PySem PySem.Spec PyProof.Rows
section
variable {X : Cx} {tg : Expr}
theorem range_it {pins : List (Addr × Obj)} {σ : St} {H : Hp} {s : Shared} {R : It → Hp → Prop} {E : Value → Shared → Prop} {lo hi : Int} {t u v : Tok} {tk : Nat} (I : Inv X pins σ H s) (h1 : -(2 ^ 62) ≤ lo) (h2 : lo < 2 ^ 62) (h3 : -(2 ^ 62) ≤ hi) (h4 : hi < 2 ^ 62)
    (q : R (Itr lo (hi - lo).toNat) H) : wpAny (model X.prog X.w) X.A (pyIter (.ref s.heap.objs.size)) (PIE X pins σ tg R) E { s with heap := s.heap.push { cls := .type "range", data := .fields #[.int lo t, .int hi u, .int 1 v] }, toks := tk } := by
  refine wpAny_pyIter_range (IsRange.new ..) (small_one h1 h2 h3 h4) ?_
  have I1 : Inv X pins σ H { s with heap := s.heap.push { cls := .type "range", data := .fields #[.int lo t, .int hi u, .int 1 v] }, toks := tk } := I.kept fun b o e => Heap.get?_push_of_some _ e
  refine ⟨(s.heap.push { cls := .type "range", data := .fields #[.int lo t, .int hi u, .int 1 v] }).objs.size, [(s.heap.push { cls := .type "range", data := .fields #[.int lo t, .int hi u, .int 1 v] }).objs.size], _, _, H, rfl,
    I1.kept (t' := tk) fun b o e => Heap.get?_push_of_some _ e, turn_range _ lo (hi - lo).toNat, ?_, fun b hb => ?_, q⟩
  · have e1 : lo + ((0 : Nat) : Int) * 1 = lo := by simp
    have e2 : (((hi - lo).toNat : Nat) : Int) - ((0 : Nat) : Int) = Builtin.Range.rangeSize lo hi 1 := by rw [rangeSize_one]; split <;> (first | lia | omega)
    show IsRangeIter _ _ (lo + ((0 : Nat) : Int) * 1) ((((hi - lo).toNat : Nat) : Int) - ((0 : Nat) : Int)) 1
    rw [e1, e2]
    exact Heap.get?_push_size _ rfl
  · have e : b = (s.heap.push { cls := .type "range", data := .fields #[.int lo t, .int hi u, .int 1 v] }).objs.size := by simpa using hb
    subst e
    exact I1.fpOk (Nat.le_refl _) (I1.hok.fresh (Nat.le_refl _))
noncomputable def iRng1 (ta : TA) : TI := fun σ H R => ta σ H fun vs H1 => ∃ j : Int, vs = [.int j] ∧ -(2 ^ 62) ≤ j ∧ j < 2 ^ 62 ∧ R (Itr 0 j.toNat) H1
theorem pi_range1 {a : Expr} {ta : TA} {p pos : Pos} (hg : Gl X "range") (hm : X.mg "range" = none) (ha : PA X [a] ta) (hs : starEach [a] X.env = [(false, eval a X.env)] := by rfl) : PI X tg (.Call (.Name "range" p) [a] [] pos) (iRng1 ta) := by
  intro pins s σ H R I h
  refine Call_ (ld_blt I hg hm boot_range (PyProof.Rows.callWith_type1 (thn (ha pos pins s σ H _ I h) fun us s1 zz0 => ?_) hs rfl))
  refine el_2_3 zz0 ?_; clear zz0; intro vs H1 I1 r1 q1
  refine el_1_4 q1 ?_; clear q1; intro j e q1 q2 q
  subst e
  cases r1 with
  | cons r rr =>
    cases rr
    refine el_1_1 r ?_; clear r; intro t zq16
    obtain rfl := zq16
    exact call_range_1 (range_it I1 (by (first | lia | omega)) (by (first | lia | omega)) q1 q2 (by simpa using q))
noncomputable def tFor (wi : TI) (g : TG) (tb : TS) : TS := fun D σ H => wi σ H fun J H1 => ∃ W : Nat → Nat → St → Hp → Prop, (∃ m, W 0 m σ H1) ∧ ∀ i m σ H, W i m σ H →
  (J.stop i H ∧ D.nx σ H) ∨ (J.go i H ∧ ∃ N : St → Hp → Prop, (∀ σ' H', N σ' H' → ∃ m', m' < m ∧ W (i + 1) m' σ' H') ∧ ∀ x H', J.yld i H x H' → g x σ H' fun σ2 H2 => tb { D with nx := N, ct := N, bk := D.nx } σ2 H2)
noncomputable def pinsAt (fp : List Addr) (h : Heap) : List (Addr × Obj) := fp.filterMap fun b => (h.get? b).map fun o => (b, o)
theorem mem_pinsAt {fp : List Addr} {h : Heap} {b : Addr} {o : Obj} (hb : b ∈ fp) (e : h.get? b = some o) : (b, o) ∈ pinsAt fp h := List.mem_filterMap.mpr ⟨b, hb, by rw [e]; rfl⟩
theorem of_pinsAt {fp : List Addr} {h : Heap} {p : Addr × Obj} (hp : p ∈ pinsAt fp h) : p.1 ∈ fp ∧ h.get? p.1 = some p.2 := by
  refine el_1_2 (List.mem_filterMap.mp hp) ?_; intro b hb e
  cases q : h.get? b with
  | none => rw [q] at e; cases e
  | some o =>
    rw [q] at e
    have e' : (b, o) = p := Option.some.inj e
    subst e'
    exact ⟨hb, q⟩
theorem Inv.pinned {pins : List (Addr × Obj)} {σ : St} {H : Hp} {s : Shared} {fp : List Addr} (I : Inv X pins σ H s) (hf : ∀ b ∈ fp, FpOk X pins H b) (ho : ∀ b ∈ fp, ∃ o, s.heap.get? b = some o ∧ ∀ v, o.data ≠ .cell v) : Inv X (pins ++ pinsAt fp s.heap) σ H s :=
  I.pins_of fun p hp => (List.mem_append.mp hp).elim (fun z => I.pin p (List.mem_append_right _ z)) fun z => by
    refine el_0_2 (of_pinsAt z) ?_; intro hb e
    refine el_0_4 (hf p.1 hb) ?_; intro f0 f1 f2 _
    refine el_1_2 (ho p.1 hb) ?_; intro o e' d
    rw [e] at e'; cases e'
    exact ⟨e, f0, f1, f2, d⟩
theorem Inv.unpinned {pins pl : List (Addr × Obj)} {σ : St} {H : Hp} {s : Shared} (I : Inv X (pins ++ pl) σ H s) : Inv X pins σ H s := I.pins_of fun p hp => I.pin p (List.mem_append_right _ (List.mem_append_left _ hp))
theorem ps_for {iter : Expr} {body : List Stmt} {wi : TI} {g : TG} {tb : TS} {pos : Pos} (hp : PassesOwn (model X.prog X.w) X.A X.env X.xe) (hc : X.calm = true) (hi : PI X tg iter wi) (hg : PG X tg g) (hb : PSs X body tb)
    (hs : ∀ x, foldedSetIterable iter X.env x = pure x := by intro _; rfl) : PS X (.For tg iter body [] pos) (tFor wi g tb) := by
  intro pins s σ H D I h
  refine wpAny_For (thn (hi pins s σ H _ I h) fun v s1 h1 => thn h1 fun itv s2 h2 => ?_) hs
  obtain ⟨it, fp, tn, J, H2, e, I2, T, st2, f2, W, ⟨m0, w0⟩, turn⟩ := h2
  subst e
  have stat : ∀ {H' : Hp}, (∀ b ∈ fp, H' b = none) → ∀ b ∈ fp, FpOk X pins H' b := fun hn b hb => ⟨hn b hb, (f2 b hb).2⟩
  refine codeAny_forLoop_any (fun n s' => ∃ i σ' H', Inv X pins σ' H' s' ∧ tn i s'.heap ∧ (∀ b ∈ fp, H' b = none) ∧ W i n σ' H') ?_ m0 ⟨0, σ, H2, I2, st2, fun b hb => (f2 b hb).1, w0⟩
  intro n s3 zr17
  refine el_3_4 zr17 ?_; clear zr17; intro i σ3 H3 I3 st3 fr3 w3
  rcases turn i n σ3 H3 w3 with ⟨stop, qn⟩ | ⟨go, N, hN, step⟩
  · refine wpAny_passesOwn hp (thn (T.done X rfl rfl rfl hc i pins s3 σ3 H3 X.xe I3 (stat fr3) st3 stop) fun r s4 zz0 => ?_)
    refine el_0_2 zz0 ?_; clear zz0; intro hr I4
    subst hr
    exact wpAny_execs_nil ⟨σ3, H3, I4, qn⟩
  · refine wpAny_passesOwn hp (thn (T.item X rfl rfl rfl hc i pins s3 σ3 H3 X.xe I3 (stat fr3) st3 go) fun r s4 zz0 => ?_)
    refine el_1_2 zz0 ?_; clear zz0; intro u hr h4
    subst hr
    refine wpAny_passesOwn hp (thn h4 fun _ s5 zz0 => ?_)
    refine el_2_5 zz0 ?_; clear zz0; intro x H5 I5 r5 y5 st5 fr5
    have I5' := I5.pinned (stat fr5) (T.obj _ _ st5)
    refine wpAny_passesOwn hp (thn (hg _ s5 σ3 H5 x u _ I5' r5 (step x H5 y5)) fun _ s6 zz0 => ?_)
    refine el_2_2 zz0 ?_; clear zz0; intro σ6 H6 I6 q6
    refine wpAny_passesOwn hp (thn (hb _ s6 σ6 H6 _ I6 q6) fun f s7 q7 => ?_)
    have again : ∀ {σ7 : St} {H7 : Hp}, Inv X (pins ++ pinsAt fp s5.heap) σ7 H7 s7 → N σ7 H7 → ∃ m, m < n ∧ ∃ i σ' H', Inv X pins σ' H' s7 ∧ tn i s7.heap ∧ (∀ b ∈ fp, H' b = none) ∧ W i m σ' H' := fun {σ7 H7} I7 n7 => by
      refine el_1_2 (hN σ7 H7 n7) ?_; intro m' hm w7
      refine in_eceeeccc m' hm (i + 1) σ7 H7 I7.unpinned (T.keep _ _ _ st5 fun b hb o e => (I7.pin (b, o) (List.mem_append_right _ (List.mem_append_right _ (mem_pinsAt hb e)))).1) (fun b hb => ?_) w7
      refine el_1_2 (T.obj _ _ st5 b hb) ?_; intro o e d
      exact (I7.pin (b, o) (List.mem_append_right _ (List.mem_append_right _ (mem_pinsAt hb e)))).2.1
    cases f with
    | next => obtain ⟨σ7, H7, I7, n7⟩ := q7; exact again I7 n7
    | cont => obtain ⟨σ7, H7, I7, n7⟩ := q7; exact again I7 n7
    | brk => obtain ⟨σ7, H7, I7, q7⟩ := q7; exact ⟨σ7, H7, I7.unpinned, q7⟩
    | ret v => obtain ⟨x7, σ7, H7, I7, r7, q7⟩ := q7; exact ⟨x7, σ7, H7, I7.unpinned, r7, q7⟩
end
theorem for_range {lo : Int} {n : Nat} {g : TG} {tb : TS} {D : Ends} {σ : St} {H : Hp} (Pv : Nat → St → Hp → Prop) (h0 : Pv 0 σ H)
    (hs : ∀ i σ H, i < n → Pv i σ H → g (.int (lo + i)) σ H fun σ2 H2 => tb { D with nx := Pv (i + 1), ct := Pv (i + 1), bk := D.nx } σ2 H2) (hd : ∀ σ H, Pv n σ H → D.nx σ H) :
    ∃ W : Nat → Nat → St → Hp → Prop, (∃ m, W 0 m σ H) ∧ ∀ i m σ H, W i m σ H →
      ((Itr lo n).stop i H ∧ D.nx σ H) ∨ ((Itr lo n).go i H ∧ ∃ N : St → Hp → Prop, (∀ σ' H', N σ' H' → ∃ m', m' < m ∧ W (i + 1) m' σ' H') ∧ ∀ x H', (Itr lo n).yld i H x H' → g x σ H' fun σ2 H2 => tb { D with nx := N, ct := N, bk := D.nx } σ2 H2) := by
  refine in_ec (fun i m σ H => m = n - i ∧ i ≤ n ∧ Pv i σ H) (⟨n, by simp, Nat.zero_le _, h0⟩) ?_
  intro i m σ H zr18
  refine el_0_3 zr18 ?_; clear zr18; intro zq19 hi p
  obtain rfl := zq19
  by_cases hlt : i < n
  · refine .inr ⟨hlt, Pv (i + 1), fun σ' H' p' => ⟨n - (i + 1), by (first | lia | omega), rfl, hlt, p'⟩, fun x H' y => ?_⟩
    refine el_0_2 y ?_; clear y; intro e y
    subst e y
    exact hs i σ _ hlt p
  · have e : i = n := by (first | lia | omega)
    subst e
    exact .inl ⟨Nat.le_refl _, hd σ H p⟩
end L2
namespace L2
open PySem PySem.Spec PyProof.Rows
noncomputable abbrev R2 := V → V → Hp → VK → Prop
noncomputable def OpR (X : Cx) (f : Value → Value → Sem Value) (r : R2) : Prop :=
  ∀ (pins : List (Addr × Obj)) (s : Shared) (σ : St) (H : Hp) (x y : V) (v u : Value) (Q : VK), Inv X pins σ H s → RelV x v → RelV y u → r x y H Q →
    wpAny (model X.prog X.w) X.A (f v u) (EP X pins σ Q) X.xe s
noncomputable def UnR (X : Cx) (f : Value → Sem Value) (r : V → Hp → VK → Prop) : Prop :=
  ∀ (pins : List (Addr × Obj)) (s : Shared) (σ : St) (H : Hp) (x : V) (v : Value) (Q : VK), Inv X pins σ H s → RelV x v → r x H Q →
    wpAny (model X.prog X.w) X.A (f v) (EP X pins σ Q) X.xe s
noncomputable def CallR (X : Cx) (f : Value) (r : List V → Hp → VK → Prop) : Prop :=
  ∀ (pins : List (Addr × Obj)) (s : Shared) (σ : St) (H : Hp) (xs : List V) (us : List Value) (Q : VK), Inv X pins σ H s → Vals xs us → r xs H Q →
    wpAny (model X.prog X.w) X.A (call f us) (EP X pins σ Q) X.xe s
noncomputable def TruR (X : Cx) (r : V → Hp → (Bool → Hp → Prop) → Prop) : Prop :=
  ∀ (pins : List (Addr × Obj)) (s : Shared) (σ : St) (H : Hp) (x : V) (v : Value) (Q : Bool → Hp → Prop), Inv X pins σ H s → RelV x v → r x H Q →
    wpAny (model X.prog X.w) X.A (truthy v) (TP X pins σ Q) X.xe s
noncomputable def tOp (r : R2) (ta tb : TE) : TE := fun σ H Q => ta σ H fun x H1 => tb σ H1 fun y H2 => r x y H2 Q
noncomputable def tUn (r : V → Hp → VK → Prop) (ta : TE) : TE := fun σ H Q => ta σ H fun x H1 => r x H1 Q
noncomputable def rI (C : Int → Int → Prop) (g : Int → Int → V) : R2 := fun x y H Q => ∃ i j, x = .int i ∧ y = .int j ∧ C i j ∧ Q (g i j) H
noncomputable def rI0 (g : Int → Int → V) : R2 := fun x y H Q => ∃ i j, x = .int i ∧ y = .int j ∧ Q (g i j) H
noncomputable def rU (g : Int → V) : V → Hp → VK → Prop := fun x H Q => ∃ i, x = .int i ∧ Q (g i) H
section
variable {X : Cx} {a b c : Expr} {ta tb tc : TE} {pos : Pos}
theorem binT (ha : PE X a ta) (hb : PE X b tb) {pins : List (Addr × Obj)} {s : Shared} {σ : St} {H : Hp} {R : V → V → Hp → Prop} (I : Inv X pins σ H s)
    (h : ta σ H fun x H1 => tb σ H1 fun y H2 => R x y H2) {Q : Value → Shared → Prop} {f : Value → Value → Sem Value}
    (hf : ∀ v u s2 x y H2, Inv X pins σ H2 s2 → RelV x v → RelV y u → R x y H2 → wpAny (model X.prog X.w) X.A (f v u) Q X.xe s2) :
    wpAny (model X.prog X.w) X.A (eval a X.env) (fun v s₁ => wpAny (model X.prog X.w) X.A (eval b X.env) (fun u s₂ => wpAny (model X.prog X.w) X.A (f v u) Q X.xe s₂) X.xe s₁) X.xe s := by
  refine thn (ha pins s σ H _ I h) fun v s1 zz0 => ?_
  refine el_2_3 zz0 ?_; clear zz0; intro x H1 I1 r1 q1
  refine thn (hb pins s1 σ H1 _ I1 q1) fun u s2 zz0 => ?_
  refine el_2_3 zz0 ?_; clear zz0; intro y H2 I2 r2 q2
  exact hf v u s2 x y H2 I2 r1 r2 q2
theorem pe_op {op : Operator} {r : R2} (ho : OpR X (binaryOp op) r) (ha : PE X a ta) (hb : PE X b tb) : PE X (.BinOp a op b pos) (tOp r ta tb) := by
  intro pins s σ H Q I h
  exact wpAny_BinOp (binT ha hb I h fun v u s2 x y H2 I2 rx ry q => ho pins s2 σ H2 x y v u Q I2 rx ry q)
theorem pe_un {op : UnaryOp} {r : V → Hp → VK → Prop} (ho : UnR X (unaryOp op) r) (ha : PE X a ta) : PE X (.UnaryOp op a pos) (tUn r ta) := by
  intro pins s σ H Q I h
  refine UnaryOp_ (thn (ha pins s σ H _ I h) fun v s1 zz0 => ?_)
  refine el_2_3 zz0 ?_; clear zz0; intro x H1 I1 r1 q1
  exact ho pins s1 σ H1 x v Q I1 r1 q1
theorem opI {f : Value → Value → Sem Value} {C : Int → Int → Prop} {g : Int → Int → Int}
    (rule : ∀ (i j : Int) (t u : Tok) (s : Shared) (Q : Value → Shared → Prop) (E : Value → Shared → Prop), C i j → Q (.int (g i j) s.toks) { s with toks := s.toks + 1 } → wpAny (model X.prog X.w) X.A (f (.int i t) (.int j u)) Q E s) :
    OpR X f (rI C fun i j => .int (g i j)) := by
  intro pins s σ H x y v u Q I rx ry h
  refine el_2_4 h ?_; clear h; intro i j zq20 zq21 hc q
  obtain rfl := zq20
  obtain rfl := zq21
  refine el_1_1 rx ?_; clear rx; intro t zq22
  obtain rfl := zq22
  refine el_1_1 ry ?_; clear ry; intro t' zq23
  obtain rfl := zq23
  exact rule i j t t' s _ _ hc ⟨.int (g i j), H, I.tok _, ⟨_, rfl⟩, q⟩
theorem opI0 {f : Value → Value → Sem Value} {g : Int → Int → Int}
    (rule : ∀ (i j : Int) (t u : Tok) (s : Shared) (Q : Value → Shared → Prop) (E : Value → Shared → Prop), Q (.int (g i j) s.toks) { s with toks := s.toks + 1 } → wpAny (model X.prog X.w) X.A (f (.int i t) (.int j u)) Q E s) :
    OpR X f (rI0 fun i j => .int (g i j)) := by
  intro pins s σ H x y v u Q I rx ry h
  refine el_2_3 h ?_; clear h; intro i j zq24 zq25 q
  obtain rfl := zq24
  obtain rfl := zq25
  refine el_1_1 rx ?_; clear rx; intro t zq26
  obtain rfl := zq26
  refine el_1_1 ry ?_; clear ry; intro t' zq27
  obtain rfl := zq27
  exact rule i j t t' s _ _ ⟨.int (g i j), H, I.tok _, ⟨_, rfl⟩, q⟩
theorem opB0 {f : Value → Value → Sem Value} {g : Int → Int → Bool}
    (rule : ∀ (i j : Int) (t u : Tok) (s : Shared) (Q : Value → Shared → Prop) (E : Value → Shared → Prop), Q (.bool (g i j)) s → wpAny (model X.prog X.w) X.A (f (.int i t) (.int j u)) Q E s) :
    OpR X f (rI0 fun i j => .bl (g i j)) := by
  intro pins s σ H x y v u Q I rx ry h
  refine el_2_3 h ?_; clear h; intro i j zq28 zq29 q
  obtain rfl := zq28
  obtain rfl := zq29
  refine el_1_1 rx ?_; clear rx; intro t zq30
  obtain rfl := zq30
  refine el_1_1 ry ?_; clear ry; intro t' zq31
  obtain rfl := zq31
  exact rule i j t t' s _ _ ⟨.bl (g i j), H, I, rfl, q⟩
noncomputable def CDiv (i j : Int) : Prop := 0 < j ∧ j < 1073741824
noncomputable def CPow (i j : Int) : Prop := 0 ≤ j ∧ j ≤ 1000000 ∧ i.natAbs < 2 ^ 64
noncomputable def CMul (i j : Int) : Prop := (-(2 ^ 64) < i ∧ i < 2 ^ 64) ∨ (-(2 ^ 64) < j ∧ j < 2 ^ 64)
theorem CMul.ok {i j : Int} (h : CMul i j) : IntMulOk i j := by
  rcases h with ⟨h1, h2⟩ | ⟨h1, h2⟩
  · exact .of_left (intBits_le_64 h1 h2)
  · exact .of_right (intBits_le_64 h1 h2)
theorem op_add : OpR X (binaryOp .Add) (rI0 fun i j => .int (i + j)) := opI0 fun _ _ _ _ _ _ _ q => add_int q
theorem op_sub : OpR X (binaryOp .Sub) (rI0 fun i j => .int (i - j)) := opI0 fun _ _ _ _ _ _ _ q => sub_int q
theorem op_mul : OpR X (binaryOp .Mult) (rI CMul fun i j => .int (i * j)) := opI fun _ _ _ _ _ _ _ hc q => mul_int q hc.ok
theorem op_fdiv : OpR X (binaryOp .FloorDiv) (rI CDiv fun i j => .int (i / j)) := opI fun i j _ _ _ _ _ hc q => by
  have h1 : (0 : Int) < j := hc.1
  have h2 : j < 1073741824 := hc.2
  exact floordiv_int (by (first | lia | omega)) (by rw [Int.fdiv_eq_ediv_of_nonneg i (by (first | lia | omega))]; exact q) (.inl (PyProof.noPylong_small (by (first | lia | omega))))
theorem op_mod : OpR X (binaryOp .Mod) (rI (fun _ j => 0 < j) fun i j => .int (i % j)) := opI fun i j _ _ _ _ _ hc q => by
  have h1 : (0 : Int) < j := hc
  exact mod_int' (by (first | lia | omega)) (by rw [Int.fmod_eq_emod_of_nonneg i (by (first | lia | omega))]; exact q)
theorem op_pow : OpR X (binaryOp .Pow) (rI CPow fun i j => .int (i ^ j.toNat)) := opI fun _ _ _ _ _ _ _ hc q => pow_int_small hc.1 hc.2.1 hc.2.2 q
theorem unI {f : Value → Sem Value} {g : Int → Int}
    (rule : ∀ (i : Int) (t : Tok) (s : Shared) (Q : Value → Shared → Prop) (E : Value → Shared → Prop), Q (.int (g i) s.toks) { s with toks := s.toks + 1 } → wpAny (model X.prog X.w) X.A (f (.int i t)) Q E s) :
    UnR X f (rU fun i => .int (g i)) := by
  intro pins s σ H x v Q I rx h
  refine el_1_2 h ?_; clear h; intro i zq32 q
  obtain rfl := zq32
  refine el_1_1 rx ?_; clear rx; intro t zq33
  obtain rfl := zq33
  exact rule i t s _ _ ⟨.int (g i), H, I.tok _, ⟨_, rfl⟩, q⟩
theorem un_neg : UnR X (unaryOp .USub) (rU fun i => .int (-i)) := unI fun _ _ _ _ _ q => neg_int q
end
noncomputable def scal : V → V → Bool
  | .non, .non => true | .non, .int _ => true | .int _, .non => true | .non, .bl _ => true | .bl _, .non => true | .non, .str _ => true | .str _, .non => true
  | .int _, .int _ => true | .bl _, .bl _ => true | .str _, .str _ => true | .byt _, .byt _ => true
  | .int _, .str _ => true | .str _, .int _ => true | .bl _, .str _ => true | .str _, .bl _ => true
  | _, _ => false
noncomputable def rEq : R2 := fun x y H Q => scal x y = true ∧ Q (.bl (decide (x = y))) H
noncomputable def rNe : R2 := fun x y H Q => scal x y = true ∧ Q (.bl (!decide (x = y))) H
theorem dec_int {i j : Int} : decide (V.int i = V.int j) = (i == j) := by
  rw [Bool.eq_iff_iff]
  simp
theorem dec_bl {i j : Bool} : decide (V.bl i = V.bl j) = (i == j) := by
  rw [Bool.eq_iff_iff]
  simp
theorem dec_str {i j : Str} : decide (V.str i = V.str j) = (i == j) := by
  rw [Bool.eq_iff_iff]
  simp
theorem dec_byt {i j : Array UInt8} : decide (V.byt i = V.byt j) = (i.toList == j.toList) := by
  rw [Bool.eq_iff_iff]
  cases i
  cases j
  simp
section
variable {X : Cx} {a b c : Expr} {ta tb tc : TE} {pos : Pos}
theorem fin_bl {pins : List (Addr × Obj)} {σ : St} {H : Hp} {s : Shared} {Q : VK} {k k' : Bool} (I : Inv X pins σ H s) (q : Q (.bl k) H) (e : k = k') : EP X pins σ Q (.bool k') s := by
  subst e
  exact in_eecc (.bl k) H I rfl q
theorem op_eq : OpR X (compareOp .Eq) rEq := by
  intro pins s σ H x y v u Q I rx ry h
  refine el_0_2 h ?_; clear h; intro hs q
  cases x with
  | non =>
    cases rx
    cases y with
    | non => cases ry; exact PySem.EqNone.eq_none_none (fin_bl I q (by simp))
    | bl j => cases ry; exact PySem.EqNone.eq_none_bool (fin_bl I q (by simp))
    | int j => obtain ⟨t', rfl⟩ := ry; exact PySem.EqNone.eq_none_int (fin_bl I q (by simp))
    | str j => obtain ⟨t', rfl⟩ := ry; exact PySem.EqNone.eq_none_str (fin_bl I q (by simp))
    | _ => exact absurd (show false = true from hs) Bool.false_ne_true
  | bl i =>
    cases rx
    cases y with
    | non => cases ry; exact PySem.EqNone.eq_bool_none (fin_bl I q (by simp))
    | bl j => cases ry; exact eq_bool (fin_bl I q dec_bl)
    | str j => obtain ⟨t', rfl⟩ := ry; exact PySem.EqMixed.eq_bool_str (fin_bl I q (by simp))
    | _ => exact absurd (show false = true from hs) Bool.false_ne_true
  | int i =>
    refine el_1_1 rx ?_; clear rx; intro t zq34
    obtain rfl := zq34
    cases y with
    | non => cases ry; exact PySem.EqNone.eq_int_none (fin_bl I q (by simp))
    | int j => obtain ⟨t', rfl⟩ := ry; exact eq_int (fin_bl I q dec_int)
    | str j => obtain ⟨t', rfl⟩ := ry; exact PySem.EqMixed.eq_int_str (fin_bl I q (by simp))
    | _ => exact absurd (show false = true from hs) Bool.false_ne_true
  | str i =>
    refine el_1_1 rx ?_; clear rx; intro t zq35
    obtain rfl := zq35
    cases y with
    | non => cases ry; exact PySem.EqNone.eq_str_none (fin_bl I q (by simp))
    | bl j => cases ry; exact PySem.EqMixed.eq_str_bool (fin_bl I q (by simp))
    | int j => obtain ⟨t', rfl⟩ := ry; exact PySem.EqMixed.eq_str_int (fin_bl I q (by simp))
    | str j => obtain ⟨t', rfl⟩ := ry; exact eq_str (fin_bl I q dec_str)
    | _ => exact absurd (show false = true from hs) Bool.false_ne_true
  | byt i =>
    refine el_1_1 rx ?_; clear rx; intro t zq36
    obtain rfl := zq36
    cases y with
    | byt j => obtain ⟨t', rfl⟩ := ry; exact PySem.W.eq_bytes (fin_bl I q dec_byt)
    | _ => exact absurd (show false = true from hs) Bool.false_ne_true
  | _ => cases y <;> exact absurd (show false = true from hs) Bool.false_ne_true
theorem op_ne : OpR X (compareOp .NotEq) rNe := by
  intro pins s σ H x y v u Q I rx ry h
  refine el_0_2 h ?_; clear h; intro hs q
  cases x with
  | non =>
    cases rx
    cases y with
    | non => cases ry; exact PySem.EqNone.ne_none_none (fin_bl I q (by simp))
    | bl j => cases ry; exact PySem.EqNone.ne_none_bool (fin_bl I q (by simp))
    | int j => obtain ⟨t', rfl⟩ := ry; exact PySem.EqNone.ne_none_int (fin_bl I q (by simp))
    | str j => obtain ⟨t', rfl⟩ := ry; exact PySem.EqNone.ne_none_str (fin_bl I q (by simp))
    | _ => exact absurd (show false = true from hs) Bool.false_ne_true
  | bl i =>
    cases rx
    cases y with
    | non => cases ry; exact PySem.EqNone.ne_bool_none (fin_bl I q (by simp))
    | bl j => cases ry; exact ne_bool (fin_bl I q (congrArg not dec_bl))
    | str j => obtain ⟨t', rfl⟩ := ry; exact PySem.EqMixed.ne_bool_str (fin_bl I q (by simp))
    | _ => exact absurd (show false = true from hs) Bool.false_ne_true
  | int i =>
    refine el_1_1 rx ?_; clear rx; intro t zq37
    obtain rfl := zq37
    cases y with
    | non => cases ry; exact PySem.EqNone.ne_int_none (fin_bl I q (by simp))
    | int j => obtain ⟨t', rfl⟩ := ry; exact ne_int (fin_bl I q (congrArg not dec_int))
    | str j => obtain ⟨t', rfl⟩ := ry; exact PySem.EqMixed.ne_int_str (fin_bl I q (by simp))
    | _ => exact absurd (show false = true from hs) Bool.false_ne_true
  | str i =>
    refine el_1_1 rx ?_; clear rx; intro t zq38
    obtain rfl := zq38
    cases y with
    | non => cases ry; exact PySem.EqNone.ne_str_none (fin_bl I q (by simp))
    | bl j => cases ry; exact PySem.EqMixed.ne_str_bool (fin_bl I q (by simp))
    | int j => obtain ⟨t', rfl⟩ := ry; exact PySem.EqMixed.ne_str_int (fin_bl I q (by simp))
    | str j => obtain ⟨t', rfl⟩ := ry; exact ne_str (fin_bl I q (congrArg not dec_str))
    | _ => exact absurd (show false = true from hs) Bool.false_ne_true
  | byt i =>
    refine el_1_1 rx ?_; clear rx; intro t zq39
    obtain rfl := zq39
    cases y with
    | byt j => obtain ⟨t', rfl⟩ := ry; exact PySem.W.ne_bytes (fin_bl I q (congrArg not dec_byt))
    | _ => exact absurd (show false = true from hs) Bool.false_ne_true
  | _ => cases y <;> exact absurd (show false = true from hs) Bool.false_ne_true
theorem op_lt : OpR X (compareOp .Lt) (rI0 fun i j => .bl (decide (i < j))) := opB0 fun _ _ _ _ _ _ _ q => lt_int q
theorem op_le : OpR X (compareOp .LtE) (rI0 fun i j => .bl (decide (i ≤ j))) := opB0 fun _ _ _ _ _ _ _ q => le_int q
theorem op_gt : OpR X (compareOp .Gt) (rI0 fun i j => .bl (decide (j < i))) := opB0 fun _ _ _ _ _ _ _ q => gt_int q
theorem op_ge : OpR X (compareOp .GtE) (rI0 fun i j => .bl (decide (j ≤ i))) := opB0 fun _ _ _ _ _ _ _ q => ge_int q
theorem op_in_str : OpR X (compareOp .In) (fun x y H Q => ∃ i j, x = .str i ∧ y = .str j ∧ Q (.bl (!(Builtin.Str.occurrences j i 0 j.length 1).isEmpty)) H) := by
  intro pins s σ H x y v u Q I rx ry h
  refine el_2_3 h ?_; clear h; intro i j zq40 zq41 q
  obtain rfl := zq40
  obtain rfl := zq41
  refine el_1_1 rx ?_; clear rx; intro t zq42
  obtain rfl := zq42
  refine el_1_1 ry ?_; clear ry; intro t' zq43
  obtain rfl := zq43
  exact in_str (fin_bl I q rfl)
theorem op_notin_str : OpR X (compareOp .NotIn) (fun x y H Q => ∃ i j, x = .str i ∧ y = .str j ∧ Q (.bl (!(!(Builtin.Str.occurrences j i 0 j.length 1).isEmpty))) H) := by
  intro pins s σ H x y v u Q I rx ry h
  refine el_2_3 h ?_; clear h; intro i j zq44 zq45 q
  obtain rfl := zq44
  obtain rfl := zq45
  refine el_1_1 rx ?_; clear rx; intro t zq46
  obtain rfl := zq46
  refine el_1_1 ry ?_; clear ry; intro t' zq47
  obtain rfl := zq47
  exact notIn_str (fin_bl I q rfl)
theorem nomark (b : Expr) {op : CmpOp} (h : op ≠ .In := by decide) (h2 : op ≠ .NotIn := by decide) : behindInMarks op b = false := by
  have e1 : (op == CmpOp.In) = false := by cases op <;> first | rfl | exact absurd rfl h
  have e2 : (op == CmpOp.NotIn) = false := by cases op <;> first | rfl | exact absurd rfl h2
  cases b <;> simp [behindInMarks, e1, e2]
theorem pe_cmpR {op : CmpOp} {r : R2} (ho : OpR X (compareOp op) r) (ha : PE X a ta) (hb : PE X b tb) (hm : behindInMarks op b = false) : PE X (.Compare a [op] [b] pos) (tOp r ta tb) := by
  intro pins s σ H Q I h
  exact wpAny_Compare1 (binT ha hb I h fun v u s2 x y H2 I2 rx ry q => ho pins s2 σ H2 x y v u Q I2 rx ry q) hm
noncomputable def tTest (t : TE) : TT := fun σ H Q => t σ H fun x H' => ∃ k, x = .bl k ∧ Q k H'
theorem pt_cmpR {op : CmpOp} {r : R2} (ho : OpR X (compareOp op) r) (ha : PE X a ta) (hb : PE X b tb) (hm : behindInMarks op b = false) : PT X (.Compare a [op] [b] pos) (tTest (tOp r ta tb)) := by
  intro pins s σ H Q I h
  refine wpAny_isTrue_Compare1 (thn (ha pins s σ H _ I h) fun v s1 ⟨x, H1, I1, r1, q1⟩ => thn (hb pins s1 σ H1 _ I1 q1) fun u s2 ⟨y, H2, I2, r2, q2⟩ =>
    thn (ho pins s2 σ H2 x y v u _ I2 r1 r2 q2) fun c s3 ⟨z, H3, I3, r3, k, e, q3⟩ => ?_) hm
  subst e
  cases r3
  exact wpAny_truthy_bool ⟨H3, I3, q3⟩
noncomputable def tChain (r r' : R2) (ta tb tc : TE) : TE := fun σ H Q => ta σ H fun x H1 => tb σ H1 fun y H2 => r x y H2 fun z H3 => ∃ k, z = .bl k ∧
  (if k = true then tc σ H3 fun w' H4 => r' y w' H4 Q else Q (.bl false) H3)
theorem pe_chain {op op' : CmpOp} {r r' : R2} (ho : OpR X (compareOp op) r) (ho' : OpR X (compareOp op') r') (ha : PE X a ta) (hb : PE X b tb) (hc : PE X c tc)
    (hm : lastMarks [op, op'] [b, c] = false := by with_unfolding_all rfl) : PE X (.Compare a [op, op'] [b, c] pos) (tChain r r' ta tb tc) := by
  intro pins s σ H Q I h
  refine Compare_chain (thn (ha pins s σ H _ I h) fun v s1 ⟨x, H1, I1, r1, q1⟩ => chain_link (thn (hb pins s1 σ H1 _ I1 q1) fun u s2 ⟨y, H2, I2, r2, q2⟩ =>
    thn (ho pins s2 σ H2 x y v u _ I2 r1 r2 q2) fun d s3 ⟨z, H3, I3, r3, k, e, q3⟩ => ?_)) hm
  subst e
  cases r3
  refine wpAny_truthy_bool ?_
  cases k with
  | false => exact ite_ff ⟨.bl false, H3, I3, rfl, q3⟩
  | true => exact ite_tt (chain_last (thn (hc pins s3 σ H3 _ I3 q3) fun w' s4 ⟨z', H4, I4, r4, q4⟩ => ho' pins s4 σ H4 y z' u w' Q I4 r2 r4 q4))
theorem pt_chain {op op' : CmpOp} {r r' : R2} (ho : OpR X (compareOp op) r) (ho' : OpR X (compareOp op') r') (ha : PE X a ta) (hb : PE X b tb) (hc : PE X c tc)
    (hm : lastMarks [op, op'] [b, c] = false := by with_unfolding_all rfl) : PT X (.Compare a [op, op'] [b, c] pos) (tTest (tChain r r' ta tb tc)) := by
  intro pins s σ H Q I h
  refine isTrue_chain (thn (ha pins s σ H _ I h) fun v s1 ⟨x, H1, I1, r1, q1⟩ => test_link (thn (hb pins s1 σ H1 _ I1 q1) fun u s2 ⟨y, H2, I2, r2, q2⟩ =>
    thn (ho pins s2 σ H2 x y v u _ I2 r1 r2 q2) fun d s3 ⟨z, H3, I3, r3, k, e, q3⟩ => ?_)) hm
  subst e
  cases r3
  refine wpAny_truthy_bool ?_
  cases k with
  | false =>
    refine el_1_2 q3 ?_; clear q3; intro k' e' q'
    cases e'
    exact ite_ff ⟨H3, I3, q'⟩
  | true =>
    refine ite_tt (test_last (thn (hc pins s3 σ H3 _ I3 q3) fun w' s4 zz0 => ?_))
    refine el_2_3 zz0 ?_; clear zz0; intro z' H4 I4 r4 q4
    refine thn (ho' pins s4 σ H4 y z' u w' _ I4 r2 r4 q4) fun d' s5 zz1 => ?_
    obtain ⟨z2, H5, I5, r5, k2, e2, q5⟩ := zz1
    subst e2
    cases r5
    exact wpAny_truthy_bool ⟨H5, I5, q5⟩
noncomputable def TruV (K : PySem.W.Frag) (x : V) (H : Hp) (k : Bool) : Prop :=
  match x with
  | .non => k = false
  | .bl b => k = b
  | .int i => k = (i != 0)
  | .str y => y.length ≤ sizeLine ∧ k = ((y.length : Int) != 0)
  | .byt y => y.size ≤ sizeLine ∧ k = ((y.size : Int) != 0)
  | .ref p => (∃ xs, SqL K H p xs ∧ k = !xs.isEmpty) ∨ (∃ xs, SqT K H p xs ∧ k = !xs.isEmpty) ∨ ∃ kvs, H p = some (.dK kvs) ∧ k = !kvs.isEmpty
  | _ => False
theorem isEmpty_kv {κ : Type} {kvs : List (κ × V)} {vs : List (κ × Value)} (r : KV kvs vs) : (!vs.isEmpty) = !kvs.isEmpty := by
  cases r <;> rfl
theorem isEmpty_of {xs : List V} {its : List Value} (r : Vals xs its) : (!its.toArray.isEmpty) = !xs.isEmpty := by
  cases r <;> simp
theorem line63 : (sizeLine : Nat) < 2 ^ 63 := by rw [sizeLine_eq]; decide
theorem tru_ok : TruR X (fun x H Q => ∃ k, TruV X.K x H k ∧ Q k H) := by
  intro pins s σ H x v Q I rx h
  refine el_1_2 h ?_; clear h; intro k e q
  have hl := line63
  have hs : sizeLine = 16777216 := sizeLine_eq
  cases x with
  | non =>
    cases rx
    have e' : k = false := e
    subst e'
    exact truthy_none ⟨H, I, q⟩
  | bl b =>
    cases rx
    have e' : k = b := e
    subst e'
    exact wpAny_truthy_bool ⟨H, I, q⟩
  | int i =>
    refine el_1_1 rx ?_; clear rx; intro t zq48
    obtain rfl := zq48
    have e' : k = (i != 0) := e
    subst e'
    exact PySem.P.truthy_int ⟨H, I, q⟩
  | str y =>
    refine el_1_1 rx ?_; clear rx; intro t zq49
    obtain rfl := zq49
    obtain ⟨hy, e'⟩ : y.length ≤ sizeLine ∧ k = ((y.length : Int) != 0) := e
    subst e'
    exact PySem.P.truthy_str (by (first | lia | omega)) ⟨H, I.tok _, q⟩
  | byt y =>
    refine el_1_1 rx ?_; clear rx; intro t zq50
    obtain rfl := zq50
    obtain ⟨hy, e'⟩ : y.size ≤ sizeLine ∧ k = ((y.size : Int) != 0) := e
    subst e'
    exact PySem.W.truthy_bytes (by (first | lia | omega)) ⟨H, I.tok _, q⟩
  | ref p =>
    cases rx
    have e' : (∃ xs, SqL X.K H p xs ∧ k = !xs.isEmpty) ∨ (∃ xs, SqT X.K H p xs ∧ k = !xs.isEmpty) ∨ ∃ kvs, H p = some (.dK kvs) ∧ k = !kvs.isEmpty := e
    rcases e' with ⟨xs, hx, e'⟩ | ⟨xs, hx, e'⟩ | ⟨kvs, hx, e'⟩
    · subst e'
      refine el_1_3 (I.list hx) ?_; intro its r pl hz
      have hlen := r.length
      exact wpAny_truthy_list pl.isList (by simp only [List.size_toArray]; (first | lia | omega)) ⟨H, I.tok _, by rw [isEmpty_of r]; exact q⟩
    · subst e'
      refine el_1_3 (I.tuple hx) ?_; intro its r pl hz
      have hlen := r.length
      exact truthy_tuple pl (by simp only [List.size_toArray]; (first | lia | omega)) ⟨H, I.tok _, by rw [isEmpty_of r]; exact q⟩
    · subst e'
      obtain ⟨hz, hS, vs, r, m⟩ : kvs.length ≤ sizeLine ∧ (p == sysModules) = false ∧ ∃ vs, KV kvs vs ∧ s.heap.DictOf (mixKind X.prog X.w) p vs := I.hok p _ hx
      have hlen : kvs.length = vs.length := Paired.length r
      exact wpAny_truthy_dict hS m (by (first | lia | omega)) ⟨H, I.tok _, by rw [isEmpty_kv r]; exact q⟩
  | _ => exact (show False from e).elim
theorem pt_truth (ha : PE X a ta) (he : ∀ whole, isTrue a X.env whole = (do let v ← whole; standAt a.pos; holding [v] (truthy v))) :
    PT X a (fun σ H Q => ta σ H fun x H' => ∃ k, TruV X.K x H' k ∧ Q k H') := by
  intro pins s σ H Q I h
  refine isTrue_plain (thn (ha pins s σ H _ I h) fun v s1 zz0 => ?_) (he _)
  refine el_2_3 zz0 ?_; clear zz0; intro x H1 I1 r1 q1
  exact tru_ok pins s1 σ H1 x v Q I1 r1 q1
theorem op_add_str : OpR X (binaryOp .Add) (fun x y H Q => ∃ i j, x = .str i ∧ y = .str j ∧ i.length + j.length ≤ sizeLine ∧ Q (.str (i ++ j)) H) := by
  intro pins s σ H x y v u Q I rx ry h
  refine el_2_4 h ?_; clear h; intro i j zq51 zq52 hz q
  obtain rfl := zq51
  obtain rfl := zq52
  refine el_1_1 rx ?_; clear rx; intro t zq53
  obtain rfl := zq53
  refine el_1_1 ry ?_; clear ry; intro t' zq54
  obtain rfl := zq54
  exact add_str (fun t' tk => ⟨.str (i ++ j), H, I.tok _, ⟨_, rfl⟩, q⟩) hz
theorem vals1 {x : V} {us : List Value} (r : Vals [x] us) : ∃ u, us = [u] ∧ RelV x u := by
  cases r with
  | cons r1 r2 => cases r2; exact ⟨_, rfl, r1⟩
theorem vals2 {x y : V} {us : List Value} (r : Vals [x, y] us) : ∃ u w', us = [u, w'] ∧ RelV x u ∧ RelV y w' := by
  cases r with
  | cons r1 r2 =>
    cases r2 with
    | cons r3 r4 => cases r4; exact ⟨_, _, rfl, r1, r3⟩
theorem call_max2 (hc : X.calm = true) : CallR X (.builtin "max") (fun xs H Q => ∃ i j, xs = [.int i, .int j] ∧ Q (.int (if j > i then j else i)) H) := by
  intro pins s σ H xs us Q I r h
  refine el_2_2 h ?_; clear h; intro i j zq55 q
  obtain rfl := zq55
  refine el_2_3 (vals2 r) ?_; intro u w' zq56 zq57 zq58
  obtain rfl := zq56
  refine el_1_1 zq57 ?_; clear zq57; intro t zq59
  obtain rfl := zq59
  refine el_1_1 zq58 ?_; clear zq58; intro t' zq60
  obtain rfl := zq60
  refine max_two_ints (I.ok.hd hc) fun h' tk k => ⟨_, H, I.kept k, ?_, q⟩
  by_cases hj : j > i
  · rw [if_pos hj, if_pos hj]; exact ⟨_, rfl⟩
  · rw [if_neg hj, if_neg hj]; exact ⟨_, rfl⟩
theorem call_min2 (hc : X.calm = true) : CallR X (.builtin "min") (fun xs H Q => ∃ i j, xs = [.int i, .int j] ∧ Q (.int (if j < i then j else i)) H) := by
  intro pins s σ H xs us Q I r h
  refine el_2_2 h ?_; clear h; intro i j zq61 q
  obtain rfl := zq61
  refine el_2_3 (vals2 r) ?_; intro u w' zq62 zq63 zq64
  obtain rfl := zq62
  refine el_1_1 zq63 ?_; clear zq63; intro t zq65
  obtain rfl := zq65
  refine el_1_1 zq64 ?_; clear zq64; intro t' zq66
  obtain rfl := zq66
  refine min_two_ints (I.ok.hd hc) fun h' tk k => ⟨_, H, I.kept k, ?_, q⟩
  by_cases hj : j < i
  · rw [if_pos hj, if_pos hj]; exact ⟨_, rfl⟩
  · rw [if_neg hj, if_neg hj]; exact ⟨_, rfl⟩
theorem call_int1 : CallR X (.type "int") (fun xs H Q => (∃ i, xs = [.int i] ∧ Q (.int i) H) ∨ ∃ k, xs = [.bl k] ∧ Q (.int (if k then 1 else 0)) H) := by
  intro pins s σ H xs us Q I r h
  rcases h with ⟨i, rfl, q⟩ | ⟨k, rfl, q⟩
  · obtain ⟨u, rfl, t, rfl⟩ := vals1 r
    exact call_int_int ⟨.int i, H, I, ⟨_, rfl⟩, q⟩
  · refine el_1_2 (vals1 r) ?_; intro u zq67 r1
    obtain rfl := zq67
    cases r1
    exact call_int_bool ⟨.int (if k then 1 else 0), H, I.tok _, ⟨_, rfl⟩, q⟩
end
end L2
namespace L2
open PySem PySem.Spec PyProof.Rows
structure ObjM (h : Heap) (x dx C : Addr) (mA : Str → Option Value) : Prop where
  obj : h.get? x = some (PySem.W.instObj C dx)
  ns : h.Ns1 dx mA
  ne : dx ≠ x
theorem lookIn_ns {h : Heap} {dx : Addr} {mA : Str → Option Value} (n : h.Ns1 dx mA) : ∃ od, h.get? dx = some od ∧ ∀ name, PySem.W.lookIn name od = some (mA name) := by
  refine el_3_5 n ?_; clear n; intro o es ep ho hd hk _ hm
  refine in_ec o ho (fun name => ?_)
  have e := hm name
  unfold nsFind findBy at e
  rw [← Array.find?_toList] at e
  unfold PySem.W.lookIn
  rw [hd]
  dsimp only
  split
  · rename_i y q
    rw [q] at e
    exact congrArg some e
  · rename_i q
    rw [q] at e
    have a : es.toList.any (·.refKey) = false := by
      rw [List.any_eq_false]
      intro y hy
      refine el_2_1 (hk y (Array.mem_toList_iff.mp hy)) ?_; intro z t hkey
      simp [DictEntry.refKey, hkey]
    have a' : ¬ es.toList.any (·.refKey) = true := by rw [a]; exact Bool.false_ne_true
    rw [if_neg a']
    exact congrArg some e
theorem ObjM.look {h : Heap} {x dx C : Addr} {mA : Str → Option Value} (I : ObjM h x dx C mA) : ∃ od, PySem.W.InstAt h x (PySem.W.instObj C dx) C (some od) ∧ ∀ name, PySem.W.lookIn name od = some (mA name) :=
  let ⟨od, ho, hl⟩ := lookIn_ns I.ns
  ⟨od, ⟨I.obj, rfl, rfl, ho⟩, hl⟩
section
variable {prog : Program} {w : World} {A : Around} {E : Value → Shared → Prop} {s : Shared} {K : PySem.W.Frag} {x dx C f : Addr} {mA : Str → Option Value} {name : Str} {v : Value}
theorem get_map {expr : Bool} {Q : Value → Shared → Prop} (X : K.In s.heap) (I : ObjM s.heap x dx C mA) (hg : PySem.W.plainGet K C name = true) (hh : PySem.W.hasDictIn K C = true)
    (ha : PySem.W.findIn K (.ref C) name = some none) (hv : mA name = some v) (hv' : PySem.W.handedIn v = true) (h : Q v { s with toks := s.toks + 1 }) :
    wpAny (model prog w) A (getAttr (.ref x) name expr) Q E s := by
  refine el_1_2 (I.look) ?_; intro od J hl
  exact PySem.W.get_value X J (PySem.W.plainGet_of hg).1 (PySem.W.findObj_own hh ha rfl (by rw [hl, hv])) hv' h
theorem get_meth {pl : Sem Bool} {Q : Value × List Value → Shared → Prop} (X : K.In s.heap) (I : ObjM s.heap x dx C mA) (hg : PySem.W.plainGet K C name = true)
    (hf : PySem.W.findIn K (.ref C) name = some (some (.ref f))) (ht : PySem.W.isFn K (.ref f) = true) (hv : mA name = none) (h : Q (.ref f, [.ref x]) s) :
    wpAny (model prog w) A (getMethod (.ref x) name pl) Q E s := by
  refine el_1_2 (I.look) ?_; intro od J hl
  exact PySem.W.method_fn X J (PySem.W.plainGet_of hg).1 (PySem.W.plainGet_of hg).2 hf (beq_iff_eq.mp ht) (by show (PySem.W.lookIn name od).map (·.isSome) = some false; rw [hl, hv]; rfl) h
theorem set_map {ns : List Str} {Q : Unit → Shared → Prop} (X : K.In s.heap) (I : ObjM s.heap x dx C mA)
    (hs : PySem.W.findIn K (.ref C) "__setattr__" = some (some (.builtin "object.__setattr__"))) (hp : PySem.W.plainOver K C = true) (ht : PySem.W.takerIn K C name = some none) (hh : PySem.W.hasDictIn K C = true)
    (hw : PySem.Within mA ns) (hsz : ns.length ≤ sizeLine)
    (h : ∀ h', ObjM h' x dx C (fun y => if y = name then some v else mA y) → Heap.SameBut dx s.heap h' → Q () { s with heap := h', toks := s.toks + 2 }) :
    wpAny (model prog w) A (setAttr (.ref x) name v) Q E s := by
  refine el_1_2 (I.look) ?_; intro od J hl
  refine PySem.W.set_plain X J hs (PySem.W.osa_open (s := { s with toks := s.toks + 1 }) (r := none) X J hp ht fun b => ?_)
  refine el_1_2 (PySem.W.any_some hh) ?_; intro cd hc hd'
  have hx : s.heap.get? x = some ⟨.ref C, some dx, .plain, #[]⟩ := I.obj
  refine wpAny_bind (wpAny_pure (wpAny_bind (wpAny_bind (wpAny_loadPart hx (wpAny_bind (PySem.W.Looks.here (s := { s with toks := s.toks + 1 }) (PySem.W.looks_clsIn X hc) ?_))))))
  rw [hd']
  refine wpAny_pure (a := some dx) (wpAny_bind (wpAny_pure (wpAny_bind ?_)))
  refine wpAny_nsSet1 (s := { s with toks := s.toks + 1 }) I.ns fun h' hn2 hs2 => ?_
  refine el_3_3 (hn2.count (PySem.Within.cons name v hw)) ?_; intro oD esD epD hoD hdD hcD
  refine wpAny_bind (wpAny_lookBehind hoD (by rw [hdD]; exact pastItsLine_dict (Nat.le_trans hcD (by rw [List.length_cons]; (first | lia | omega)))) ?_)
  exact wpAny_pure (h _ ⟨(hs2.2 _ (Ne.symm I.ne)).trans I.obj, hn2, I.ne⟩ hs2)
theorem make_map {R : Result → Shared → Prop} {vs : List Value} {kw : List (Str × Value)} (X : K.In s.heap) (hm : PySem.W.makesIn K C = true)
    (hi : PySem.W.findIn K (.ref C) "__init__" = some (some (.ref f))) (hf : PySem.W.typeIn K (.ref f) = some (.type "function"))
    (h : codeAny (model prog w) (A.under (.builtin "type.__call__" ⟨.ref C :: vs, kw⟩)) (.call (.ref f) ⟨.ref (s.heap.objs.size + 1) :: vs, kw⟩) (PySem.W.InitBack (s.heap.objs.size + 1) R)
      { s with heap := (s.heap.push PySem.W.emptyDict).push (PySem.W.instObj C s.heap.objs.size) }) :
    codeAny (model prog w) A (.call (.ref C) ⟨vs, kw⟩) R s := by
  obtain ⟨hh, g, d, t, os⟩ := s
  exact PySem.W.make_core (PySem.W.makes_of X hm) (PySem.W.looks_findIn X hi) (fun self => PySem.W.bind_fn X self hf) (.inl rfl) h
end
noncomputable def putF (f : Str) (v : V) : List (Str × V) → List (Str × V)
  | [] => [(f, v)]
  | (g, x) :: r => if g = f then (g, v) :: r else (g, x) :: putF f v r
theorem lookup_putF (f g : Str) (v : V) : ∀ fs : List (Str × V), (putF f v fs).lookup g = if g = f then some v else fs.lookup g
  | [] => by
    show List.lookup g [(f, v)] = _
    by_cases h : g = f
    · have hb : (g == f) = true := beq_iff_eq.mpr h
      simp only [List.lookup, hb, if_pos h]
    · have hb : (g == f) = false := beq_eq_false_iff_ne.mpr h
      simp only [List.lookup, hb, if_neg h]
  | (k, x) :: r => by
    have ih := lookup_putF f g v r
    rw [show putF f v ((k, x) :: r) = (if k = f then (k, v) :: r else (k, x) :: putF f v r) from rfl]
    by_cases hk : k = f
    · rw [if_pos hk]
      by_cases h : g = k
      · have hb : (g == k) = true := beq_iff_eq.mpr h
        simp only [List.lookup, hb, if_pos (h.trans hk)]
      · have hb : (g == k) = false := beq_eq_false_iff_ne.mpr h
        simp only [List.lookup, hb, if_neg (fun e : g = f => h (e.trans hk.symm))]
    · rw [if_neg hk]
      by_cases h : g = k
      · have hb : (g == k) = true := beq_iff_eq.mpr h
        simp only [List.lookup, hb, if_neg (fun e : g = f => hk (h.symm.trans e))]
      · have hb : (g == k) = false := beq_eq_false_iff_ne.mpr h
        simp only [List.lookup, hb]
        exact ih
theorem keys_putF (f : Str) (v : V) : ∀ fs : List (Str × V), f ∈ (putF f v fs).map (·.1) ∧ ∀ g, g ∈ fs.map (·.1) → g ∈ (putF f v fs).map (·.1)
  | [] => ⟨by simp [putF], fun g h => by simp at h⟩
  | (k, x) :: r => by
    refine el_0_2 (keys_putF f v r) ?_; intro i1 i2
    rw [show putF f v ((k, x) :: r) = (if k = f then (k, v) :: r else (k, x) :: putF f v r) from rfl]
    by_cases hk : k = f
    · rw [if_pos hk]
      subst hk
      exact ⟨by simp, fun g h => by simpa using h⟩
    · rw [if_neg hk]
      refine ⟨?_, fun g h => ?_⟩
      · rw [List.map_cons]
        exact List.mem_cons_of_mem _ i1
      · rw [List.map_cons] at h ⊢
        rcases List.mem_cons.mp h with e | e
        · exact List.mem_cons.mpr (.inl e)
        · exact List.mem_cons_of_mem _ (i2 g e)
theorem length_putF (f : Str) (v : V) : ∀ fs : List (Str × V), (putF f v fs).length ≤ fs.length + 1
  | [] => by simp [putF]
  | (k, x) :: r => by
    have ih := length_putF f v r
    rw [show putF f v ((k, x) :: r) = (if k = f then (k, v) :: r else (k, x) :: putF f v r) from rfl]
    by_cases hk : k = f
    · rw [if_pos hk, List.length_cons, List.length_cons]; (first | lia | omega)
    · rw [if_neg hk, List.length_cons, List.length_cons]; (first | lia | omega)
theorem RelO.some_of {v : V} {o : Option Value} (r : RelO (some v) o) : ∃ u, o = some u ∧ RelV v u := by
  cases o with
  | none => exact (show False from r).elim
  | some u => exact ⟨u, rfl, r⟩
theorem RelO.none_of {o : Option Value} (r : RelO none o) : o = none := by
  cases o with
  | none => rfl
  | some u => exact (show False from r).elim
theorem handed_of {v : V} {u : Value} (r : RelV v u) : PySem.W.handedIn u = true := by
  cases v with
  | non => cases (show u = Value.none from r); rfl
  | bl b => cases (show u = Value.bool b from r); rfl
  | int i => obtain ⟨t, e⟩ := (show ∃ t, u = Value.int i t from r); cases e; rfl
  | str x => obtain ⟨t, e⟩ := (show ∃ t, u = Value.str x t from r); cases e; rfl
  | byt b => obtain ⟨t, e⟩ := (show ∃ t, u = Value.bytes b t from r); cases e; rfl
  | flt b => obtain ⟨t, e⟩ := (show ∃ t, u = Value.float b t from r); cases e; rfl
  | ref a => cases (show u = Value.ref a from r); rfl
  | ty n => cases (show u = Value.type n from r); rfl
section
variable {P : Program} {w : World} {H H' : Hp} {h h' : Heap} {a C dx : Addr} {fs fs' : List (Str × V)}
theorem ins_get (hok : HOk P w H h) (e : H a = some (.ins C dx fs)) : ∃ mA, ObjM h a dx C mA ∧ (∀ f, RelO (fs.lookup f) (mA f)) ∧ PySem.Within mA (fs.map (·.1)) ∧ fs.length ≤ 1000 ∧ H dx = some (.own a) := by
  obtain ⟨d, z, ne, ob, mA, n, r, q⟩ := (show ObjOk P w H h a (.ins C dx fs) from hok a _ e)
  exact in_ecccc mA (⟨ob, n, ne⟩) r q z d
end
structure Cls (K : PySem.W.Frag) (C : Addr) : Prop where
  pg : PySem.W.plainGet K C Str.empty = true
  hd : PySem.W.hasDictIn K C = true
  po : PySem.W.plainOver K C = true
  sa : PySem.W.findIn K (.ref C) "__setattr__" = some (some (.builtin "object.__setattr__"))
theorem Cls.get {K : PySem.W.Frag} {C : Addr} (c : Cls K C) (f : Str) : PySem.W.plainGet K C f = true := c.pg
noncomputable def NoAttr (K : PySem.W.Frag) (C : Addr) (f : Str) : Prop := PySem.W.findIn K (.ref C) f = some none
theorem NoAttr.taker {K : PySem.W.Frag} {C : Addr} {f : Str} (n : NoAttr K C f) : PySem.W.takerIn K C f = some none := by
  unfold PySem.W.takerIn
  rw [show PySem.W.findIn K (.ref C) f = some none from n]
  rfl
structure Meth (K : PySem.W.Frag) (C : Addr) (m : Str) (f : Addr) : Prop where
  at_ : PySem.W.findIn K (.ref C) m = some (some (.ref f))
  fn : PySem.W.isFn K (.ref f) = true
  kp : PySem.W.keepIn K (.ref f) = true
section
variable {X : Cx} {pins : List (Addr × Obj)} {σ : St} {H : Hp} {s : Shared} {a C dx : Addr} {fs : List (Str × V)} {f : Str} {v : V} {A : Around} {E : Value → Shared → Prop}
theorem getattr_ok {b : Bool} {Q : Value → Shared → Prop} (I : Inv X pins σ H s) (e : H a = some (.ins C dx fs)) (c : Cls X.K C) (n : NoAttr X.K C f) (l : fs.lookup f = some v)
    (h : ∀ u s', Inv X pins σ H s' → RelV v u → Q u s') : wpAny (model X.prog X.w) A (getAttr (.ref a) f b) Q E s := by
  refine el_1_5 (ins_get I.hok e) ?_; intro mA O r _ _ _
  obtain ⟨u, hu, ru⟩ := RelO.some_of (v := v) (o := mA f) (by rw [← l]; exact r f)
  exact get_map I.kIn O (c.get f) c.hd n hu (handed_of ru) (h u _ (I.tok _) ru)
theorem getmeth_ok {m : Str} {g : Addr} {pl : Sem Bool} {Q : Value × List Value → Shared → Prop} (I : Inv X pins σ H s) (e : H a = some (.ins C dx fs)) (c : Cls X.K C) (k : Meth X.K C m g) (l : fs.lookup m = none)
    (h : Q (.ref g, [.ref a]) s) : wpAny (model X.prog X.w) A (getMethod (.ref a) m pl) Q E s := by
  refine el_1_5 (ins_get I.hok e) ?_; intro mA O r _ _ _
  have hn : mA m = none := RelO.none_of (by rw [← l]; exact r m)
  exact get_meth I.kIn O (c.get m) k.at_ k.fn hn h
theorem setattr_ok {y : V} {u : Value} {Q : Unit → Shared → Prop} (I : Inv X pins σ H s) (e : H a = some (.ins C dx fs)) (c : Cls X.K C) (n : NoAttr X.K C f) (hl : fs.length < 1000) (ry : RelV y u)
    (h : ∀ s', Inv X pins σ (upd H a (.ins C dx (putF f y fs))) s' → Q () s') : wpAny (model X.prog X.w) A (setAttr (.ref a) f u) Q E s := by
  refine el_1_5 (ins_get I.hok e) ?_; intro mA O r wi _ ho
  have hz : (fs.map (·.1)).length ≤ sizeLine := by rw [List.length_map, sizeLine_eq]; (first | lia | omega)
  refine set_map I.kIn O c.sa c.po n.taker c.hd wi hz fun h' O' sb => h _ ?_
  have hd : ∃ o, h'.get? dx = some o := let ⟨o, _, _, e', _⟩ := O'.ns; ⟨o, e'⟩
  refine I.write (x := a) (e := dx) (by rw [e]; exact True.intro) (.inr ho) (fun b q hb z => (sb.2 b hb).trans z) hd ?_
  refine in_ccccecc (by rw [upd_ne O.ne]; exact ho) ?_ O.ne O'.obj _ O'.ns (fun g => ?_) (fun g hg => ?_)
  · have := length_putF f y fs; (first | lia | omega)
  · show RelO ((putF f y fs).lookup g) (if g = f then some u else mA g)
    rw [lookup_putF]
    by_cases q : g = f
    · rw [if_pos q, if_pos q]; exact ry
    · rw [if_neg q, if_neg q]; exact r g
  · by_cases q : g = f
    · rw [q]; exact (keys_putF f y fs).1
    · refine (keys_putF f y fs).2 g (wi g fun z => hg ?_)
      show (if g = f then some u else mA g) = none
      rw [if_neg q]; exact z
theorem Inv.made (I : Inv X pins σ H s) : Inv X pins σ (upd (upd H s.heap.objs.size (.own (s.heap.objs.size + 1))) (s.heap.objs.size + 1) (.ins C s.heap.objs.size []))
    { s with heap := (s.heap.push PySem.W.emptyDict).push (PySem.W.instObj C s.heap.objs.size) } := by
  have e1 : (s.heap.push PySem.W.emptyDict).get? s.heap.objs.size = some PySem.W.emptyDict := Heap.get?_push_size s.heap rfl
  have e2 : ((s.heap.push PySem.W.emptyDict).push (PySem.W.instObj C s.heap.objs.size)).get? (s.heap.objs.size + 1) = some (PySem.W.instObj C s.heap.objs.size) := by
    have := Heap.get?_push_size (s.heap.push PySem.W.emptyDict) (o := PySem.W.instObj C s.heap.objs.size) rfl
    rwa [Heap.size_push] at this
  have e3 : (s.heap.push PySem.W.emptyDict).Ns s.heap.objs.size (fun _ => none) := ⟨PySem.W.emptyDict, #[], _, e1, rfl, (fun e he => absurd he (by simp)), fun _ => rfl⟩
  have I1 := I.laid (a := s.heap.objs.size) (o := .own (s.heap.objs.size + 1)) (h' := s.heap.push PySem.W.emptyDict) (t' := s.toks) (fun b u q => Heap.get?_push_of_some _ q) (Nat.le_refl _) ⟨_, e1⟩
  refine I1.laid (a := s.heap.objs.size + 1) (o := .ins C s.heap.objs.size []) (t' := s.toks) (fun b u q => Heap.get?_push_of_some _ q) (Nat.le_of_eq (Heap.size_push _ _)) ?_
  have ne : s.heap.objs.size ≠ s.heap.objs.size + 1 := Nat.ne_of_lt (Nat.lt_succ_self _)
  refine in_ccccecc (by rw [upd_ne ne, upd_same]) (Nat.zero_le _) ne e2 (fun _ => none) ((Heap.Ns1.of_empty e3).at fun o q => Heap.get?_push_of_some _ q) (fun _ => True.intro) (fun y hy => absurd rfl hy)
theorem attr_of {prog : Program} {w : World} {env : Env} {e : Expr} {f : Str} {pos : Pos} {s : Shared} {Q : Value → Shared → Prop} (hb : attributeBase e f env (eval e env) = eval e env)
    (h : wpAny (model prog w) A (eval e env) (fun o s₁ => wpAny (model prog w) A (getAttr o f true) Q E s₁) E s) : wpAny (model prog w) A (eval (.Attribute e f pos) env) Q E s :=
  Attribute_any_ h (by rw [arm_eval_Attribute, hb])
end
noncomputable def tFld (K : PySem.W.Frag) (ta : TE) (f : Str) : TE := fun σ H Q => ta σ H fun x H1 => ∃ a C dx fs v, x = .ref a ∧ H1 a = some (.ins C dx fs) ∧ Cls K C ∧ NoAttr K C f ∧ fs.lookup f = some v ∧ Q v H1
noncomputable def sFld (K : PySem.W.Frag) (ta tv : TE) (f : Str) : TS := fun D σ H => tv σ H fun y H1 => ta σ H1 fun x H2 => ∃ a C dx fs, x = .ref a ∧ H2 a = some (.ins C dx fs) ∧ Cls K C ∧ NoAttr K C f ∧ fs.length < 1000 ∧
  D.nx σ (upd H2 a (.ins C dx (putF f y fs)))
noncomputable def InOp (X : Cx) (op : Operator) (rd : V → V → Hp → VK → Prop) : Prop :=
  ∀ (pins : List (Addr × Obj)) (s : Shared) (σ : St) (H : Hp) (x y : V) (u v : Value) (Q : VK), Inv X pins σ H s → RelV x u → RelV y v → rd x y H Q → wpAny (model X.prog X.w) X.A (inplaceOp op u v) (EP X pins σ Q) X.xe s
noncomputable def sFldAug (K : PySem.W.Frag) (ta tv : TE) (rd : V → V → Hp → VK → Prop) (f : Str) : TS := fun D σ H => ta σ H fun x H1 => ∃ a C dx fs v, x = .ref a ∧ H1 a = some (.ins C dx fs) ∧ Cls K C ∧ NoAttr K C f ∧ fs.lookup f = some v ∧
  tv σ H1 fun y H2 => rd v y H2 fun z H3 => ∃ dx' fs', H3 a = some (.ins C dx' fs') ∧ fs'.length < 1000 ∧ D.nx σ (upd H3 a (.ins C dx' (putF f z fs')))
section
variable {X : Cx} {o e value : Expr} {f : Str} {pos pos' tpos : Pos} {ta tv : TE}
theorem pe_fld (he : PE X e ta) (hb : attributeBase e f X.env (eval e X.env) = eval e X.env) : PE X (.Attribute e f pos) (tFld X.K ta f) := by
  intro pins s σ H Q I h
  refine attr_of hb (thn (he pins s σ H _ I h) fun u s1 zz0 => ?_)
  obtain ⟨x, H1, I1, rx, a, C, dx, fs, v, ex, ea, c, n, l, q⟩ := zz0
  subst ex
  obtain rfl : u = Value.ref a := rx
  exact getattr_ok I1 ea c n l fun u' s2 I2 ru => ⟨v, H1, I2, ru, q⟩
theorem ps_fld (ha : PE X o ta) (hv : PE X value tv) (hs : swapsWith value (some (.Attribute o f pos')) pos.line X.env = pure false) : PS X (.Assign [.Attribute o f pos'] value pos) (sFld X.K ta tv f) := by
  intro pins s σ H D I h
  refine plainObj_wpAny_Assign_Attribute (thn (hv pins s σ H _ I h) fun u s1 zz0 => ?_) hs
  refine el_2_3 zz0 ?_; clear zz0; intro y H1 I1 ry q
  refine thn (ha pins s1 σ H1 _ I1 q) fun ov s2 zz1 => ?_
  obtain ⟨x, H2, I2, rx, a, C, dx, fs, ex, ea, c, n, l, q2⟩ := zz1
  subst ex
  obtain rfl : ov = Value.ref a := rx
  exact setattr_ok I2 ea c n l ry fun s3 I3 => ⟨σ, _, I3, q2⟩
theorem ps_fldaug {op : Operator} {rd : V → V → Hp → VK → Prop} (ha : PE X o ta) (hv : PE X value tv) (hop : InOp X op rd) : PS X (.AugAssign (.Attribute o f tpos) op value pos) (sFldAug X.K ta tv rd f) := by
  intro pins s σ H D I h
  refine wpAny_AugAssign_AttributeAny (thn (ha pins s σ H _ I h) fun ov s1 zz0 => ?_)
  obtain ⟨x, H1, I1, rx, a, C, dx, fs, v, ex, ea, c, n, l, q⟩ := zz0
  subst ex
  obtain rfl : ov = Value.ref a := rx
  refine getattr_ok I1 ea c n l fun u s2 I2 ru => thn (hv pins s2 σ H1 _ I2 q) fun w3 s3 zz0 => ?_
  refine el_2_3 zz0 ?_; clear zz0; intro y H2 I3 ry q3
  refine thn (hop pins s3 σ H2 v y u w3 _ I3 ru ry q3) fun w4 s4 zz1 => ?_
  obtain ⟨z, H3, I4, rz, dx', fs', ea', l', q4⟩ := zz1
  exact setattr_ok I4 ea' c n l' rz fun s5 I5 => ⟨σ, _, I5, q4⟩
noncomputable def rAdd : V → V → Hp → VK → Prop := fun x y H Q => ∃ i j, x = .int i ∧ y = .int j ∧ Q (.int (i + j)) H
theorem in_add : InOp X .Add rAdd := by
  intro pins s σ H x y u v Q I rx ry zr68
  refine el_2_3 zr68 ?_; clear zr68; intro i j zq69 zq70 q
  obtain rfl := zq69
  obtain rfl := zq70
  refine el_1_1 ((show ∃ t, u = Value.int i t from rx)) ?_; (try clear t); intro t zq71
  obtain rfl := zq71
  refine el_1_1 ((show ∃ t', v = Value.int j t' from ry)) ?_; (try clear t'); intro t' zq72
  obtain rfl := zq72
  exact PyProof.Rows.iadd_int ⟨.int (i + j), H, I.tok _, ⟨_, rfl⟩, q⟩
end
section
variable {X : Cx} {pins : List (Addr × Obj)} {σ : St} {H : Hp} {s : Shared} {A : Around} {E : Value → Shared → Prop} {Q : Value → Shared → Prop} {c : Value} {b : Bool}
end
end L2
namespace L2
open PySem PySem.Spec PyProof.Rows
structure Room (k : Nat) (A : Around) : Prop where
  hd : A.handled = none
  dp : A.depth + 3 * k + 5 < recursionLimit
  un : A.units + 16 * k + 200 < cLine
theorem Room.mono {j k : Nat} {A : Around} (r : Room k A) (h : j ≤ k) : Room j A := ⟨r.hd, by have := r.dp; (first | lia | omega), by have := r.un; (first | lia | omega)⟩
theorem Room.deeper {k : Nat} {A : Around} (r : Room (k + 1) A) (env : Env) : Room k (A.deeper env) :=
  ⟨r.hd, by have := r.dp; show A.depth + 1 + 3 * k + 5 < _; (first | lia | omega), by have := r.un; show A.units + 3 + 16 * k + 200 < _; (first | lia | omega)⟩
theorem make_depth {A : Around} {C : Addr} {us : List Value} {kw : List (Str × Value)} : (A.under (.builtin "type.__call__" ⟨.ref C :: us, kw⟩)).depth = A.depth + 1 := by
  first | rfl | simp [Around.under, Code.weight, Code.isCreation, Code.isGuard, Code.isCaller, Code.frames, Code.isFrame, guardIds]
theorem make_units {A : Around} {C : Addr} {us : List Value} {kw : List (Str × Value)} : (A.under (.builtin "type.__call__" ⟨.ref C :: us, kw⟩)).units = A.units + 1 := by
  first | rfl | simp [Around.under, Code.cUnits, Code.frames, Code.isFrame]
theorem Room.make {k : Nat} {A : Around} (r : Room (k + 1) A) (C : Addr) (us : List Value) (kw : List (Str × Value)) : Room k (A.under (.builtin "type.__call__" ⟨.ref C :: us, kw⟩)) :=
  ⟨r.hd, by have := r.dp; rw [make_depth]; (first | lia | omega), by have := r.un; rw [make_units]; (first | lia | omega)⟩
theorem Room.depth {k : Nat} {A : Around} (r : Room k A) : A.depth < recursionLimit := by have := r.dp; (first | lia | omega)
theorem Room.units {k : Nat} {A : Around} (r : Room k A) : A.units + 64 < cLine := by have := r.un; (first | lia | omega)
noncomputable def tNil : TA := fun _ H Q => Q [] H
noncomputable def tCons (ta : TE) (tr : TA) : TA := fun σ H Q => ta σ H fun x H1 => tr σ H1 fun xs H2 => Q (x :: xs) H2
section
variable {X : Cx} {e : Expr} {es : List Expr} {te : TE} {t : TA} {pos : Pos}
theorem pa_nil : PA X [] tNil := fun _ _ _ _ H Q I h => Calls.spliced_nil ⟨[], H, I, .nil, h⟩
theorem pa_cons (ha : PE X e te) (hr : PA X es t) (hs : starEach (e :: es) X.env = (false, eval e X.env) :: starEach es X.env := by rfl) : PA X (e :: es) (tCons te t) := by
  intro pos pins s σ H Q I h
  rw [hs]
  show wpAny _ _ (spliced ((false, eval e X.env) :: backTo pos (starEach es X.env))) _ _ s
  refine Calls.spliced_cons (thn (ha pins s σ H _ I h) fun u s1 zz0 => ?_)
  refine el_2_3 zz0 ?_; clear zz0; intro x H1 I1 r1 q1
  refine thn (hr pos pins s1 σ H1 _ I1 q1) fun us s2 zz0 => ?_
  refine el_2_3 zz0 ?_; clear zz0; intro xs H2 I2 r2 q2
  exact in_eecc (x :: xs) H2 I2 (.cons r1 r2) q2
noncomputable def tTup (t : TA) : TE := fun σ H Q => t σ H fun xs H1 => xs.length ≤ sizeLine ∧ ∀ p, H1 p = none → Q (.ref p) (upd H1 p (.tup xs))
noncomputable def tLst (t : TA) : TE := fun σ H Q => t σ H fun xs H1 => xs.length ≤ sizeLine ∧ ∀ p, H1 p = none → Q (.ref p) (upd H1 p (.lst xs))
theorem pe_tup {x1} (h : PA X es t) : PE X (.Tuple es x1 pos) (tTup t) := by
  intro pins s σ H Q I hq
  refine wpAny_Tuple_spliced (thn (h pos pins s σ H _ I hq) fun us s1 ⟨xs, H1, I1, r, z, q⟩ => ⟨by rw [← r.length]; exact z, ?_⟩)
  have hf : H1 s1.heap.objs.size = none := I1.hok.fresh (Nat.le_refl _)
  refine in_eecc (.ref s1.heap.objs.size) (upd H1 s1.heap.objs.size (.tup xs)) (I1.laid (t' := s1.toks) (fun b u e => Heap.get?_push_of_some _ e) (Nat.le_refl _) ?_) rfl (q _ hf)
  exact in_cec z us r (⟨_, Heap.get?_push_size _ rfl, rfl, _, rfl⟩)
theorem pe_lst (h : PA X es t) : PE X (.List es pos) (tLst t) := by
  intro pins s σ H Q I hq
  refine wpAny_List_spliced (thn (h pos pins s σ H _ I hq) fun us s1 ⟨xs, H1, I1, r, z, q⟩ => ⟨by rw [← r.length]; exact z, ?_⟩)
  have hf : H1 s1.heap.objs.size = none := I1.hok.fresh (Nat.le_refl _)
  refine in_eecc (.ref s1.heap.objs.size) (upd H1 s1.heap.objs.size (.lst xs)) (I1.laid (t' := s1.toks) (fun b u e => Heap.get?_push_of_some _ e) (Nat.le_refl _) ?_) rfl (q _ hf)
  exact in_ceec z us 0 r (Heap.get?_push_size _ rfl)
end
noncomputable abbrev Sp := List V → Hp → VK → XK → Prop
noncomputable abbrev CXT := List Env → Hp → Shared → XK → Value → Shared → Prop
structure Env0 (P : Program) (w : World) (K : PySem.W.Frag) (mg : Str → Option Value) (base : Heap) (A : Around) (outer : List Env) (s : Shared) (H : Hp) : Prop where
  frames : A.frames = some outer
  mod : Mod K mg base
  bs : ∀ b o, base.get? b = some o → s.heap.get? b = some o ∧ H b = none
  bsz : base.objs.size ≤ s.heap.objs.size
  funs : s.heap.FunFrames base outer
  frf : ∀ b ∈ frs outer, H b = none
  hok : HOk P w H s.heap
  bare : AllBare s.gens
noncomputable def CE (outer : List Env) (P : Program) (w : World) (H : Hp) (s : Shared) (Q : VK) (u : Value) (s' : Shared) : Prop :=
  ∃ v H', s'.os = s.os ∧ AllBare s'.gens ∧ Un (frs outer) [] H H' s.heap s'.heap ∧ HOk P w H' s'.heap ∧ RelV v u ∧ Q v H'
noncomputable def CR (CX : CXT) (outer : List Env) (P : Program) (w : World) (H : Hp) (s : Shared) (Q : VK) (E : XK) (r : Result) (s' : Shared) : Prop :=
  match r with
  | .ok (.ret u) => CE outer P w H s Q u s'
  | .ok _ => False
  | .error e => CX outer H s E e s'
structure FnOk (P : Program) (w : World) (K : PySem.W.Frag) (mg : Str → Option Value) (base : Heap) (CX : CXT) (k : Nat) (f : Addr) (fd : FuncData) (ps : List Str) (sp : Sp) : Prop where
  len : ∀ vs H Q E, sp vs H Q E → vs.length = ps.length
  run : ∀ (A : Around) (outer : List Env) (s : Shared) (H : Hp) (args : Args) (us : List Value) (vs : List V) (Q : VK) (E : XK), Room k A → Env0 P w K mg base A outer s H → BindsTo s fd args (ps.zip us) → Vals vs us → sp vs H Q E →
    codeAny (model P w) A (.call (.ref f) args) (CR CX outer P w H s Q E) s
theorem FnOk.mono {P : Program} {w : World} {K : PySem.W.Frag} {mg : Str → Option Value} {base : Heap} {CX : CXT} {j k : Nat} {f : Addr} {fd : FuncData} {ps : List Str} {sp : Sp} (F : FnOk P w K mg base CX j f fd ps sp) (h : j ≤ k) :
    FnOk P w K mg base CX k f fd ps sp := ⟨F.len, fun A outer s H args us vs Q E hr => F.run A outer s H args us vs Q E (hr.mono h)⟩
theorem FnOk.imp {P : Program} {w : World} {K : PySem.W.Frag} {mg : Str → Option Value} {base : Heap} {CX : CXT} {k : Nat} {f : Addr} {fd : FuncData} {ps : List Str} {sp sp' : Sp} (F : FnOk P w K mg base CX k f fd ps sp)
    (h : ∀ vs H Q E, sp' vs H Q E → sp vs H Q E) : FnOk P w K mg base CX k f fd ps sp' :=
  ⟨fun vs H Q E q => F.len vs H Q E (h _ _ _ _ q), fun A outer s H args us vs Q E hr he hb hv hs => F.run A outer s H args us vs Q E hr he hb hv (h _ _ _ _ hs)⟩
theorem Env0.make {P : Program} {w : World} {K : PySem.W.Frag} {mg : Str → Option Value} {base : Heap} {A : Around} {outer : List Env} {s : Shared} {H : Hp} (e : Env0 P w K mg base A outer s H) (C : Addr) (us : List Value) (kw : List (Str × Value)) :
    Env0 P w K mg base (A.under (.builtin "type.__call__" ⟨.ref C :: us, kw⟩)) outer s H := ⟨by first | exact e.frames | (simpa [Around.under, Code.envs, Code.isFrame, pushEnvs] using e.frames), e.mod, e.bs, e.bsz, e.funs, e.frf, e.hok, e.bare⟩
section
variable {X : Cx} {pins : List (Addr × Obj)} {σ : St} {H : Hp} {s s' : Shared}
theorem Inv.env0 (I : Inv X pins σ H s) : Env0 X.prog X.w X.K X.mg X.base X.A X.stack s H :=
  ⟨I.ok.frames, I.ok.mod, I.bs, Nat.le_trans I.ok.bsz I.sz, I.stack, I.stkFree, I.hok, I.bare⟩
theorem Inv.after {Q : VK} {u : Value} (I : Inv X pins σ H s) (h : CE X.stack X.prog X.w H s Q u s') : EP X pins σ Q u s' := by
  refine el_2_6 h ?_; clear h; intro v H' os bare un hok r q
  obtain ⟨hh, g, d, t, os'⟩ := s'
  obtain rfl : os' = s.os := os
  exact in_eecc v H' (I.call (h' := hh) (g' := g) (d' := d) (t' := t) (ch := []) un hok bare (fun b z => absurd z (by simp))) r q
end
noncomputable def tCall (sp : Sp) (dvs : List V) (E : XK) (t : TA) : TE := fun σ H Q => t σ H fun vs H1 => sp (vs ++ dvs) H1 Q E
noncomputable def tMeth (C : Addr) (m : Str) (sp : Sp) (dvs : List V) (E : XK) (ta : TE) (t : TA) : TE := fun σ H Q => ta σ H fun x H1 => ∃ a dx fs, x = .ref a ∧ H1 a = some (.ins C dx fs) ∧ fs.lookup m = none ∧
  t σ H1 fun vs H2 => sp (x :: (vs ++ dvs)) H2 Q E
noncomputable def tMake (C : Addr) (sp : Sp) (dvs : List V) (E : XK) (t : TA) : TE := fun σ H Q => t σ H fun vs H1 => ∀ x dx, H1 x = none → H1 dx = none → dx ≠ x →
  sp (.ref x :: (vs ++ dvs)) (upd (upd H1 dx (.own x)) x (.ins C dx [])) (fun v H2 => v = .non ∧ Q (.ref x) H2) E
noncomputable def Binds (K : PySem.W.Frag) (fd : FuncData) (ps : List Str) (ds : List Value) : Prop :=
  ∀ (s : Shared) (us : List Value), K.In s.heap → (us ++ ds).length = ps.length → BindsTo s fd ⟨us, []⟩ (ps.zip (us ++ ds))
theorem Binds.all {K : PySem.W.Frag} {fd : FuncData} {ps : List Str} (h : ∀ us : List Value, us.length = ps.length → bindArgs fd ⟨us, []⟩ = pure (ps.zip us)) : Binds K fd ps [] := fun s us _ hl => by
  rw [List.append_nil] at hl ⊢
  exact .of_eq (h us hl)
noncomputable def Passes (CX : CXT) (X : Cx) (E : XK) : Prop := ∀ (pins : List (Addr × Obj)) (σ : St) (H : Hp) (s : Shared) (e : Value) (s' : Shared), Inv X pins σ H s → CX X.stack H s E e s' → X.xe e s'
section
variable {X : Cx} {CX : CXT} {k : Nat} {f C : Addr} {fd : FuncData} {ps : List Str} {sp : Sp} {dvs : List V} {ds : List Value} {E : XK} {x m : Str} {p pos apos : Pos} {e o : Expr} {es : List Expr} {ta : TE} {t : TA}
theorem run_fn {pins : List (Addr × Obj)} {σ : St} {H : Hp} {s : Shared} {Q : VK} {us : List Value} {vs : List V} (F : FnOk X.prog X.w X.K X.mg X.base CX k f fd ps sp) (hr : Room k X.A) (hb : Binds X.K fd ps ds) (hd : Vals dvs ds) (hx : Passes CX X E)
    (I : Inv X pins σ H s) (r : Vals vs us) (h : sp (vs ++ dvs) H Q E) : wpAny (model X.prog X.w) X.A (call (.ref f) us) (EP X pins σ Q) X.xe s := by
  have r2 : Vals (vs ++ dvs) (us ++ ds) := r.append hd
  have hl : (us ++ ds).length = ps.length := by rw [← r2.length]; exact F.len _ _ _ _ h
  refine wpAny_call (codeAny_mono (F.run X.A X.stack s H ⟨us, []⟩ (us ++ ds) (vs ++ dvs) Q E hr I.env0 (hb s us I.kIn hl) r2 h) fun r s' hq => ?_)
  cases r with
  | error e => exact hx pins σ H s e s' I hq
  | ok fl =>
    cases fl with
    | ret u => exact I.after hq
    | next => exact False.elim hq
    | brk => exact False.elim hq
    | cont => exact False.elim hq
theorem pe_call (F : FnOk X.prog X.w X.K X.mg X.base CX k f fd ps sp) (hr : Room k X.A) (hg : Gl X x) (hm : X.mg x = some (.ref f)) (hk : PySem.W.keepIn X.K (.ref f) = true) (hb : Binds X.K fd ps ds) (hd : Vals dvs ds) (hx : Passes CX X E)
    (ha : PA X (e :: es) t) (hdb : (x == ("__debug__" : Str)) = false := by decide) (he : starEach (e :: es) X.env = (false, eval e X.env) :: starEach es X.env := by rfl) (hpl : (backTo pos (starEach es X.env)).any (·.1) = false := by rfl) :
    PE X (.Call (.Name x p) (e :: es) [] pos) (tCall sp dvs E t) := by
  intro pins s σ H Q I h
  refine wpAny_Call_Name_kw (ld_glob I hg hm ?_ hdb)
  refine PySem.W.callWith_K (h₀ := X.base) I.ok.mod.kin hk (thn (ha pos pins s σ H _ I h) fun us s1 zz0 => ?_) he hpl
  refine el_2_3 zz0 ?_; clear zz0; intro vs H1 I1 r q
  refine ⟨I1.kIn, ?_⟩
  exact run_fn F hr hb hd hx I1 r q
theorem pe_meth0 {pl : Sem Bool} (he : PE X o ta) (c : Cls X.K C) (hm : Meth X.K C m f) (F : FnOk X.prog X.w X.K X.mg X.base CX k f fd ps sp) (hr : Room k X.A) (hb : Binds X.K fd ps ds) (hd : Vals dvs ds) (hx : Passes CX X E)
    (ht : eval (.Call (.Attribute o m apos) [] [] pos) X.env = (do
      let ov ← eval o X.env
      standAt apos.atName
      let (f, first) ← holding [ov] (getMethod ov m pl)
      callWith pos f first (backTo pos (starEach [] X.env)) (backToKw pos (keywordEach [] X.env))) := by rfl) :
    PE X (.Call (.Attribute o m apos) [] [] pos) (tMeth C m sp dvs E ta tNil) := by
  intro pins s σ H Q I h
  refine PySem.W.methodCall_KW (pl := pl) (thn (he pins s σ H _ I h) fun u s1 zz0 => ?_) ht
  obtain ⟨x, H1, I1, rx, a, dx, fs, ex, ea, l, q⟩ := zz0
  subst ex
  obtain rfl : u = Value.ref a := rx
  refine getmeth_ok I1 ea c hm l ?_
  exact PySem.W.callWith_K0 (first := [.ref a]) I1.kIn hm.kp (run_fn (us := [.ref a]) (vs := [.ref a]) F hr hb hd hx I1 (.cons rfl .nil) q)
structure Mk (K : PySem.W.Frag) (C f : Addr) : Prop where
  makes : PySem.W.makesIn K C = true
  init : PySem.W.findIn K (.ref C) "__init__" = some (some (.ref f))
  fn : PySem.W.isFn K (.ref f) = true
  kp : PySem.W.keepIn K (.ref C) = true
theorem run_make {pins : List (Addr × Obj)} {σ : St} {H : Hp} {s : Shared} {Q : VK} {us : List Value} {vs : List V} (M : Mk X.K C f) (F : FnOk X.prog X.w X.K X.mg X.base CX k f fd ps sp) (hr : Room (k + 1) X.A) (hb : Binds X.K fd ps ds) (hd : Vals dvs ds)
    (hx : Passes CX X E) (I : Inv X pins σ H s) (r : Vals vs us)
    (h : ∀ x dx, H x = none → H dx = none → dx ≠ x → sp (.ref x :: (vs ++ dvs)) (upd (upd H dx (.own x)) x (.ins C dx [])) (fun v H2 => v = .non ∧ Q (.ref x) H2) E) :
    wpAny (model X.prog X.w) X.A (call (.ref C) us) (EP X pins σ Q) X.xe s := by
  have hq := h (s.heap.objs.size + 1) s.heap.objs.size (I.hok.fresh (Nat.le_succ _)) (I.hok.fresh (Nat.le_refl _)) (Nat.ne_of_lt (Nat.lt_succ_self _))
  have I2 := Inv.made (C := C) I
  have r2 : Vals (V.ref (s.heap.objs.size + 1) :: (vs ++ dvs)) (Value.ref (s.heap.objs.size + 1) :: (us ++ ds)) := .cons rfl (r.append hd)
  have hl : (Value.ref (s.heap.objs.size + 1) :: us ++ ds).length = ps.length := by
    have e := r2.length
    rw [F.len _ _ _ _ hq] at e
    exact e.symm
  refine wpAny_call (make_map (f := f) I.kIn M.makes M.init (beq_iff_eq.mp M.fn) (codeAny_mono (F.run _ X.stack _ _ ⟨Value.ref (s.heap.objs.size + 1) :: us, []⟩ (Value.ref (s.heap.objs.size + 1) :: (us ++ ds)) _ _ E (hr.make C us [])
    (I2.env0.make C us []) (hb _ (Value.ref (s.heap.objs.size + 1) :: us) I2.kIn hl) r2 hq) fun r s' hq' => ?_))
  cases r with
  | error e => exact hx pins σ _ _ e s' I2 hq'
  | ok fl =>
    cases fl with
    | ret u =>
      refine el_2_4 (I2.after hq') ?_; intro v H' I3 rv ev q3
      subst ev
      exact ⟨rv, ⟨V.ref (s.heap.objs.size + 1), H', I3, rfl, q3⟩⟩
    | next => exact False.elim hq'
    | brk => exact False.elim hq'
    | cont => exact False.elim hq'
theorem pe_make (M : Mk X.K C f) (F : FnOk X.prog X.w X.K X.mg X.base CX k f fd ps sp) (hr : Room (k + 1) X.A) (hg : Gl X x) (hm : X.mg x = some (.ref C)) (hb : Binds X.K fd ps ds) (hd : Vals dvs ds) (hx : Passes CX X E)
    (ha : PA X (e :: es) t) (hdb : (x == ("__debug__" : Str)) = false := by decide) (he : starEach (e :: es) X.env = (false, eval e X.env) :: starEach es X.env := by rfl) (hpl : (backTo pos (starEach es X.env)).any (·.1) = false := by rfl) :
    PE X (.Call (.Name x p) (e :: es) [] pos) (tMake C sp dvs E t) := by
  intro pins s σ H Q I h
  refine wpAny_Call_Name_kw (ld_glob I hg hm ?_ hdb)
  refine PySem.W.callWith_K (h₀ := X.base) I.ok.mod.kin M.kp (thn (ha pos pins s σ H _ I h) fun us s1 zz0 => ?_) he hpl
  refine el_2_3 zz0 ?_; clear zz0; intro vs H1 I1 r q
  refine ⟨I1.kIn, ?_⟩
  exact run_make M F hr hb hd hx I1 r q
end
section
variable {X : Cx} {CX : CXT} {k : Nat} {f C : Addr} {fd : FuncData} {ps ks : List Str} {sp : Sp} {E : XK} {x m : Str} {p pos apos kpos : Pos} {e o : Expr} {es : List Expr} {kws : List Keyword} {te ta : TE} {t tk : TA} {nm : Option Str}
variable {g : List Value → List Value → List Value} {gV : List V → List V → List V}
end
structure FnScope (N P : List Str) (sc : Scope) : Prop where
  kind : sc.kind = .function
  co : sc.isCoroutine = false
  gen : sc.isGenerator = false
  nd : N.Nodup
  pre : N.take P.length = P
  par : ∀ x ∈ P, sc.names.lookup x = some .local ∨ sc.names.lookup x = some .cell
  nofree : ∀ y ∈ sc.names, y.2 ≠ .free
theorem bindL_out {kindOf : Str → Option NameKind} {x : Str} : ∀ {binds : List (Str × Value)} {m : Str → Option Value}, (∀ v, (x, v) ∉ binds) → bindL kindOf binds m x = m x
  | [], _, _ => rfl
  | (n, v) :: r, m, h => by
    unfold bindL
    rw [bindL_out fun w hw => h w (List.mem_cons_of_mem _ hw)]
    split
    · have : x ≠ n := by rintro rfl; exact h v List.mem_cons_self
      simp [this]
    · rfl
theorem bindC_out {kindOf : Str → Option NameKind} {x : Str} : ∀ {binds : List (Str × Value)} {m : Str → Option Value}, (∀ v, (x, v) ∉ binds) → bindC kindOf binds m x = m x
  | [], _, _ => rfl
  | (n, v) :: r, m, h => by
    unfold bindC
    rw [bindC_out fun w hw => h w (List.mem_cons_of_mem _ hw)]
    split
    · rfl
    · have : x ≠ n := by rintro rfl; exact h v List.mem_cons_self
      simp [this]
theorem bindL_get {kindOf : Str → Option NameKind} {x : Str} {v : Value} : ∀ {P : List Str} {vs : List Value} {i : Nat} {m : Str → Option Value}, P.Nodup → P[i]? = some x → vs[i]? = some v → kindOf x = some .local →
    bindL kindOf (P.zip vs) m x = some v
  | [], _, _, _, _, h, _, _ => by simp at h
  | _ :: _, [], _, _, _, _, h, _ => by simp at h
  | p :: P, w :: vs, 0, m, nd, h1, h2, hk => by
    simp at h1 h2; subst h1; subst h2
    show bindL kindOf ((p, w) :: P.zip vs) m p = _
    unfold bindL
    rw [bindL_out fun v hv => (List.nodup_cons.mp nd).1 (List.of_mem_zip hv).1, if_pos hk]
    simp
  | p :: P, w :: vs, i + 1, m, nd, h1, h2, hk => by
    show bindL kindOf ((p, w) :: P.zip vs) m x = _
    unfold bindL
    exact bindL_get (i := i) (List.nodup_cons.mp nd).2 (by simpa using h1) (by simpa using h2) hk
theorem bindC_get {kindOf : Str → Option NameKind} {x : Str} {v : Value} : ∀ {P : List Str} {vs : List Value} {i : Nat} {m : Str → Option Value}, P.Nodup → P[i]? = some x → vs[i]? = some v → kindOf x ≠ some .local →
    bindC kindOf (P.zip vs) m x = some v
  | [], _, _, _, _, h, _, _ => by simp at h
  | _ :: _, [], _, _, _, _, h, _ => by simp at h
  | p :: P, w :: vs, 0, m, nd, h1, h2, hk => by
    simp at h1 h2; subst h1; subst h2
    show bindC kindOf ((p, w) :: P.zip vs) m p = _
    unfold bindC
    rw [bindC_out fun v hv => (List.nodup_cons.mp nd).1 (List.of_mem_zip hv).1, if_neg hk]
    simp
  | p :: P, w :: vs, i + 1, m, nd, h1, h2, hk => by
    show bindC kindOf ((p, w) :: P.zip vs) m x = _
    unfold bindC
    exact bindC_get (i := i) (List.nodup_cons.mp nd).2 (by simpa using h1) (by simpa using h2) hk
noncomputable def start (N : List Str) (vs : List V) : St := vs.map some ++ List.replicate (N.length - vs.length) none
noncomputable def cxOf (CX : CXT) (P : Program) (w : World) (K : PySem.W.Frag) (mg : Str → Option Value) (base : Heap) (N : List Str) (qual : Str) (scope : Scope) (f : Addr) (cd : Value) (A : Around) (outer : List Env) (s : Shared) (H : Hp) (E : XK) : Cx where
  prog := P
  w := w
  K := K
  mg := mg
  base := base
  A := A.deeper (envOfC qual scope s.heap.objs.size f cd)
  N := N
  s₀ := s
  H₀ := H
  env := envOfC qual scope s.heap.objs.size f cd
  outer := outer
  stack := envOfC qual scope s.heap.objs.size f cd :: outer
  ex := []
  calm := true
  fn := fun _ => true
  pn := []
  xe := fun e s' => wpAny (model P w) (A.deeper (envOfC qual scope s.heap.objs.size f cd)) (leaving (envOfC qual scope s.heap.objs.size f cd) e) (fun _ s'' => CX outer H s E e s'') (fun e' s'' => CX outer H s E e' s'') s'
theorem cell_has {sc : Scope} {n : Nat} {x : Str} (h : sc.names.lookup x = some .cell) : ∃ c, (cellsFrom n sc.names []).lookup x = some c := by
  have q := PySem.W.cellsFrom_some sc.names n [] (.inl h)
  exact Option.isSome_iff_exists.mp q
theorem inv_start {CX : CXT} {P : Program} {w : World} {K : PySem.W.Frag} {mg : Str → Option Value} {base : Heap} {N ps : List Str} {qual : Str} {scope : Scope} {f : Addr} {cd : Value} {A : Around} {outer : List Env} {s s1 : Shared} {H : Hp} {E : XK} {us : List Value} {vs : List V}
    (S : FnScope N ps scope) (hd : A.handled = none) (e0 : Env0 P w K mg base A outer s H) (hl : vs.length = ps.length) (r : Vals vs us)
    (x : InCallC s s.heap.objs.size (bindL (envOfC qual scope s.heap.objs.size f cd).kindOf (ps.zip us) fun _ => none) (cellsFrom (s.heap.objs.size + 1) scope.names []) (bindC (envOfC qual scope s.heap.objs.size f cd).kindOf (ps.zip us) fun _ => none) s1) :
    Inv (cxOf CX P w K mg base N qual scope f cd A outer s H E) [] (start N vs) H s1 := by
  have hpl : ps.length ≤ N.length := by have := congrArg List.length S.pre; rw [List.length_take] at this; (first | lia | omega)
  refine el_2_2 (x.done) ?_; intro h1 tk zq73 hk
  obtain rfl := zq73
  have noA : ∀ b : Addr, b ∉ (cxOf CX P w K mg base N qual scope f cd A outer s H E).ex := fun b z => absurd (show b ∈ ([] : List Addr) from z) (by simp)
  refine ⟨⟨e0.mod, S.kind, rfl, rfl, Nat.le_refl _, fun y z c h1 h2 => ?_, fun y hy => ?_, fun y c _ h => ?_, fun _ => hd, Around.frames_deeper e0.frames, .inr ⟨rfl, rfl⟩, fun b z => absurd z (noA b), e0.bs, e0.bsz, fun b _ _ => noA b, fun b z => absurd z (noA b), e0.funs, e0.frf⟩,
    rfl, e0.bare, Un.kept hk, ⟨_, x.toInCall.ns, fun i y v h1 h2 h3 => ?_⟩, fun y c h => ⟨_, x.cell y c h⟩, e0.hok.fresh (Nat.le_refl _), fun y c h => ?_, fun p hp => absurd (show p ∈ ([] : List (Addr × Obj)) from hp) (by simp), e0.hok.kept hk, ?_⟩
  · exact name_of_addr x.apart (PySem.mem_of_lookup h1) (PySem.mem_of_lookup h2)
  · have hy : scope.names.lookup y = some .cell ∨ scope.names.lookup y = some .free := hy
    rcases hy with hy | hy
    · exact cell_has hy
    · exact absurd rfl (S.nofree _ (PySem.mem_of_lookup hy))
  · exact Nat.le_of_lt (x.above y c (PySem.mem_of_lookup h))
  · have hi : i < vs.length := by
      unfold start at h2
      by_cases hi : i < vs.length
      · exact hi
      · rw [List.getElem?_append_right (by simpa using hi)] at h2
        rw [List.getElem?_replicate] at h2
        split at h2 <;> cases h2
    have ha : vs[i]? = some v := by
      unfold start at h2
      rw [List.getElem?_append_left (by simpa using hi), List.getElem?_map] at h2
      cases e : vs[i]? with
      | none => rw [e] at h2; cases h2
      | some a => rw [e] at h2; cases h2; rfl
    refine el_1_2 (r.get ha) ?_; intro u hu rv
    have hp : ps[i]? = some y := by
      rw [← S.pre, List.getElem?_take_of_lt (by (first | lia | omega))]; exact h1
    have ndP : ps.Nodup := by rw [← S.pre]; exact S.nd.sublist (List.take_sublist _ _)
    refine in_ec u rv ?_
    rcases S.par y (List.mem_of_getElem? hp) with k | k
    · exact .inl ⟨k, bindL_get ndP hp hu k⟩
    · refine el_1_1 (cell_has (n := s.heap.objs.size + 1) k) ?_; intro c e
      refine .inr ⟨.inl k, c, e, ?_⟩
      have q := x.cell y c e
      rw [bindC_get ndP hp hu (by show scope.names.lookup y ≠ _; rw [k]; decide)] at q
      exact q
  · exact e0.hok.fresh (Nat.le_of_lt (x.above y c (PySem.mem_of_lookup h)))
  · unfold start
    show _ = N.length
    rw [List.length_append, List.length_map, List.length_replicate]
    (first | lia | omega)
theorem fn_of {CX : CXT} {P : Program} {w : World} {K : PySem.W.Frag} {mg : Str → Option Value} {base : Heap} {k : Nat} {f : Addr} {name qual : Str} {params : Arguments} {body : List Stmt} {scope : Scope} {dV kV doc pm cdv ct oc : Value} {an od : Option Addr}
    {osl : Array (Option Value)} {N ps : List Str} {sp : Sp} (lk : K.lookup f = some ⟨oc, od, .func (PySem.W.fnOf name qual params body scope dV kV doc pm an cdv ct), osl⟩) (hcd : PySem.W.codeIn K cdv qual = true) (S : FnScope N ps scope)
    (len : ∀ vs H Q E, sp vs H Q E → vs.length = ps.length)
    (hbody : ∀ (A : Around) (outer : List Env) (s : Shared) (H : Hp) (vs : List V) (Q : VK) (E : XK), Room k (A.deeper (envOfC qual scope s.heap.objs.size f cdv)) → sp vs H Q E →
      ∃ t, PSs (cxOf CX P w K mg base N qual scope f cdv A outer s H E) body t ∧ t { nx := fun _ H' => Q .non H', rt := Q } (start N vs) H) :
    FnOk P w K mg base CX (k + 1) f (PySem.W.fnOf name qual params body scope dV kV doc pm an cdv ct) ps sp := by
  refine ⟨len, fun A outer s H args us vs Q E hr e0 hb r hsp => ?_⟩
  have hl := len _ _ _ _ hsp
  have KX : K.In s.heap := e0.mod.kin.keeps fun b o e => (e0.bs b o e).1
  have lim : s.heap.NoLimit := e0.mod.nolimit.keeps fun b o e => (e0.bs b o e).1
  have hkind : ∀ y ∈ ps.zip us, scope.names.lookup y.1 = some .local ∨ (scope.names.lookup y.1 = some .cell ∧ ((cellsFrom (s.heap.objs.size + 1) scope.names []).lookup y.1).isSome = true) := fun ⟨n, v⟩ hy => by
    rcases S.par n (List.of_mem_zip hy).1 with q | q
    · exact .inl q
    · exact .inr ⟨q, PySem.W.cellsFrom_some _ _ _ (.inl q)⟩
  refine codeAny_call_function hr.depth (KX _ _ lk) rfl S.co S.gen rfl (PySem.W.codeRec_of KX hcd) (hb _ _ _ _ ?_)
  refine wpAny_newFunctionEnv_cells S.kind hkind fun env he s1 x => ?_
  subst he
  refine ⟨lim.keeps x.toInCall.keep, codeAny_func ?_⟩
  refine el_1_2 (hbody A outer s H vs Q E (hr.deeper _) hsp) ?_; intro t ht hq
  have I : Inv (cxOf CX P w K mg base N qual scope f cdv A outer s H E) [] (start N vs) H s1 := inv_start S hr.hd e0 hl r x
  refine wpAny_mono (ht [] s1 (start N vs) H _ I hq) (fun fl s' hs => ?_) fun e s' hs => hs
  have fin : ∀ {σ' : St} {H' : Hp} {v : V} {u : Value}, Inv (cxOf CX P w K mg base N qual scope f cdv A outer s H E) [] σ' H' s' → RelV v u → Q v H' → CE outer P w H s Q u s' :=
    fun {σ' H' v u} J rv q => ⟨v, H', J.os, J.bare, J.base, J.hok, rv, q⟩
  cases fl with
  | ret u =>
    refine el_3_3 hs ?_; clear hs; intro v σ' H' J rv q
    exact fin J rv q
  | next =>
    refine el_2_2 hs ?_; clear hs; intro σ' H' J q
    exact fin (v := V.non) (u := Value.none) J rfl q
  | brk =>
    refine el_2_2 hs ?_; clear hs; intro _ _ _ q
    exact False.elim q
  | cont =>
    refine el_2_2 hs ?_; clear hs; intro _ _ _ q
    exact False.elim q
end L2
namespace L2
open PySem PySem.Spec PyProof.Rows
section
variable {X : Cx} {x : Str} {p pos : Pos} {e : Expr} {es : List Expr} {t : TA} {id T : String} {r : List V → Hp → VK → Prop}
noncomputable def tCB (r : List V → Hp → VK → Prop) (t : TA) : TE := fun σ H Q => t σ H fun vs H1 => r vs H1 Q
theorem pe_callB (hc : CallR X (.builtin id) r) (hg : Gl X x) (hm : X.mg x = none) (hv : bootBuiltins x = some (.builtin id)) (ha : PA X (e :: es) t) (hn : x ≠ "__name__" := by decide) (hdb : (x == ("__debug__" : Str)) = false := by decide)
    (he : starEach (e :: es) X.env = (false, eval e X.env) :: starEach es X.env := by rfl) (hpl : (backTo pos (starEach es X.env)).any (·.1) = false := by rfl) : PE X (.Call (.Name x p) (e :: es) [] pos) (tCB r t) := by
  intro pins s σ H Q I h
  refine wpAny_Call_Name_kw (ld_blt I hg hm hv ?_ hn hdb)
  refine PyProof.Rows.callWith_builtin1 (thn (ha pos pins s σ H _ I h) fun us s1 zz0 => ?_) he hpl
  refine el_2_3 zz0 ?_; clear zz0; intro vs H1 I1 r1 q1
  exact hc pins s1 σ H1 vs us Q I1 r1 q1
theorem pe_callTy (hc : CallR X (.type T) r) (hg : Gl X x) (hm : X.mg x = none) (hv : bootBuiltins x = some (.type T)) (ha : PA X (e :: es) t) (hn : x ≠ "__name__" := by decide) (hdb : (x == ("__debug__" : Str)) = false := by decide)
    (he : starEach (e :: es) X.env = (false, eval e X.env) :: starEach es X.env := by rfl) (hpl : (backTo pos (starEach es X.env)).any (·.1) = false := by rfl) : PE X (.Call (.Name x p) (e :: es) [] pos) (tCB r t) := by
  intro pins s σ H Q I h
  refine wpAny_Call_Name_kw (ld_blt I hg hm hv ?_ hn hdb)
  refine PyProof.Rows.callWith_type1 (thn (ha pos pins s σ H _ I h) fun us s1 zz0 => ?_) he hpl
  refine el_2_3 zz0 ?_; clear zz0; intro vs H1 I1 r1 q1
  exact hc pins s1 σ H1 vs us Q I1 r1 q1
end
end L2
namespace HT
open PySem PyProof.Rows
section
open PySem.SeqAt
open PySem.AutoSeq1 (wpAny_loadPart')
open PySem.MeetsSeq PySem.MeetsSeq2 PySem.MeetsSeq3
end
section
variable {prog : Program} {w : World} {A : Around} {E : Value → Shared → Prop} {s : Shared}
theorem cat_tup {t b : Addr} {vs ws : List Value} {Q : Value → Shared → Prop} (ht : IsTup s.heap t vs.toArray) (hb : IsTup s.heap b ws.toArray) (hv : vs ≠ [])
    (h1 : ws = [] → Q (.ref t) s) (h2 : ws ≠ [] → Q (.ref s.heap.objs.size) { s with heap := s.heap.push { cls := .type "tuple", data := .seq (vs ++ ws).toArray } })
    (hsz : vs.length + ws.length ≤ sizeLine) : wpAny (model prog w) A (binaryOp .Add (.ref t) (.ref b)) Q E s := by
  obtain ⟨⟨cls, dd, data, sl⟩, ho, hc, n, hd⟩ := id ht
  obtain ⟨⟨cls2, dd2, data2, sl2⟩, ho2, hc2, n2, hd2⟩ := id hb
  simp only at hc hd hc2 hd2
  subst hc hd hc2 hd2
  have e : vs.toArray ++ ws.toArray = (vs ++ ws).toArray := by simp
  by_cases hw : ws = []
  · exact concat_meets ⟨_, ho, rfl⟩ ⟨_, ho2, rfl⟩ noFill_tuple_add seq_tuple_add PySem.F.slot_tuple_add PySem.F.entry_tuple_add (PySem.F.args_tuple_add_2 _ _)
      (tuple_addW1 t b vs.toArray ws.toArray n n2 dd dd2 sl sl2 (by simpa using hv) (by simp [hw])) ⟨ho, ho2, h1 hw⟩
  · refine concat_meets ⟨_, ho, rfl⟩ ⟨_, ho2, rfl⟩ noFill_tuple_add seq_tuple_add PySem.F.slot_tuple_add PySem.F.entry_tuple_add (PySem.F.args_tuple_add_2 _ _)
      (tuple_addW2 t b vs.toArray ws.toArray n n2 dd dd2 sl sl2 (by simpa using hv) (by simpa using hw) (by rw [List.size_toArray, List.size_toArray]; exact hsz)) ⟨ho, ho2, ?_⟩
    rw [e]
    exact h2 hw
noncomputable def sIx (n d : Nat) : Option Int → Nat
  | none => d
  | some v => if v < 0 then (v + (n : Int)).toNat else min v.toNat n
theorem sIx_nat (n d k : Nat) : sIx n d (some (k : Int)) = min k n := by
  show (if (k : Int) < 0 then ((k : Int) + (n : Int)).toNat else min (k : Int).toNat n) = min k n
  rw [if_neg (by (first | lia | omega)), Int.toNat_natCast]
theorem sIx_le (n d : Nat) (hd : d ≤ n) (o : Option Int) : sIx n d o ≤ n := by
  cases o with
  | none => exact hd
  | some v =>
    show (if v < 0 then (v + (n : Int)).toNat else min v.toNat n) ≤ n
    by_cases hv : v < 0
    · rw [if_pos hv]; (first | lia | omega)
    · rw [if_neg hv]; exact Nat.min_le_right _ _
theorem clip_eq (v : Int) (n d : Nat) : (if v < 0 then max (v + (n : Int)) 0 else min v (n : Int)) = ((sIx n d (some v) : Nat) : Int) := by
  show (if v < 0 then max (v + (n : Int)) 0 else min v (n : Int)) = (((if v < 0 then (v + (n : Int)).toNat else min v.toNat n) : Nat) : Int)
  by_cases hv : v < 0
  · simp only [if_pos hv]; (first | lia | omega)
  · simp only [if_neg hv]; (first | lia | omega)
theorem adjust_gen (lo hi : Option Int) (n : Nat) : Builtin.Slice.sliceAdjust lo hi 1 (n : Int) = (((sIx n 0 lo : Nat) : Int), ((sIx n n hi : Nat) : Int)) := by
  have h1 : ¬ ((1 : Int) < 0) := by (first | lia | omega)
  unfold Builtin.Slice.sliceAdjust
  simp only [h1, if_false]
  refine Prod.ext ?_ ?_
  · cases lo with
    | none => rfl
    | some v => exact clip_eq v n 0
  · cases hi with
    | none => rfl
    | some v => exact clip_eq v n n
theorem places_gen (i j : Nat) : Builtin.Slice.slicePlaces (i : Int) (j : Int) 1 = j - i := by
  unfold Builtin.Slice.slicePlaces
  have h1 : (1 : Int) > 0 := by (first | lia | omega)
  simp only [h1, if_true, Int.ediv_one]
  split <;> (first | lia | omega)
theorem slicePart_ {v : Value} {o : Option Int} {Q : Option Int → Shared → Prop} (p : IsPart v o) (h : Q o s) : wpAny (model prog w) A (Builtin.Slice.slicePartIndex v) Q E s := by
  cases p with
  | none => exact slicePart_none h
  | int i t => exact slicePart_int h
theorem sliceApplied_gen {sl : Addr} {vl vu : Value} {lo hi : Option Int} {n : Nat} {Q : Int × Int × Nat → Shared → Prop} (hs : s.heap.IsSliceOf sl vl vu .none) (pl : IsPart vl lo) (pu : IsPart vu hi)
    (h : Q (((sIx n 0 lo : Nat) : Int), 1, sIx n n hi - sIx n 0 lo) s) : wpAny (model prog w) A (Builtin.Slice.sliceApplied (.ref sl) (pure (n : Int))) Q E s := by
  refine el_1_3 (id hs) ?_; intro os hos hcs hds
  unfold Builtin.Slice.sliceApplied Builtin.Slice.sliceFields
  refine wpAny_bind (wpAny_bind (wpAny_field hos hds (x := vl) rfl (wpAny_bind (wpAny_field hos hds (x := vu) rfl (wpAny_bind (wpAny_field hos hds (x := .none) rfl (wpAny_pure ?_)))))))
  refine wpAny_bind (slicePart_none ?_)
  show wpAny _ _ (if ((1 : Int) == 0) = true then _ else _) _ _ s
  rw [if_neg (by decide)]
  refine wpAny_bind (slicePart_ pl (wpAny_bind (slicePart_ pu (wpAny_bind (wpAny_pure ?_)))))
  show wpAny _ _ (match Builtin.Slice.sliceAdjust lo hi 1 (n : Int) with | (lo, hi) => pure (lo, (1 : Int), Builtin.Slice.slicePlaces lo hi 1)) _ _ s
  rw [adjust_gen lo hi n]
  show wpAny _ _ (pure (((sIx n 0 lo : Nat) : Int), (1 : Int), Builtin.Slice.slicePlaces ((sIx n 0 lo : Nat) : Int) ((sIx n n hi : Nat) : Int) 1)) _ _ s
  rw [places_gen]
  exact wpAny_pure h
theorem pick_gen (xs : Array Value) (i k : Nat) : ((List.range k).filterMap fun (m : Nat) => xs[((i : Int) + (m : Int) * 1).toNat]?).toArray = ((xs.toList.drop i).take k).toArray := by
  have e : (fun (m : Nat) => xs[((i : Int) + (m : Int) * 1).toNat]?) = fun m => xs[i + m]? := by
    funext m
    have : ((i : Int) + (m : Int) * 1).toNat = i + m := by (first | lia | omega)
    rw [this]
  rw [e]
  have := pick_run xs i k
  rw [List.filterMap_map] at this
  have e2 : ((fun x => xs[x]?) ∘ fun x => i + x) = fun m => xs[i + m]? := rfl
  rw [e2] at this
  rw [this]
theorem getItem_tuple_cut {t sl : Addr} {items : Array Value} {vl vu : Value} {lo hi : Option Int} {Q : Value → Shared → Prop} (ht : IsTup s.heap t items) (hs : s.heap.IsSliceOf sl vl vu .none) (pl : IsPart vl lo) (pu : IsPart vu hi)
    (hw : ¬ (sIx items.size 0 lo = 0 ∧ sIx items.size items.size hi = items.size))
    (h : Q (.ref s.heap.objs.size) { s with heap := s.heap.push { cls := .type "tuple", data := .seq ((items.toList.drop (sIx items.size 0 lo)).take (sIx items.size items.size hi - sIx items.size 0 lo)).toArray } })
    (hsz : items.size ≤ sizeLine) : wpAny (model prog w) A (getItem (.ref t) (.ref sl)) Q E s := by
  have htake : sizeOk (.seq ((items.toList.drop (sIx items.size 0 lo)).take (sIx items.size items.size hi - sIx items.size 0 lo)).toArray) := by
    show ((items.toList.drop (sIx items.size 0 lo)).take (sIx items.size items.size hi - sIx items.size 0 lo)).toArray.size ≤ sizeLine
    rw [List.size_toArray, List.length_take, List.length_drop, Array.length_toList]
    (first | lia | omega)
  have hj : sIx items.size items.size hi ≤ items.size := sIx_le _ _ (Nat.le_refl _) hi
  refine el_1_3 (id hs) ?_; intro os hos hcs hds
  have hTs : s.TypeIs (.ref sl) "slice" := ⟨os, hos, hcs⟩
  unfold getItem
  try with_reducible refine wpAny_holding ?_
  first | refine wpAny_bind (wpAny_pure ?_) | skip
  refine wpAny_bind (wpAny_sequenceKey ht.typeIs (by decide) ?_)
  refine wpAny_bind (wpAny_callSpecial?_slot (name := Str.ofString "__getitem__") ht.typeIs PyProof.Rows.slot_tuple_getitem
    (wpAny_call_entry PyProof.Rows.slot_tuple_getitem ht.typeIs entry_tuple_getitem ?_ (args_tuple_getitem _ _)))
  show wpAny _ _ (Builtin.Tuple.tupleItemsOf (.ref t) >>= _) _ _ s
  refine wpAny_bind (tupleItemsOf_ ht ?_)
  refine wpAny_bind (wpAny_typeOf hTs ?_)
  rw [if_pos (by decide)]
  refine wpAny_bind (sliceApplied_gen hs pl pu ?_)
  have hno : ¬ ((((sIx items.size 0 lo : Nat) : Int) == 0 && (1 : Int) == 1 && (sIx items.size items.size hi - sIx items.size 0 lo) == items.size) = true) := by
    intro q
    rw [Bool.and_eq_true, Bool.and_eq_true] at q
    have q1 : ((sIx items.size 0 lo : Nat) : Int) = 0 := eq_of_beq q.1.1
    have q2 : sIx items.size items.size hi - sIx items.size 0 lo = items.size := eq_of_beq q.2
    exact hw ⟨by (first | lia | omega), by (first | lia | omega)⟩
  show wpAny _ _ (if (((sIx items.size 0 lo : Nat) : Int) == 0 && (1 : Int) == 1 && (sIx items.size items.size hi - sIx items.size 0 lo) == items.size) = true then _ else _) _ _ s
  rw [if_neg hno, pick_gen]
  first
    | exact wpAny_bind (m := Builtin.Tuple.tupleExact _) (wpAny_newObj_type (wpAny_pure ⟨_, rfl, wpAny_pure h⟩) htake)
    | exact wpAny_bind (m := Builtin.Tuple.tupleExact _) (wpAny_newObj_type (wpAny_bind (wpAny_pure (wpAny_pure ⟨_, rfl, wpAny_pure h⟩))) htake)
    | exact wpAny_bind (wpAny_bind (m := Builtin.Tuple.tupleExact _) (wpAny_newObj_type (wpAny_pure (wpAny_pure ⟨_, rfl, wpAny_pure h⟩)) htake))
    | exact wpAny_bind (wpAny_bind (m := Builtin.Tuple.tupleExact _) (wpAny_newObj_type (wpAny_pure ⟨_, rfl, wpAny_pure h⟩) htake))
end
end HT
namespace L2
open PySem PySem.Spec PyProof.Rows
noncomputable abbrev TO := St → Hp → (Option Int → Hp → Prop) → Prop
noncomputable def PO (X : Cx) (e : Option Expr) (t : TO) : Prop :=
  ∀ (pins : List (Addr × Obj)) (s : Shared) (σ : St) (H : Hp) (Q : Option Int → Hp → Prop), Inv X pins σ H s → t σ H Q →
    wpAny (model X.prog X.w) X.A (evalPart e X.env) (fun u s' => ∃ o H', Inv X pins σ H' s' ∧ IsPart u o ∧ Q o H') X.xe s
noncomputable def tNoPart : TO := fun _ H Q => Q none H
noncomputable def tPart (t : TE) : TO := fun σ H Q => t σ H fun x H1 => ∃ i, x = .int i ∧ Q (some i) H1
section
variable {X : Cx} {e : Expr} {te : TE} {lo hi : Option Expr} {tl th : TO} {pos p2 : Pos}
theorem po_none : PO X none tNoPart := by
  intro pins s σ H Q I h
  rw [evalPart_none]
  exact wpAny_pure ⟨none, H, I, .none, h⟩
theorem po_some (h : PE X e te) : PO X (some e) (tPart te) := by
  intro pins s σ H Q I hw
  rw [evalPart_some]
  refine thn (h pins s σ H _ I hw) fun u s1 zz0 => ?_
  refine el_2_3 zz0 ?_; clear zz0; intro x H1 I1 r1 q1
  refine el_1_2 q1 ?_; clear q1; intro i zq74 q
  obtain rfl := zq74
  refine el_1_1 r1 ?_; clear r1; intro t zq75
  obtain rfl := zq75
  exact in_eecc (some i) H1 I1 (.int i t) q
noncomputable def SlR (X : Cx) (r : V → Option Int → Option Int → Hp → VK → Prop) : Prop :=
  ∀ (pins : List (Addr × Obj)) (s : Shared) (σ : St) (H : Hp) (x : V) (v vl vu : Value) (lo hi : Option Int) (sl : Addr) (Q : VK), Inv X pins σ H s → RelV x v → s.heap.IsSliceOf sl vl vu .none → IsPart vl lo → IsPart vu hi → r x lo hi H Q →
    ∃ T id, typeLookup (.type T) "__getitem__" = pure (some (.builtin id)) ∧ s.TypeIs v T ∧ wpAny (model X.prog X.w) X.A (getItem v (.ref sl)) (EP X pins σ Q) X.xe s
noncomputable def tSl (r : V → Option Int → Option Int → Hp → VK → Prop) (te : TE) (tl th : TO) : TE := fun σ H Q => te σ H fun x H1 => tl σ H1 fun l H2 => th σ H2 fun u H3 => r x l u H3 Q
theorem pe_slice {r : V → Option Int → Option Int → Hp → VK → Prop} (hr : SlR X r) (he : PE X e te) (hl : PO X lo tl) (hu : PO X hi th) : PE X (.Subscript e (.Slice lo hi none p2) pos) (tSl r te tl th) := by
  intro pins s σ H Q I h
  refine Subscript_ (thn (he pins s σ H _ I h) fun v s1 zz0 => ?_)
  refine el_2_3 zz0 ?_; clear zz0; intro x H1 I1 r1 q1
  refine wpAny_Slice (thn (hl pins s1 σ H1 _ I1 q1) fun vl s2 zz0 => ?_)
  refine el_2_3 zz0 ?_; clear zz0; intro l H2 I2 pl q2
  refine thn (hu pins s2 σ H2 _ I2 q2) fun vu s3 zz1 => ?_
  refine el_2_3 zz1 ?_; clear zz1; intro u H3 I3 pu q3
  rw [evalPart_none]
  refine wpAny_pure ?_
  have I4 : Inv X pins σ H3 { s3 with heap := s3.heap.push { cls := .type "slice", data := .fields #[vl, vu, .none] } } := I3.kept (t' := s3.toks) fun b ob q => Heap.get?_push_of_some _ q
  refine el_2_3 (hr pins { s3 with heap := s3.heap.push { cls := .type "slice", data := .fields #[vl, vu, .none] } } σ H3 x v vl vu l u s3.heap.objs.size Q I4 r1 (Heap.IsSliceOf.new ..) pl pu q3) ?_; intro T id hT ht hg
  show wpAny (model X.prog X.w) X.A (subscriptTail e (.Slice lo hi none p2) v (.ref s3.heap.objs.size)) (EP X pins σ Q) X.xe { s3 with heap := s3.heap.push { cls := .type "slice", data := .fields #[vl, vu, .none] } }
  exact tail_any (ops := [.ref s3.heap.objs.size, v]) ht hT hg (by with_unfolding_all rfl)
noncomputable def cutV (xs : List V) (lo hi : Option Int) : List V := (xs.drop (HT.sIx xs.length 0 lo)).take (HT.sIx xs.length xs.length hi - HT.sIx xs.length 0 lo)
theorem cutV_length (xs : List V) (lo hi : Option Int) : (cutV xs lo hi).length ≤ xs.length := by
  unfold cutV
  rw [List.length_take, List.length_drop]
  (first | lia | omega)
noncomputable def rSlT (K : PySem.W.Frag) : V → Option Int → Option Int → Hp → VK → Prop := fun x lo hi H Q => ∃ a xs, x = .ref a ∧ SqT K H a xs ∧
  ¬ (HT.sIx xs.length 0 lo = 0 ∧ HT.sIx xs.length xs.length hi = xs.length) ∧ ∀ p, H p = none → Q (.ref p) (upd H p (.tup (cutV xs lo hi)))
theorem sl_tup : SlR X (rSlT X.K) := by
  intro pins s σ H x v vl vu lo hi sl Q I rx hs pl pu h
  refine el_2_4 h ?_; clear h; intro a xs zq76 hx hw q
  obtain rfl := zq76
  cases rx
  refine el_1_3 (I.tuple hx) ?_; intro its r ht hz
  have hlen : its.toArray.size = xs.length := by rw [List.size_toArray]; exact r.length.symm
  refine in_eecc ("tuple") _ PyProof.Rows.slot_tuple_getitem.lookup ht.typeIs ?_
  refine HT.getItem_tuple_cut ht hs pl pu (by rw [hlen]; exact hw) ?_ (by rw [hlen]; exact hz)
  rw [hlen]
  refine in_eecc (.ref s.heap.objs.size) _ (I.laid (t' := s.toks) (o := .tup (cutV xs lo hi)) (fun b ob q => Heap.get?_push_of_some _ q) (Nat.le_refl _) ?_) rfl (q _ (I.hok.fresh (Nat.le_refl _)))
  exact in_cec (Nat.le_trans (cutV_length xs lo hi) hz) _ ((r.drop (HT.sIx xs.length 0 lo)).take (HT.sIx xs.length xs.length hi - HT.sIx xs.length 0 lo)) (IsTup.new _ _)
noncomputable def rCatT (K : PySem.W.Frag) : R2 := fun x y H Q => ∃ a b xs ys, x = .ref a ∧ y = .ref b ∧ SqT K H a xs ∧ SqT K H b ys ∧ xs ≠ [] ∧ xs.length + ys.length ≤ sizeLine ∧
  (ys = [] → Q (.ref a) H) ∧ (ys ≠ [] → ∀ p, H p = none → Q (.ref p) (upd H p (.tup (xs ++ ys))))
theorem Vals.nil_iff {xs : List V} {us : List Value} (r : Vals xs us) : us = [] ↔ xs = [] := by
  cases r with
  | nil => simp
  | cons _ _ => simp
theorem op_catT : OpR X (binaryOp .Add) (rCatT X.K) := by
  intro pins s σ H x y v u Q I rx ry h
  refine el_4_8 h ?_; clear h; intro a b xs ys zq77 zq78 ha hb hx hz q1 q2
  obtain rfl := zq77
  obtain rfl := zq78
  cases rx
  cases ry
  refine el_1_3 (I.tuple ha) ?_; intro its r1 p1 _
  refine el_1_3 (I.tuple hb) ?_; intro its2 r2 p2 _
  refine HT.cat_tup p1 p2 (fun z => hx (r1.nil_iff.mp z)) (fun z => ⟨.ref a, H, I, rfl, q1 (r2.nil_iff.mp z)⟩) (fun z => ?_) (by rw [← r1.length, ← r2.length]; exact hz)
  refine in_eecc (.ref s.heap.objs.size) _ (I.laid (t' := s.toks) (o := .tup (xs ++ ys)) (fun b ob q => Heap.get?_push_of_some _ q) (Nat.le_refl _) ?_) rfl (q2 (fun w => z (r2.nil_iff.mpr w)) _ (I.hok.fresh (Nat.le_refl _)))
  exact in_cec (by rw [List.length_append]; exact hz) _ (r1.append r2) (IsTup.new _ _)
end
end L2
namespace L2
open PySem PySem.Spec PyProof.Rows
noncomputable def ixN (n : Nat) (i : Int) : Option Nat := if 0 ≤ i then (if i < n then some i.toNat else none) else if -(n : Int) ≤ i then some (i + n).toNat else none
noncomputable def atI {α : Type} (xs : List α) (i : Int) : Option α := (ixN xs.length i).bind fun j => xs[j]?
theorem ixN_seq {n : Nat} {i : Int} {j : Nat} (h : ixN n i = some j) : seqIndex? i n = some j ∧ j < n ∧ -(n : Int) ≤ i ∧ i < n := by
  unfold ixN at h
  by_cases h0 : 0 ≤ i
  · rw [if_pos h0] at h
    by_cases h1 : i < n
    · rw [if_pos h1] at h
      have e : i.toNat = j := Option.some.inj h
      exact ⟨by rw [seqIndex_of h0 h1, e], by (first | lia | omega), by (first | lia | omega), h1⟩
    · rw [if_neg h1] at h; cases h
  · rw [if_neg h0] at h
    by_cases h1 : -(n : Int) ≤ i
    · rw [if_pos h1] at h
      have e : (i + n).toNat = j := Option.some.inj h
      exact ⟨by rw [seqIndex_neg (by (first | lia | omega)) h1, e], by (first | lia | omega), h1, by (first | lia | omega)⟩
    · rw [if_neg h1] at h; cases h
theorem atI_get {α : Type} {xs : List α} {i : Int} {v : α} (h : atI xs i = some v) : ∃ j, seqIndex? i xs.length = some j ∧ xs[j]? = some v ∧ j < xs.length ∧ -(xs.length : Int) ≤ i ∧ i < xs.length := by
  unfold atI at h
  cases e : ixN xs.length i with
  | none => rw [e] at h; cases h
  | some j =>
    rw [e] at h
    refine el_0_4 (ixN_seq e) ?_; intro h1 h2 h3 h4
    exact in_ecccc j h1 h h2 h3 h4
theorem atI_nat {α : Type} {xs : List α} {j : Nat} {v : α} (h : xs[j]? = some v) : atI xs (j : Int) = some v := by
  have hj : j < xs.length := (List.getElem?_eq_some_iff.mp h).1
  have e : ixN xs.length (j : Int) = some j := by
    unfold ixN
    rw [if_pos (by (first | lia | omega)), if_pos (by (first | lia | omega))]; simp
  unfold atI; rw [e]; exact h
theorem atI_last {α : Type} (xs : List α) (v : α) : atI (xs ++ [v]) (-1) = some v := by
  have hl : (xs ++ [v]).length = xs.length + 1 := by simp
  have e : ixN (xs ++ [v]).length (-1) = some xs.length := by
    unfold ixN
    rw [hl, if_neg (by decide), if_pos (by (first | lia | omega))]
    congr 1
    (first | lia | omega)
  unfold atI
  rw [e]
  show (xs ++ [v])[xs.length]? = some v
  simp
noncomputable def PlainIx (b : Expr) : Prop := ∀ o i, subscripted b false o i = operate [o, i] (getItem o i)
noncomputable def IxR (X : Cx) (r : R2) : Prop :=
  ∀ (value slice : Expr) (pins : List (Addr × Obj)) (s : Shared) (σ : St) (H : Hp) (x y : V) (v u : Value) (Q : VK), Inv X pins σ H s → RelV x v → RelV y u → r x y H Q →
    subscripted slice false v u = operate [v, u] (getItem v u) → wpAny (model X.prog X.w) X.A (subscriptTail value slice v u) (EP X pins σ Q) X.xe s
noncomputable def MtR (X : Cx) (id : String) (r : V → List V → Hp → VK → Prop) : Prop :=
  ∀ (pins : List (Addr × Obj)) (s : Shared) (σ : St) (H : Hp) (x : V) (xs : List V) (v : Value) (us : List Value) (Q : VK), Inv X pins σ H s → RelV x v → Vals xs us → r x xs H Q →
    wpAny (model X.prog X.w) X.A (call (.builtin id) (v :: us)) (EP X pins σ Q) X.xe s
section
variable {X : Cx} {a b : Expr} {ta tb : TE} {pos : Pos}
theorem pe_ix {r : R2} (hr : IxR X r) (ha : PE X a ta) (hb : PE X b tb) (hs : PlainIx b) : PE X (.Subscript a b pos) (tOp r ta tb) := by
  intro pins s σ H Q I h
  exact Subscript_ (binT ha hb I h fun v u s2 x y H2 I2 rx ry q => hr a b pins s2 σ H2 x y v u Q I2 rx ry q (hs _ _))
noncomputable def rIxL (K : PySem.W.Frag) : R2 := fun x y H Q => ∃ p xs i v, x = .ref p ∧ y = .int i ∧ SqL K H p xs ∧ atI xs i = some v ∧ Q v H
noncomputable def rIxT (K : PySem.W.Frag) : R2 := fun x y H Q => ∃ p xs i v, x = .ref p ∧ y = .int i ∧ SqT K H p xs ∧ atI xs i = some v ∧ Q v H
noncomputable def rIxS : R2 := fun x y H Q => ∃ z i c, x = .str z ∧ y = .int i ∧ z.length ≤ sizeLine ∧ atI z.cps.toList i = some c ∧ Q (.str ⟨#[c]⟩) H
theorem ix_list : IxR X (rIxL X.K) := by
  intro value slice pins s σ H x y v u Q I rx ry h hs
  refine el_4_5 h ?_; clear h; intro p xs i z zq79 zq80 hq he q
  obtain rfl := zq79
  obtain rfl := zq80
  cases rx
  refine el_1_1 ry ?_; clear ry; intro t zq81
  obtain rfl := zq81
  refine el_1_3 (I.list hq) ?_; intro its r pl hz
  refine el_1_5 (atI_get he) ?_; intro j h1 h2 h3 h4 h5
  refine el_1_2 (r.get h2) ?_; intro w ew rw'
  have hl := r.length
  have hn := line63
  have fin : EP X pins σ Q w s := ⟨z, H, I, rw', q⟩
  by_cases h0 : 0 ≤ i
  · have hj : i.toNat = j := by
      rw [seqIndex_of h0 h5] at h1
      exact Option.some.inj h1
    exact item_listR pl.isList h0 (by (first | lia | omega)) (by rw [hj]; simpa using ew) fin hs
  · have hj : (i + (its.toArray.size : Int)).toNat = j := by
      rw [seqIndex_neg (by (first | lia | omega)) h4] at h1
      rw [List.size_toArray, ← hl]
      exact Option.some.inj h1
    exact subscriptTail_builtinR (x := w) pl.isList.typeIs slot_list_getitem.lookup
      (wpAny_getItem_list_neg (Q := fun r s' => r = w ∧ EP X pins σ Q r s') pl.isList (by (first | lia | omega)) (by rw [List.size_toArray] <;> (first | lia | omega)) (by (first | lia | omega)) (by rw [hj]; simpa using ew) ⟨rfl, fin⟩) hs
theorem ix_tup : IxR X (rIxT X.K) := by
  intro value slice pins s σ H x y v u Q I rx ry h hs
  refine el_4_5 h ?_; clear h; intro p xs i z zq82 zq83 hq he q
  obtain rfl := zq82
  obtain rfl := zq83
  cases rx
  refine el_1_1 ry ?_; clear ry; intro t zq84
  obtain rfl := zq84
  refine el_1_3 (I.tuple hq) ?_; intro its r pl hz
  refine el_1_5 (atI_get he) ?_; intro j h1 h2 h3 h4 h5
  refine el_1_2 (r.get h2) ?_; intro w ew rw'
  have hl := r.length
  have hn := line63
  have fin : EP X pins σ Q w s := ⟨z, H, I, rw', q⟩
  exact subscriptTail_builtinR (x := w) pl.typeIs slot_tuple_getitem.lookup
    (getItem_tuple (j := j) (Q := fun r s' => r = w ∧ EP X pins σ Q r s') pl (by (first | lia | omega)) (by (first | lia | omega)) (by rw [List.size_toArray, ← hl]; exact h1) (by simpa using ew) ⟨rfl, fin⟩) hs
theorem ix_str : IxR X rIxS := by
  intro value slice pins s σ H x y v u Q I rx ry h hs
  refine el_3_5 h ?_; clear h; intro z i c zq85 zq86 hz he q
  obtain rfl := zq85
  obtain rfl := zq86
  refine el_1_1 rx ?_; clear rx; intro t zq87
  obtain rfl := zq87
  refine el_1_1 ry ?_; clear ry; intro t' zq88
  obtain rfl := zq88
  refine el_1_5 (atI_get he) ?_; intro j h1 h2 h3 h4 h5
  have hl : z.cps.toList.length = z.length := by simp [Str.length]
  rw [hl] at h1 h4 h5
  have hn := line63
  exact tail_any (typeIs_str s z t) slot_str_getitem.lookup (getItem_str (c := c) (by
    have e1 : decide (i < -(2 ^ 63 : Int)) = false := decide_eq_false (by (first | lia | omega))
    have e2 : decide (i ≥ 2 ^ 63) = false := decide_eq_false (by (first | lia | omega))
    rw [e1, e2, Bool.or_false]) (by rw [h1]; simpa using h2) ⟨.str ⟨#[c]⟩, H, I.tok _, ⟨_, rfl⟩, q⟩) hs
theorem mapSeq_set (its : List Value) (n j : Nat) (u : Value) : Obj.mapSeq (·.setIfInBounds j u) { cls := .type "list", data := .seq its.toArray n } = { cls := .type "list", data := .seq (its.set j u).toArray n } := by
  simp [Obj.mapSeq]
theorem Inv.lst {pins : List (Addr × Obj)} {σ : St} {H : Hp} {s : Shared} {p : Addr} {xs : List V} (I : Inv X pins σ H s) (h : H p = some (.lst xs)) :
    ∃ (its : List Value) (n : Nat), Vals xs its ∧ s.heap.get? p = some { cls := .type "list", data := .seq its.toArray n } ∧ xs.length ≤ sizeLine := by
  obtain ⟨z, its, n, r, e⟩ := I.hok p _ h
  exact in_eecc its n r e z
theorem Inv.lstUpd {pins : List (Addr × Obj)} {σ : St} {H : Hp} {s : Shared} {p : Addr} {xs ys : List V} {its its' : List Value} {n n' : Nat} {f : Obj → Obj} (I : Inv X pins σ H s) (h : H p = some (.lst xs))
    (ho : s.heap.get? p = some { cls := .type "list", data := .seq its.toArray n }) (hf : f { cls := .type "list", data := .seq its.toArray n } = { cls := .type "list", data := .seq its'.toArray n' }) (r : Vals ys its') (hz : ys.length ≤ sizeLine) (t : Nat) :
    Inv X pins σ (upd H p (.lst ys)) { s with heap := s.heap.update p f, toks := t } := by
  have e : (s.heap.update p f).get? p = some { cls := .type "list", data := .seq its'.toArray n' } := by
    rw [Heap.get?_update_self f ho (by rw [hf] <;> rfl), hf]
  refine I.write (x := p) (e := p) (by rw [h]; trivial) (.inl rfl) (fun b u hb q => (Heap.get?_update_other _ _ (Ne.symm hb)).trans q) ⟨_, e⟩ ?_
  exact in_ceec hz its' n' r e
noncomputable def rSetL : V → V → V → Hp → (Hp → Prop) → Prop := fun o i v H Q => ∃ p xs k j, o = .ref p ∧ i = .int k ∧ H p = some (.lst xs) ∧ ixN xs.length k = some j ∧ Q (upd H p (.lst (xs.set j v)))
theorem set_list : PSet X rSetL := by
  intro pins s σ H o i v ov iv u Q I ro ri rv h
  refine el_4_5 h ?_; clear h; intro p xs k j zq89 zq90 hp hj q
  obtain rfl := zq89
  obtain rfl := zq90
  cases ro
  refine el_1_1 ri ?_; clear ri; intro t zq91
  obtain rfl := zq91
  refine el_2_3 (I.lst hp) ?_; intro its n r ho hz
  refine el_0_4 (ixN_seq hj) ?_; intro h1 h2 h3 h4
  have hl := r.length
  have hn := line63
  have I' : Inv X pins σ (upd H p (.lst (xs.set j v))) { s with heap := s.heap.update p (Obj.mapSeq (·.setIfInBounds j u)) } :=
    I.lstUpd hp ho (mapSeq_set its n j u) (r.set rv j) (by rw [List.length_set]; exact hz) s.toks
  by_cases h0 : 0 ≤ k
  · have hk : k.toNat = j := by
      rw [seqIndex_of h0 h4] at h1
      exact Option.some.inj h1
    exact PySem.W.ki_setAt ho h0 (by (first | lia | omega)) (by rw [List.size_toArray, ← hl]; exact h4) (by rw [hk]; exact ⟨_, I', q⟩)
  · have hk : (k + (its.toArray.size : Int)).toNat = j := by
      rw [seqIndex_neg (by (first | lia | omega)) h3] at h1
      rw [List.size_toArray, ← hl]
      exact Option.some.inj h1
    exact PySem.W.ki_setBack ho (by (first | lia | omega)) (by rw [List.size_toArray, ← hl]; exact h3) (by (first | lia | omega)) (by rw [hk]; exact ⟨_, I', q⟩)
theorem slice_bounds (lo hi : Option Int) (n : Nat) : (sliceBounds lo hi none n).1 = ((HT.sIx n 0 lo : Nat) : Int) ∧ (sliceBounds lo hi none n).2.1 = ((HT.sIx n n hi : Nat) : Int) ∧ (sliceBounds lo hi none n).2.2 = 1 := by
  refine ⟨?_, ?_, rfl⟩
  · cases lo with
    | none => simp [sliceBounds, HT.sIx]
    | some i =>
      simp only [sliceBounds, HT.sIx, Option.getD_none, show (1 : Int) > 0 by decide, if_true]
      by_cases h : i < 0
      · simp only [h, if_true] <;> (first | lia | omega)
      · simp only [h, if_false] <;> (first | lia | omega)
  · cases hi with
    | none => simp [sliceBounds, HT.sIx]
    | some i =>
      simp only [sliceBounds, HT.sIx, Option.getD_none, show (1 : Int) > 0 by decide, if_true]
      by_cases h : i < 0
      · simp only [h, if_true] <;> (first | lia | omega)
      · simp only [h, if_false] <;> (first | lia | omega)
theorem slicePick_cut (its : List Value) (lo hi : Option Int) : slicePick its.toArray lo hi none = ((its.drop (HT.sIx its.length 0 lo)).take (HT.sIx its.length its.length hi - HT.sIx its.length 0 lo)).toArray := by
  refine el_0_3 (slice_bounds lo hi its.toArray.size) ?_; intro h1 h2 h3
  unfold slicePick
  rw [h1, h2, h3]
  simp only [sliceRange_one, pick_run, List.size_toArray] <;> rfl
noncomputable def rSlL (K : PySem.W.Frag) : V → Option Int → Option Int → Hp → VK → Prop := fun x lo hi H Q => ∃ a xs, x = .ref a ∧ SqL K H a xs ∧ ∀ p, H p = none → Q (.ref p) (upd H p (.lst (cutV xs lo hi)))
theorem sl_list : SlR X (rSlL X.K) := by
  intro pins s σ H x v vl vu lo hi sl Q I rx hs pl pu h
  refine el_2_3 h ?_; clear h; intro a xs zq92 hx q
  obtain rfl := zq92
  cases rx
  refine el_1_3 (I.list hx) ?_; intro its r ht hz
  have hlen := r.length
  refine in_eecc ("list") _ slot_list_getitem.lookup ht.isList.typeIs ?_
  refine wpAny_getItem_list_slice ht.isList hs pl pu .none (by simp) ?_ (by rw [List.size_toArray] <;> (first | lia | omega))
  rw [slicePick_cut, ← hlen]
  refine in_eecc (.ref s.heap.objs.size) _ (I.laid (t' := s.toks) (o := .lst (cutV xs lo hi)) (fun b ob q => Heap.get?_push_of_some _ q) (Nat.le_refl _) ?_) rfl (q _ (I.hok.fresh (Nat.le_refl _)))
  exact in_ceec (Nat.le_trans (cutV_length xs lo hi) hz) _ 0 ((r.drop (HT.sIx xs.length 0 lo)).take (HT.sIx xs.length xs.length hi - HT.sIx xs.length 0 lo)) (Heap.get?_push_size _ rfl)
noncomputable def flatV : V → Bool
  | .non => true
  | .bl _ => true
  | .int _ => true
  | .str _ => true
  | _ => false
noncomputable def eqV : V → V → Bool
  | .non, .non => true
  | .bl a, .bl b => a == b
  | .bl a, .int b => (if a then 1 else 0) == b
  | .int a, .bl b => a == (if b then 1 else 0)
  | .int a, .int b => a == b
  | .str a, .str b => a == b
  | _, _ => false
theorem eqAt_V {A : Around} {s : Shared} {y x : V} {u v : Value} (ry : RelV y u) (rx : RelV x v) (fy : flatV y = true) (fx : flatV x = true) : SeqAt.EqAt A s u v (eqV y x) := by
  cases y with
  | non =>
    cases ry
    cases x with
    | non => cases rx; exact SeqAt.EqAt.same _
    | bl b => cases rx; exact SeqAt.EqAt.none_bool b
    | int b => obtain ⟨t, rfl⟩ := rx; exact SeqAt.EqAt.none_int b t
    | str b => obtain ⟨t, rfl⟩ := rx; exact SeqAt.EqAt.none_str b t
    | _ => exact absurd (show false = true from fx) Bool.false_ne_true
  | bl a =>
    cases ry
    cases x with
    | non => cases rx; exact SeqAt.EqAt.bool_none a
    | bl b => cases rx; exact SeqAt.EqAt.bool_bool a b
    | int b => obtain ⟨t, rfl⟩ := rx; exact SeqAt.EqAt.bool_int a b t
    | str b => obtain ⟨t, rfl⟩ := rx; exact SeqAt.EqAt.bool_str a b t
    | _ => exact absurd (show false = true from fx) Bool.false_ne_true
  | int a =>
    refine el_1_1 ry ?_; clear ry; intro t' zq93
    obtain rfl := zq93
    cases x with
    | non => cases rx; exact SeqAt.EqAt.int_none a t'
    | bl b => cases rx; exact SeqAt.EqAt.int_bool a t' b
    | int b => obtain ⟨t, rfl⟩ := rx; exact SeqAt.EqAt.int_int a t' b t
    | str b => obtain ⟨t, rfl⟩ := rx; exact SeqAt.EqAt.int_str a t' b t
    | _ => exact absurd (show false = true from fx) Bool.false_ne_true
  | str a =>
    refine el_1_1 ry ?_; clear ry; intro t' zq94
    obtain rfl := zq94
    cases x with
    | non => cases rx; exact SeqAt.EqAt.str_none a t'
    | bl b => cases rx; exact SeqAt.EqAt.str_bool a t' b
    | int b => obtain ⟨t, rfl⟩ := rx; exact SeqAt.EqAt.str_int a t' b t
    | str b => obtain ⟨t, rfl⟩ := rx; exact SeqAt.EqAt.str_str a t' b t
    | _ => exact absurd (show false = true from fx) Bool.false_ne_true
  | _ => exact absurd (show false = true from fy) Bool.false_ne_true
noncomputable def eqU (x : V) (u : Value) : Bool := match u with
  | .none => eqV .non x
  | .bool b => eqV (.bl b) x
  | .int i _ => eqV (.int i) x
  | .str z _ => eqV (.str z) x
  | _ => false
theorem eqU_of {x y : V} {u : Value} (r : RelV y u) (f : flatV y = true) : eqU x u = eqV y x := by
  cases y with
  | non => cases r; rfl
  | bl b => cases r; rfl
  | int i => obtain ⟨t, rfl⟩ := r; rfl
  | str z => obtain ⟨t, rfl⟩ := r; rfl
  | _ => exact absurd (show false = true from f) Bool.false_ne_true
theorem any_eqU {x : V} : ∀ {xs : List V} {us : List Value}, Vals xs us → xs.all flatV = true → us.any (eqU x) = xs.any fun y => eqV y x
  | _, _, .nil, _ => rfl
  | y :: xs, u :: us, .cons r t, f => by
    rw [List.all_cons, Bool.and_eq_true] at f
    rw [List.any_cons, List.any_cons, eqU_of r f.1, any_eqU t f.2]
theorem mem_eqAt {A : Around} {s : Shared} {x : V} {v : Value} (rx : RelV x v) (fx : flatV x = true) : ∀ {xs : List V} {us : List Value}, Vals xs us → xs.all flatV = true → ∀ u ∈ us, SeqAt.EqAt A s u v (eqU x u)
  | _, _, .nil, _ => fun u hu => by cases hu
  | y :: xs, u :: us, .cons r t, f => fun u' hu => by
    rw [List.all_cons, Bool.and_eq_true] at f
    rcases List.mem_cons.mp hu with rfl | hu
    · rw [eqU_of r f.1]; exact eqAt_V r rx f.1 fx
    · exact mem_eqAt rx fx t f.2 u' hu
noncomputable def inV (x : V) (xs : List V) : Bool := xs.any fun y => eqV y x
noncomputable def rIn (K : PySem.W.Frag) (neg : Bool) : R2 := fun x y H Q => ∃ p xs, y = .ref p ∧ (SqL K H p xs ∨ SqT K H p xs) ∧ flatV x = true ∧ xs.all flatV = true ∧ Q (.bl (if neg then !inV x xs else inV x xs)) H
theorem op_in_seq : OpR X (compareOp .In) (rIn X.K false) := by
  intro pins s σ H x y v u Q I rx ry h
  refine el_2_5 h ?_; clear h; intro p xs zq95 hq fx fs q
  obtain rfl := zq95
  cases ry
  rcases hq with hq | hq
  · refine el_1_3 (I.list hq) ?_; intro its r pl hz
    refine SeqAt.in_listAt (eqU x) pl.isList (fun w hw => mem_eqAt rx fx r fs w (by simpa using hw)) ⟨.bl _, H, I, rfl, ?_⟩
    rw [show its.toArray.any (eqU x) = its.any (eqU x) by simp, any_eqU r fs]
    exact q
  · refine el_1_3 (I.tuple hq) ?_; intro its r pl hz
    refine SeqAt.in_tupleAt (eqU x) pl (fun w hw => mem_eqAt rx fx r fs w (by simpa using hw)) ⟨.bl _, H, I, rfl, ?_⟩
    rw [show its.toArray.any (eqU x) = its.any (eqU x) by simp, any_eqU r fs]
    exact q
theorem op_notIn_seq : OpR X (compareOp .NotIn) (rIn X.K true) := by
  intro pins s σ H x y v u Q I rx ry h
  refine el_2_5 h ?_; clear h; intro p xs zq96 hq fx fs q
  obtain rfl := zq96
  cases ry
  rcases hq with hq | hq
  · refine el_1_3 (I.list hq) ?_; intro its r pl hz
    refine SeqAt.notIn_listAt (eqU x) pl.isList (fun w hw => mem_eqAt rx fx r fs w (by simpa using hw)) ⟨.bl _, H, I, rfl, ?_⟩
    rw [show its.toArray.any (eqU x) = its.any (eqU x) by simp, any_eqU r fs]
    exact q
  · refine el_1_3 (I.tuple hq) ?_; intro its r pl hz
    refine SeqAt.notIn_tupleAt (eqU x) pl (fun w hw => mem_eqAt rx fx r fs w (by simpa using hw)) ⟨.bl _, H, I, rfl, ?_⟩
    rw [show its.toArray.any (eqU x) = its.any (eqU x) by simp, any_eqU r fs]
    exact q
theorem call_len_seq : CallR X (.builtin "len") (fun xs H Q => ∃ p ys, xs = [.ref p] ∧ (SqL X.K H p ys ∨ SqT X.K H p ys) ∧ Q (.int ys.length) H) := by
  intro pins s σ H xs us Q I r h
  refine el_2_3 h ?_; clear h; intro p ys zq97 hq q
  obtain rfl := zq97
  refine el_1_2 (vals1 r) ?_; intro u zq98 rx
  obtain rfl := zq98
  cases rx
  have hn := line63
  rcases hq with hq | hq
  · refine el_1_3 (I.list hq) ?_; intro its r' pl hz
    have hlen := r'.length
    exact Calls.call_len_list pl.isList (by simp only [List.size_toArray] <;> (first | lia | omega)) ⟨.int ys.length, H, I.tok _, ⟨s.toks + 1, by rw [List.size_toArray, hlen]⟩, q⟩
  · refine el_1_3 (I.tuple hq) ?_; intro its r' pl hz
    have hlen := r'.length
    exact len_tuple pl (by simp only [List.size_toArray] <;> (first | lia | omega)) ⟨.int ys.length, H, I.tok _, ⟨s.toks + 1, by rw [List.size_toArray, hlen]⟩, q⟩
theorem call_len_str : CallR X (.builtin "len") (fun xs H Q => ∃ z, xs = [.str z] ∧ z.length ≤ sizeLine ∧ Q (.int z.length) H) := by
  intro pins s σ H xs us Q I r h
  refine el_1_3 h ?_; clear h; intro z zq99 hz q
  obtain rfl := zq99
  obtain ⟨u, rfl, t, rfl⟩ := vals1 r
  have hn := line63
  exact len_str (by (first | lia | omega)) ⟨.int z.length, H, I.tok _, ⟨_, rfl⟩, q⟩
theorem call_tuple_of : CallR X (.type "tuple") (fun xs H Q => ∃ p ys, xs = [.ref p] ∧ ((SqL X.K H p ys ∧ ∀ l, H l = none → Q (.ref l) (upd H l (.tup ys))) ∨ (SqT X.K H p ys ∧ Q (.ref p) H))) := by
  intro pins s σ H xs us Q I r h
  refine el_2_2 h ?_; clear h; intro p ys zq100 h
  obtain rfl := zq100
  refine el_1_2 (vals1 r) ?_; intro u zq101 rx
  obtain rfl := zq101
  cases rx
  rcases h with ⟨hq, q⟩ | ⟨hq, q⟩
  · refine el_1_3 (I.list hq) ?_; intro its r' pl hz
    have hlen := r'.length
    refine call_tuple_list pl.isList (fun h' kp => ?_) (by simp only [List.size_toArray] <;> (first | lia | omega))
    have I1 : Inv X pins σ H { s with heap := h' } := I.kept (t' := s.toks) kp
    have I2 : Inv X pins σ (upd H h'.objs.size (.tup ys)) { s with heap := h'.push { cls := .type "tuple", data := .seq its.toArray } } :=
      I1.laid (t' := s.toks) (fun b o e => Heap.get?_push_of_some _ e) (Nat.le_refl _) (show ObjOk X.prog X.w _ _ _ (.tup ys) from ⟨hz, its, r', IsTup.new _ _⟩)
    exact in_eecc (.ref h'.objs.size) _ I2 rfl (q _ (I1.hok.fresh (Nat.le_refl _)))
  · refine el_1_3 (I.tuple hq) ?_; intro its r' pl hz
    exact call_tuple_same pl ⟨.ref p, H, I, rfl, q⟩
noncomputable def tyV (K : PySem.W.Frag) (T : String) (x : V) (H : Hp) : Prop := match x with
  | .str _ => T = "str"
  | .int _ => T = "int"
  | .ref p => (T = "list" ∧ ∃ xs, SqL K H p xs) ∨ (T = "tuple" ∧ ∃ o, K.lookup p = some o ∧ o.cls = .type "tuple" ∧ o.dict = none) ∨
      (T = "dict" ∧ ((∃ kvs, H p = some (.dK kvs)) ∨ ∃ kvs, H p = some (.dT kvs))) ∨ (T = "set" ∧ ∃ S n, H p = some (.set S n))
  | _ => False
theorem tyV_is {pins : List (Addr × Obj)} {σ : St} {H : Hp} {s : Shared} {T : String} {x : V} {v : Value} (I : Inv X pins σ H s) (r : RelV x v) (ty : tyV X.K T x H) :
    s.TypeIs v T ∧ ∀ a, v = .ref a → ∃ ob, s.heap.get? a = some ob ∧ ob.dict = none := by
  cases x with
  | str z =>
    refine el_1_1 r ?_; clear r; intro t zq102
    obtain rfl := zq102
    cases (show T = "str" from ty)
    exact ⟨typeIs_str s z t, fun _ e => nomatch e⟩
  | int i =>
    refine el_1_1 r ?_; clear r; intro t zq103
    obtain rfl := zq103
    cases (show T = "int" from ty)
    exact ⟨typeIs_int s i t, fun _ e => nomatch e⟩
  | ref p =>
    cases r
    rcases ty with ⟨rfl, xs, hq⟩ | ⟨rfl, o, hk, hc, hd⟩ | ⟨rfl, hk⟩ | ⟨rfl, S, n, hk⟩
    · refine el_1_3 (I.list hq) ?_; intro its _ pl _
      refine ⟨pl.isList.typeIs, fun a e => ?_⟩
      cases e
      refine el_2_4 pl ?_; clear pl; intro o n e c hd _
      exact in_ec o e hd
    · refine ⟨⟨o, I.kIn p o hk, hc⟩, fun a e => ?_⟩
      cases e
      exact in_ec o (I.kIn _ o hk) hd
    · have z : ∃ o, s.heap.get? p = some o ∧ o.ExactDict := by
        rcases hk with ⟨kvs, hk⟩ | ⟨kvs, hk⟩
        · obtain ⟨_, _, _, _, o, _, _, e, ex, _⟩ := I.hok p _ hk
          exact in_ec o e ex
        · obtain ⟨_, _, _, _, o, _, _, e, ex, _⟩ := I.hok p _ hk
          exact in_ec o e ex
      refine el_1_2 z ?_; clear z; intro o e ex
      refine ⟨⟨o, e, ex.1⟩, fun a e2 => ?_⟩
      cases e2
      exact in_ec o e ex.2.1
    · refine el_4_3 (I.hok p _ hk) ?_; intro o _ _ _ e ex _
      refine ⟨⟨o, e, ex.1⟩, fun a e2 => ?_⟩
      cases e2
      exact in_ec o e ex.2.1
  | _ => exact False.elim ty
noncomputable def tBM0 (K : PySem.W.Frag) (T : String) (r : V → List V → Hp → VK → Prop) (to : TE) : TE := fun σ H Q => to σ H fun x H1 => tyV K T x H1 ∧ r x [] H1 Q
noncomputable def tBM (K : PySem.W.Frag) (T : String) (r : V → List V → Hp → VK → Prop) (to : TE) (t : TA) : TE := fun σ H Q => to σ H fun x H1 => tyV K T x H1 ∧ t σ H1 fun xs H2 => r x xs H2 Q
variable {o e : Expr} {es : List Expr} {to : TE} {t : TA} {name : Str} {apos cpos : Pos} {T id : String} {r : V → List V → Hp → VK → Prop}
theorem pe_bm0 (pa : PlainAttrs T) (slot : Slot T name id) (hty : typeOf (.builtin id) = pure (.type "method_descriptor")) (hm : MtR X id r) (ho : PE X o to)
    (hbase : attributeBase o name X.env (eval o X.env) = eval o X.env := by rfl) (hline : (apos.endLine == cpos.line) = true := by rfl) : PE X (.Call (.Attribute o name apos) [] [] cpos) (tBM0 X.K T r to) := by
  intro pins s σ H Q I h
  refine wpAny_Call_method0_late hbase hline (thn (ho pins s σ H _ I h) fun v s1 zz0 => ?_)
  refine el_2_4 zz0 ?_; clear zz0; intro x H1 I1 r1 ty q1
  refine el_0_2 (tyV_is I1 r1 ty) ?_; intro h1 h2
  exact in_eeccccc T id pa slot hty h1 h2 (Calls.callWith_builtin rfl (PySem.evalArgs_none (hm pins s1 σ H1 x [] v [] Q I1 r1 .nil q1)))
theorem pe_bm (pa : PlainAttrs T) (slot : Slot T name id) (hty : typeOf (.builtin id) = pure (.type "method_descriptor")) (hm : MtR X id r) (ho : PE X o to) (ha : PA X (e :: es) t)
    (hbase : attributeBase o name X.env (eval o X.env) = eval o X.env := by rfl)
    (hfew : ((backTo cpos (starEach (e :: es) X.env)).all (fun x => !x.1) && (backToKw cpos (keywordEach [] X.env)).all (fun x => x.1.isSome)
      && decide ((e :: es).length + ([] : List Keyword).length + (if ([] : List Keyword).isEmpty then 0 else 1) < 30)) = true := by rfl)
    (hline : (apos.endLine == cpos.line) = true := by rfl) (hs : starEach (e :: es) X.env = (false, eval e X.env) :: starEach es X.env := by rfl) (hplain : (backTo cpos (starEach es X.env)).any (·.1) = false := by rfl) :
    PE X (.Call (.Attribute o name apos) (e :: es) [] cpos) (tBM X.K T r to t) := by
  intro pins s σ H Q I h
  refine wpAny_Call_method_late hbase hfew hline rfl (thn (ho pins s σ H _ I h) fun v s1 zz0 => ?_)
  refine el_2_4 zz0 ?_; clear zz0; intro x H1 I1 r1 ty q1
  refine el_0_2 (tyV_is I1 r1 ty) ?_; intro h1 h2
  refine in_eeccccc T id pa slot hty h1 h2 ?_
  have hA := ha cpos pins s1 σ H1 _ I1 q1
  rw [hs] at hA ⊢
  refine Calls.callWith_builtin (by show (false || (backTo cpos (starEach es X.env)).any (·.1)) = false; rw [hplain] <;> rfl) (Calls.evalArgs_plain ?_)
  refine thn hA fun us s2 zz0 => ?_
  refine el_2_3 zz0 ?_; clear zz0; intro vs H2 I2 r2 q2
  exact hm pins s2 σ H2 x vs v us Q I2 r1 r2 q2
end
end L2
namespace L2
open PySem PySem.Spec PyProof.Rows
noncomputable def MtM (X : Cx) (id : String) (r : V → List V → Hp → VK → Prop) : Prop :=
  ∀ (pins : List (Addr × Obj)) (s : Shared) (σ : St) (H : Hp) (x : V) (xs : List V) (v : Value) (us : List Value) (Q : VK), Inv X pins σ H s → RelV x v → Vals xs us → r x xs H Q →
    wpAny (model X.prog X.w) X.A (call (.builtin id) (v :: us)) (EP X pins σ Q) X.xe s
theorem Vals.one : ∀ {x : V} {us : List Value}, Vals [x] us → ∃ u, us = [u] ∧ RelV x u
  | _, _, .cons r .nil => ⟨_, rfl, r⟩
theorem Vals.zero : ∀ {us : List Value}, Vals [] us → us = []
  | _, .nil => rfl
theorem Vals.dropLast {xs : List V} {us : List Value} (h : Vals xs us) : Vals xs.dropLast us.dropLast := by
  induction h with
  | nil => exact .nil
  | cons r t ih =>
    cases t with
    | nil => exact .nil
    | cons q t' => exact .cons r ih
theorem erase_last {α : Type} (l : List α) : l.eraseIdx (l.length - 1) = l.dropLast := by
  induction l with
  | nil => rfl
  | cons a r ih =>
    cases r with
    | nil => rfl
    | cons b r =>
      have e : (a :: b :: r).length - 1 = ((b :: r).length - 1) + 1 := by
        have h1 : (a :: b :: r).length = r.length + 2 := rfl
        have h2 : (b :: r).length = r.length + 1 := rfl
        (first | lia | omega)
      rw [e, List.eraseIdx_cons_succ, ih]
      all_goals rfl
section
variable {X : Cx} {pins : List (Addr × Obj)} {σ : St} {H : Hp} {s : Shared} {l b : Addr} {xs ys zs : List V}
theorem Inv.lset {its its' : List Value} {n : Nat} {f : Array Value → Array Value} {t' : Nat} (I : Inv X pins σ H s) (hH : H l = some (.lst xs))
    (e : s.heap.get? l = some { cls := .type "list", data := .seq its.toArray n }) (hf : f its.toArray = its'.toArray) (hv : Vals ys its') (hz : ys.length ≤ sizeLine) :
    Inv X pins σ (upd H l (.lst ys)) { s with heap := s.heap.update l (Obj.mapSeq f), toks := t' } := by
  have q := PySem.IsL.update e f
  rw [hf] at q
  refine I.write (x := l) (e := l) (by rw [hH]; exact trivial) (.inl rfl) (fun b' u hb hu => (Heap.get?_update_other s.heap (Obj.mapSeq f) (Ne.symm hb)).trans hu) ⟨_, q⟩ ?_
  exact in_ceec hz its' _ hv q
theorem Inv.lnew {its : List Value} {t' : Nat} (I : Inv X pins σ H s) (hv : Vals ys its) (hz : ys.length ≤ sizeLine) :
    Inv X pins σ (upd H s.heap.objs.size (.lst ys)) { s with heap := s.heap.push { cls := .type "list", data := .seq its.toArray }, toks := t' } :=
  I.laid (fun _ _ q => Heap.get?_push_of_some _ q) (Nat.le_refl _) ⟨hz, its, 0, hv, Heap.get?_push_size _ rfl⟩
theorem Inv.fresh (I : Inv X pins σ H s) : H s.heap.objs.size = none := I.hok.fresh (Nat.le_refl _)
theorem Inv.lstM (I : Inv X pins σ H s) (hH : H l = some (.lst xs)) : xs.length ≤ sizeLine ∧ ∃ (its : List Value) (n : Nat), Vals xs its ∧ xs.length = its.length ∧ s.heap.get? l = some { cls := .type "list", data := .seq its.toArray n } := by
  obtain ⟨z, its, n, r, e⟩ := I.hok l _ hH
  exact in_ceecc z its n r r.length e
end
section
variable {X : Cx}
noncomputable def rAppend : V → List V → Hp → VK → Prop := fun x vs H Q => ∃ l xs y, x = .ref l ∧ vs = [y] ∧ H l = some (.lst xs) ∧ xs.length < sizeLine ∧ Q .non (upd H l (.lst (xs ++ [y])))
theorem mt_append : MtM X "list.append" rAppend := by
  intro pins s σ H x vs v us Q I rx rv h
  refine el_3_5 h ?_; clear h; intro l xs y zq104 zq105 hH hz q
  obtain rfl := zq104
  obtain rfl := zq105
  cases rx
  refine el_1_2 (rv.one) ?_; intro u zq106 ru
  obtain rfl := zq106
  obtain ⟨z, its, n, r, hl, e⟩ := I.lstM hH
  refine call_meets F.slot_list_append ⟨_, e, rfl⟩ F.entry_list_append (F.args_list_append_2 _ _) (PySem.list_append l its.toArray n u (by rw [List.size_toArray]; (first | lia | omega))) ⟨e, ?_⟩
  refine in_eecc .non _ (I.lset (its' := its ++ [u]) hH e (by simp) (r.append (.cons ru .nil)) ?_) rfl q
  rw [List.length_append, List.length_singleton]
  (first | lia | omega)
noncomputable def rPop : V → List V → Hp → VK → Prop := fun x vs H Q => ∃ l xs y, x = .ref l ∧ vs = [] ∧ H l = some (.lst xs) ∧ xs[xs.length - 1]? = some y ∧ Q y (upd H l (.lst xs.dropLast))
theorem mt_pop : MtM X "list.pop" rPop := by
  intro pins s σ H x vs v us Q I rx rv h
  refine el_3_5 h ?_; clear h; intro l xs y zq107 zq108 hH hy q
  obtain rfl := zq107
  obtain rfl := zq108
  cases rx
  have hus := rv.zero
  subst hus
  obtain ⟨z, its, n, r, hl, e⟩ := I.lstM hH
  refine el_1_2 (r.get hy) ?_; intro u hu ru
  have hy' : its.toArray[its.toArray.size - 1]? = some u := by
    show its.toArray[its.length - 1]? = some u
    rw [← Array.getElem?_toList, ← hl]
    exact hu
  refine call_meets F.slot_list_pop ⟨_, e, rfl⟩ F.entry_list_pop (F.args_list_pop_1 _) (MeetsSeq.list_pop_last l its.toArray n u hy' (by rw [List.size_toArray]; (first | lia | omega))) ⟨e, ?_⟩
  refine in_eecc y _ (I.lset (its' := its.dropLast) hH e ?_ r.dropLast ?_) ru q
  · show its.toArray.eraseIdxIfInBounds (its.toArray.size - 1) = its.dropLast.toArray
    rw [List.size_toArray, List.eraseIdxIfInBounds_toArray, erase_last]
  · rw [List.length_dropLast]
    (first | lia | omega)
end
section
variable {prog : Program} {w : World} {A : Around} {E : Value → Shared → Prop} {s : Shared}
end
section
variable {X : Cx}
end
end L2
namespace Att
open PySem PySem.W PySem.Calls PyProof.Rows
theorem ints_of_wellAll {P : Params} {h : Heap} : ∀ (ns : List Int) (vs : List Value), WellAll P h vs (ns.map WData.int) → IntsAre vs ns := by
  intro ns
  induction ns with
  | nil =>
    intro vs w
    rw [List.map_nil] at w
    cases w
    exact .nil
  | cons n ns ih =>
    intro vs w
    rw [List.map_cons] at w
    cases w with
    | cons a b =>
      cases a
      exact .cons _ _ (ih _ b)
theorem script_of {l : OpenLaw} {n : Nat} (hn : l.most = some n) {P : Params} {h : Heap} {args : List WData} {vals : List Value}
    (hpre : l.row.toRowW.claim.pre args = true) (hwl : WellAll P h vals args) :
    ∃ a vs ns, vals = [Value.ref a] ∧ args = [WData.list (ns.map WData.int)] ∧ h.get? a = some { cls := .type "list", data := .seq vs.toArray } ∧ IntsAre vs ns ∧ ns.length ≤ n := by
  have hsh : WShape.hasAll [] args [.list .int] = true := (pre_splitW hpre).1
  have hc : l.pre.holds [] { args := args } = true := (pre_splitW hpre).2
  refine el_2_3 (hasAllW_cons hsh) ?_; intro d r zq109 h1 h2
  obtain rfl := zq109
  obtain rfl := hasAllW_nil h2
  refine el_1_2 (hasW_list h1) ?_; intro xs zq110 h3
  obtain rfl := zq110
  refine el_1_1 (items_int h3) ?_; intro ns zq111
  obtain rfl := zq111
  have hlen : ns.length ≤ n := by
    unfold OpenLaw.pre at hc
    have h4 : (WTm.not (.lt (.lit (.int (n : Int))) (.len (.arg 0)))).holds [] { args := [.list (ns.map .int)] } = true := by
      have h4 := (holds_andW hc).1
      rw [hn] at h4
      exact h4
    have h5 := condW_of h4 (w_not (w_lt w_lit (w_len_list (w_arg rfl))))
    rw [List.length_map] at h5
    refine Nat.le_of_not_lt fun q => ?_
    have q' : (n : Int) < ((ns.length : Nat) : Int) := by (first | lia | omega)
    first
      | (rw [decide_eq_true q'] at h5; exact absurd h5 (by decide))
      | (simp at h5; (first | lia | omega))
  cases hwl with
  | cons w1 w2 =>
    cases w2
    cases w1 with
    | list ho hall => exact ⟨_, _, ns, rfl, rfl, ho, ints_of_wellAll ns _ hall, hlen⟩
theorem post_true (l : OpenLaw) (args : List WData) : l.row.toRowW.claim.post args (.bool true) args = true :=
  postW_of (r := l.row.toRowW) (X := (true == true))
    (show WShape.has [] (.bool true) .bool = true by first | rfl | decide | simp [WShape.has, WShape.arms, WShape.armsAll])
    (show (WTm.eq .res (.lit (.bool true))).value [] { args := args, res := some (.bool true), after := args } = some (.bool (true == true)) from w_eq_bool (w_res rfl) w_lit) rfl
theorem attach_call {l : OpenLaw} {n : Nat} {q : Program} {loose : List Str} {XP : (Str → Option Value) → Heap → Prop} {YP : World → Heap → Prop} {d : DefRec}
    (hn : l.most = some n) (hdf : d.params.defaults = [])
    (call : ∀ (w : World) (s₀ s₁ : Shared) (mg mb : Str → Option Value) (fa : Addr) (o : Obj) (pm cd doc : Value) (a : Addr) (vs : List Value) (ns : List Int),
      Ground q loose [] XP w s₀ mg mb s₁.heap → YP w s₁.heap →
      s₁.heap.get? fa = some o → o.data = .func (docDef d.name d.params d.body d.scope pm cd doc) → s₁.heap.CodeRec cd d.name → mg d.name = some (.ref fa) →
      s₁.heap.get? a = some { cls := .type "list", data := .seq vs.toArray } → IntsAre vs ns → ns.length ≤ n → s₁.gens = #[] →
      codeAny (model l.prog w) callerA (.call (.ref fa) ⟨[.ref a], []⟩) (fun r s' => r = .ok (.ret (.bool true)) ∧ OldK s₁.heap s'.heap ∧ s'.os = s₁.os ∧ AllBare s'.gens) s₁) :
    WalkO q loose XP YP l.row.toRowW d [] (fun f vs => PySem.call f vs) := by
  intro w s₀ s₁ mg mb G Y fa o pm cd doc dV kV ho hd hcd hD hmg hg args vals as hpre hlay hrd hwl hlo
  obtain rfl : dV = .none := Dflts.none hD hdf
  obtain rfl : kV = .none := Dflts.noKw hD
  refine el_3_5 (script_of hn hpre hwl) ?_; intro a vs ns zq112 zq113 hobj hints hlen
  obtain rfl := zq112
  obtain rfl := zq113
  refine enter_call (codeAny_mono (call w s₀ s₁ mg mb fa o pm cd doc a vs ns G Y ho (fd_plain hd) hcd hmg hobj hints hlen hg) fun r s' hq => ?_)
  refine el_0_4 hq ?_; clear hq; intro zq114 h2 h3 h4
  obtain rfl := zq114
  exact ⟨.inl ⟨.bool true, .bool true, [], rfl, fun _ => rfl, .bool true, post_true l _, fun _ => ⟨List.Pairwise.nil, fun _ hm => (nomatch hm)⟩⟩, h2, h3, h4⟩
section
variable {prog : Program} {w : World} {A : Around} {E : Value → Shared → Prop} {s : Shared} {K : Frag}
noncomputable def ledger (h : Heap) (L d : Addr) : List (Addr × Obj) := (List.range h.objs.size).filterMap fun a => if a = L ∨ a = d then none else (h.get? a).map fun o => (a, o)
end
end Att
namespace L2
open PySem PySem.Spec PyProof.Rows
theorem vals_ints : ∀ {vs : List Value} {ns : List Int}, IntsAre vs ns → Vals (ns.map V.int) vs
  | _, _, .nil => .nil
  | _, _, .cons n t h => .cons ⟨t, rfl⟩ (vals_ints h)
noncomputable def Only (H : Hp) : Prop := ∀ b, H b = none ∨ ∃ o xs, H b = some (.frz o (.lst xs))
theorem law_call {P : Program} {w : World} {K : PySem.W.Frag} {mg mb : Str → Option Value} {CX : CXT} {k : Nat} {fa a : Addr} {fd : FuncData} {x : Str} {sp : Sp} {s₁ : Shared} {vs : List Value} {ns : List Int}
    (KX : K.In s₁.heap) (hns : s₁.heap.Ns mainGlobals mg) (hb : s₁.heap.Ns builtinsNs mb) (hbb : ∀ x : Str, x ≠ "__name__" → mb x = bootBuiltins x) (hlim : s₁.heap.NoLimit) (hg : s₁.gens = #[])
    (ha : s₁.heap.get? a = some { cls := .type "list", data := .seq vs.toArray }) (hi : IntsAre vs ns) (hl : ns.length ≤ sizeLine) (hr : Room k callerA)
    (F : ∀ base : Heap, K.In base → base.Ns mainGlobals mg → FnOk P w K mg base CX k fa fd [x] sp) (hbind : ∀ (s : Shared) (u : Value), BindsTo s fd ⟨[u], []⟩ [(x, u)])
    (hsp : ∀ H : Hp, Only H → SqL K H a (ns.map V.int) → sp [.ref a] H (fun v _ => v = .bl true) fun _ _ _ => False)
    (hCX : ∀ H e s', CX [] H s₁ (fun _ _ _ => False) e s' → False) :
    codeAny (model P w) callerA (.call (.ref fa) ⟨[.ref a], []⟩) (fun r s' => r = .ok (.ret (.bool true)) ∧ OldK s₁.heap s'.heap ∧ s'.os = s₁.os ∧ AllBare s'.gens) s₁ := by
  have rv := vals_ints hi
  have lenV := hi.length
  have core : ∀ H : Hp, Only H → SqL K H a (ns.map V.int) → HOk P w H s₁.heap → (∀ b, H b ≠ none → b = a) → (H a ≠ none → K.lookup a = none) →
      codeAny (model P w) callerA (.call (.ref fa) ⟨[.ref a], []⟩) (fun r s' => r = .ok (.ret (.bool true)) ∧ OldK s₁.heap s'.heap ∧ s'.os = s₁.os ∧ AllBare s'.gens) s₁ := by
    intro H hO hS hok hA hK
    have base_of : ∀ {b : Addr} {o : Obj}, s₁.heap.get? b = some o → H b = none → (hidT s₁.heap H).get? b = some o := fun e n => hidT_get e n
    have noA : ∀ {b : Addr} {o : Obj} {es : Array DictEntry} {ep : Nat}, s₁.heap.get? b = some o → o.data = .dict es ep → H b = none := fun {b o es ep} e d => by
      cases q : H b with
      | none => rfl
      | some u =>
        have e' : b = a := hA b (by rw [q]; simp)
        subst e'
        rw [ha] at e; cases e
        have d' : Data.seq vs.toArray _ = Data.dict es ep := d
        cases d'
    have nsK : ∀ {b : Addr} {m : Str → Option Value}, s₁.heap.Ns b m → (hidT s₁.heap H).Ns b m := fun {b m} ⟨o, es, ep, e, d, r⟩ => ⟨o, es, ep, base_of e (noA e d), d, r⟩
    have hKb : K.In (hidT s₁.heap H) := fun b o e => base_of (KX b o e) (by
      cases q : H b with
      | none => rfl
      | some u =>
        have e' : b = a := hA b (by rw [q]; simp)
        subst e'
        rw [hK (by rw [q]; simp)] at e; cases e)
    have hM : Mod K mg (hidT s₁.heap H) := ⟨hKb, nsK hns, ⟨mb, nsK hb, hbb⟩, let ⟨mc, h1, h2⟩ := hlim; ⟨mc, nsK h1, h2⟩⟩
    have e0 : Env0 P w K mg (hidT s₁.heap H) callerA [] s₁ H := ⟨rfl, hM, fun b o e => of_hidT e, Nat.le_of_eq (hidT_size _ _), trivial, fun b hb => absurd (show b ∈ ([] : List Addr) from hb) (by simp), hok, .of_eq hg⟩
    refine codeAny_mono ((F _ hKb (nsK hns)).run callerA [] s₁ H ⟨[.ref a], []⟩ [.ref a] [.ref a] _ _ hr e0 (hbind s₁ (.ref a)) (.cons rfl .nil) (hsp H hO hS)) fun r s' h => ?_
    cases r with
    | error e => exact (hCX H e s' h).elim
    | ok fl =>
      cases fl with
      | next => exact False.elim h
      | brk => exact False.elim h
      | cont => exact False.elim h
      | ret u =>
        refine el_2_6 h ?_; clear h; intro v H' os bare un hok' r' q
        have q' : v = .bl true := q
        subst q'
        obtain rfl : u = Value.bool true := r'
        refine ⟨rfl, OldK.of_keep fun b o e => ?_, os, bare⟩
        cases q : H b with
        | none => exact un.keep b o e q (by intro z; exact absurd (show b ∈ ([] : List Addr) from z) (by simp)) (by simp)
        | some u =>
          rcases hO b with z | ⟨ob, xs, z⟩
          · rw [q] at z; cases z
          · have z2 := un.frzs b ob _ z
            refine el_0_2 (hok b _ z) ?_; intro e1 _
            refine el_0_2 (hok' b _ z2) ?_; intro e2 _
            rw [e] at e1; cases e1
            exact e2
  cases hk : K.lookup a with
  | some o =>
    have e := KX a o hk
    rw [ha] at e
    cases e
    refine core (fun _ => none) (fun _ => .inl rfl) (.inr ⟨_, vs.toArray, _, hk, rfl, rfl, rfl, by rw [List.size_toArray, lenV]; exact hl, by simpa using rv⟩) (fun b u z => by have z' : (none : Option HO) = some u := z; cases z') (fun b z => absurd rfl z) fun z => absurd rfl z
  | none =>
    refine core (fun b => if b = a then some (.frz { cls := .type "list", data := .seq vs.toArray } (.lst (ns.map V.int))) else none) (fun b => ?_) (.inl (.inr ⟨{ cls := .type "list", data := .seq vs.toArray }, if_pos rfl⟩)) (fun b u z => ?_) (fun b z => ?_) fun _ => hk
    · by_cases hb : b = a
      · exact .inr ⟨_, _, if_pos hb⟩
      · exact .inl (if_neg hb)
    · by_cases hb : b = a
      · have z' := (if_pos hb).symm.trans z
        cases z'
        subst hb
        exact in_cceec ha (by rw [List.length_map]; exact hl) vs _ rv ha
      · have z' := (if_neg hb).symm.trans z
        cases z'
    · by_cases hb : b = a
      · exact hb
      · exact absurd (if_neg hb) z
end L2
namespace L2
open PySem PySem.Spec PyProof.Rows
noncomputable abbrev KOf {K : PySem.W.Frag} {h : Heap} (_ : K.In h) : PySem.W.Frag := K
theorem walk_of {l : PySem.W.OpenLaw} {n k : Nat} {q : Program} {loose : List Str} {XP : (Str → Option Value) → Heap → Prop} {YP : World → Heap → Prop} {d : DefRec} {K : Params → PySem.W.Frag} {CX : World → CXT} {sp : World → Sp} {x : Str}
    (hn : l.most = some n) (hn2 : n ≤ sizeLine) (hdf : d.params.defaults = []) (hr : Room k callerA)
    (hY : ∀ (w : World) (h : Heap), YP w h → (K w.params).In h)
    (F : ∀ (w : World) (mg : Str → Option Value) (fa : Addr) (h : Heap), (K w.params).In h → h.Ns mainGlobals mg → mg d.name = some (.ref fa) →
      ∃ fd : FuncData, (∀ (s : Shared) (u : Value), BindsTo s fd ⟨[u], []⟩ [(x, u)]) ∧
        ∀ base : Heap, (K w.params).In base → base.Ns mainGlobals mg → FnOk l.prog w (K w.params) mg base (CX w) k fa fd [x] (sp w))
    (hsp : ∀ (w : World) (H : Hp) (a : Addr) (ns : List Int), ns.length ≤ n → Only H → SqL (K w.params) H a (ns.map V.int) → sp w [.ref a] H (fun v _ => v = .bl true) fun _ _ _ => False)
    (hCX : ∀ (w : World) (H : Hp) (s : Shared) (e : Value) (s' : Shared), CX w [] H s (fun _ _ _ => False) e s' → False) :
    PySem.W.WalkO q loose XP YP l.row.toRowW d [] (fun f vs => PySem.call f vs) := by
  refine Att.attach_call hn hdf fun w s₀ s₁ mg mb fa o pm cd doc a vs ns G Y ho hd hcd hmg hobj hints hlen hg => ?_
  have KX := hY w _ Y
  refine el_1_2 (F w mg fa _ KX G.T.g hmg) ?_; intro fd hb hF
  exact law_call KX G.T.g G.T.b G.T.builtins G.T.nolimit hg hobj hints (Nat.le_trans hlen hn2) hr hF hb (fun H hO hS => hsp w H a ns hlen hO hS) fun H e s' => hCX w H s₁ e s'
end L2
namespace L2
open PySem PySem.Spec PyProof.Rows
noncomputable def inClass (s : Stmt) (j : Nat) : Stmt := match s with
  | .ClassDef _ _ _ body _ _ _ _ _ _ _ => body.getD j (.Pass ⟨0, 0, 0, 0⟩)
  | _ => .Pass ⟨0, 0, 0, 0⟩
noncomputable def defArgs (s : Stmt) : Arguments := match s with
  | .FunctionDef _ a _ _ _ _ _ _ _ _ => a
  | _ => { posonlyargs := [], args := [], vararg := none, kwonlyargs := [], kw_defaults := [], kwarg := none, defaults := [] }
noncomputable def defBody (s : Stmt) : List Stmt := match s with
  | .FunctionDef _ _ b _ _ _ _ _ _ _ => b
  | _ => []
noncomputable def defScope (s : Stmt) : Scope := match s with
  | .FunctionDef _ _ _ _ _ _ sc _ _ _ => sc
  | _ => { kind := .function, names := [], isGenerator := false, isCoroutine := false }
noncomputable abbrev CX0 : CXT := fun _ _ _ _ _ _ => False
noncomputable abbrev E0 : XK := fun _ _ _ => False
theorem pass0 {X : Cx} : Passes CX0 X E0 := fun _ _ _ _ _ _ _ h => h.elim
structure Fun (K : PySem.W.Frag) (x qual : Str) (st : Stmt) (f : Addr) (fd : FuncData) : Prop where
  ex : ∃ (oc : Value) (od : Option Addr) (kV doc pm : Value) (an : Option Addr) (cdv ct : Value) (osl : Array (Option Value)),
    fd = PySem.W.fnOf x qual (defArgs st) (defBody st) (defScope st) .none kV doc pm an cdv ct ∧ K.lookup f = some ⟨oc, od, .func fd, osl⟩ ∧ PySem.W.codeIn K cdv qual = true
  kp : PySem.W.keepIn K (.ref f) = true
section
variable {P : Program} {w : World} {K : PySem.W.Frag} {mg : Str → Option Value} {base : Heap}
theorem Fun.ok {x qual : Str} {st : Stmt} {f : Addr} {fd : FuncData} {N ps : List Str} {k : Nat} {sp : Sp} (F : Fun K x qual st f fd) (S : FnScope N ps (defScope st)) (len : ∀ vs H Q E, sp vs H Q E → vs.length = ps.length)
    (hbody : ∀ (cdv : Value) (A : Around) (outer : List Env) (s : Shared) (H : Hp) (vs : List V) (Q : VK) (E : XK), Room k (A.deeper (envOfC qual (defScope st) s.heap.objs.size f cdv)) → sp vs H Q E →
      ∃ t, PSs (cxOf CX0 P w K mg base N qual (defScope st) f cdv A outer s H E).nox (defBody st) t ∧ t { nx := fun _ H' => Q .non H', rt := Q } (start N vs) H) : FnOk P w K mg base CX0 (k + 1) f fd ps sp := by
  refine el_9_3 (F.ex) ?_; intro oc od kV doc pm an cdv ct osl zq115 lk hcd
  obtain rfl := zq115
  refine fn_of lk hcd S len fun A outer s H vs Q E hr hsp => ?_
  refine el_1_2 (hbody cdv A outer s H vs Q E hr hsp) ?_; intro t h q
  exact in_ec t h.nox q
theorem Fun.binds {x qual : Str} {st : Stmt} {f : Addr} {fd : FuncData} {ps : List Str} (F : Fun K x qual st f fd)
    (h : ∀ (kV doc pm : Value) (an : Option Addr) (cdv ct : Value) (us : List Value), us.length = ps.length → bindArgs (PySem.W.fnOf x qual (defArgs st) (defBody st) (defScope st) .none kV doc pm an cdv ct) ⟨us, []⟩ = pure (ps.zip us)) : Binds K fd ps [] := by
  refine el_9_3 (F.ex) ?_; intro oc od kV doc pm an cdv ct osl zq116 lk hcd
  obtain rfl := zq116
  exact .all (h kV doc pm an cdv ct)
theorem fun_mk {x qual : Str} {st : Stmt} {f : Addr} {oc : Value} {od an : Option Addr} {osl : Array (Option Value)} {kV doc pm cdv ct : Value} (l : K.lookup f = some ⟨oc, od, .func (PySem.W.fnOf x qual (defArgs st) (defBody st) (defScope st) .none kV doc pm an cdv ct), osl⟩)
    (c : PySem.W.codeIn K cdv qual = true) (k : PySem.W.keepIn K (.ref f) = true) : Fun K x qual st f (PySem.W.fnOf x qual (defArgs st) (defBody st) (defScope st) .none kV doc pm an cdv ct) := ⟨⟨oc, od, kV, doc, pm, an, cdv, ct, osl, rfl, l, c⟩, k⟩
end
theorem hu_of {A : Around} {k : Nat} (hr : Room k A) : A.units + 1 < cLine := Nat.lt_of_le_of_lt (Nat.add_le_add_left (by decide : 1 ≤ 64) _) hr.units
theorem small1000 {n : Nat} (h : n ≤ 1000) : n < sizeLine := Nat.lt_of_le_of_lt h (by decide)
section
variable {X : Cx}
end
end L2
namespace L2
open PySem PySem.Spec PyProof.Rows
section
variable {κ : Type} [DecidableEq κ]
noncomputable def valV (kvs : List (κ × V)) (k : κ) : Option V := (kvs.find? fun kv => decide (kv.1 = k)).map (·.2)
theorem valV_pos {p : κ × V} {r : List (κ × V)} {k : κ} (e : p.1 = k) : valV (p :: r) k = some p.2 := by simp [valV, List.find?_cons, e]
theorem valV_neg {p : κ × V} {r : List (κ × V)} {k : κ} (e : ¬ p.1 = k) : valV (p :: r) k = valV r k := by simp [valV, List.find?_cons, e]
theorem RelO.isSome_eq {o : Option V} {u : Option Value} (r : RelO o u) : o.isSome = u.isSome := by
  cases o with
  | none => cases u with
    | none => rfl
    | some _ => exact (show False from r).elim
  | some _ => cases u with
    | none => exact (show False from r).elim
    | some _ => rfl
theorem KV.val {kvs : List (κ × V)} {vs : List (κ × Value)} (r : KV kvs vs) (k : κ) : RelO (valV kvs k) (valueAt vs k) := by
  unfold KV at r
  induction r with
  | nil => exact True.intro
  | @cons p q ps qs h t ih =>
    refine el_0_2 h ?_; clear h; intro h1 h2
    by_cases e : p.1 = k
    · have e' : q.1 = k := h1.symm.trans e
      have b : valueAt (q :: qs) k = some q.2 := by simp [valueAt, List.find?_cons, e']
      rw [valV_pos e, b]; exact h2
    · have e' : ¬ q.1 = k := fun z => e (h1.trans z)
      have b : valueAt (q :: qs) k = valueAt qs k := by simp [valueAt, List.find?_cons, e']
      rw [valV_neg e, b]; exact ih
end
theorem kV_is {P : Program} {w : World} {k : Key} {u : Value} (r : RelV (kV k) u) : (mixKind P w).is k u = true := by
  cases k with
  | inl i => obtain ⟨t, e⟩ := (show ∃ t, u = Value.int i t from r); subst e; exact mixKind_int P w i t
  | inr x => obtain ⟨t, e⟩ := (show ∃ t, u = Value.str x t from r); subst e; exact mixKind_str P w x t
theorem items_are {P : Program} {w : World} : ∀ {ks : List Key} {us : List Value}, Vals (ks.map kV) us → ItemsAre (mixKind P w) ks us
  | [], _, r => by rw [List.map_nil] at r; cases r; exact .nil
  | k :: ks, _, r => by
    rw [List.map_cons] at r
    cases r with
    | cons h t => exact .cons (kV_is h) (items_are t)
noncomputable abbrev KT (H : Hp) : List (List Key × V) → List (List Key × Addr × Value) → Prop := Paired fun p q => p.1 = q.1 ∧ H q.2.1 = some (.tup (p.1.map kV)) ∧ RelV p.2 q.2.2
theorem KT.val {H : Hp} {kvs : List (List Key × V)} {xs : List (List Key × Addr × Value)} (r : KT H kvs xs) (k : List Key) : RelO (valV kvs k) ((atKey xs k).map (·.2)) := by
  induction r with
  | nil => exact True.intro
  | @cons p q ps qs h t ih =>
    refine el_0_3 h ?_; clear h; intro h1 _ h2
    by_cases e : p.1 = k
    · have e' : q.1 = k := h1.symm.trans e
      have b : atKey (q :: qs) k = some q.2 := by simp [atKey, List.find?_cons, e']
      rw [valV_pos e, b]; exact h2
    · have e' : ¬ q.1 = k := fun z => e (h1.trans z)
      have b : atKey (q :: qs) k = atKey qs k := by simp [atKey, List.find?_cons, e']
      rw [valV_neg e, b]; exact ih
section
variable {P : Program} {w : World} {H : Hp} {h : Heap} {a : Addr}
theorem rd_of {u : HO} (ok : HOk P w H h) (e : Rd H a u) : ObjOk P w H h a u := e.ok ok
theorem dk_rd {kvs : List (Key × V)} (ok : HOk P w H h) (e : Rd H a (.dK kvs)) : kvs.length ≤ sizeLine ∧ (a == sysModules) = false ∧ ∃ vs, KV kvs vs ∧ h.DictOf (mixKind P w) a vs :=
  show ObjOk P w H h a (.dK kvs) from rd_of ok e
theorem key_of {ks : List Key} (ok : HOk P w H h) (e : H a = some (.tup (ks.map kV))) : (tupleKind (mixKind P w)).is h ks a := by
  obtain ⟨_, its, r, o, h1, h2, n, h3⟩ := (show ObjOk P w H h a (.tup (ks.map kV)) from ok a _ e)
  exact in_eeeccc o its.toArray n h1 h2 h3 (by simpa using items_are r)
theorem dt_rd {kvs : List (List Key × V)} (ok : HOk P w H h) (e : Rd H a (.dT kvs)) : kvs.length ≤ sizeLine ∧ (a == sysModules) = false ∧
    ∃ xs, KT H kvs xs ∧ h.DictOfH (tupleKind (mixKind P w)) a xs := by
  obtain ⟨z, y, xs, r, o, es, ep, h1, h2, h3, h4, h5⟩ := (show ObjOk P w H h a (.dT kvs) from rd_of ok e)
  refine in_cceceeeccccc z y xs r o es ep h1 h2 h3 h4 (fun x hx => ?_) h5
  have all : ∀ {l : List (List Key × V)} {m : List (List Key × Addr × Value)}, KT H l m → ∀ x ∈ m, (tupleKind (mixKind P w)).is h x.1 x.2.1 := by
    intro l m q
    induction q with
    | nil => intro x hx; exact nomatch hx
    | @cons p q ps qs hq t ih =>
      intro x hx
      rcases List.mem_cons.mp hx with e | hx
      · subst e
        exact key_of ok (by rw [← hq.1]; exact hq.2.1)
      · exact ih x hx
  exact all r x hx
end
noncomputable def DGet (H : Hp) (a : Addr) (y : V) (r : Option V) : Prop :=
  (∃ kvs k, Rd H a (.dK kvs) ∧ y = kV k ∧ r = valV kvs k) ∨ ∃ kvs k b, Rd H a (.dT kvs) ∧ y = .ref b ∧ H b = some (.tup (k.map kV)) ∧ r = valV kvs k
section
variable {X : Cx} {pins : List (Addr × Obj)} {σ : St} {H : Hp} {s : Shared} {a : Addr} {y v : V} {u r : Value} {o : Option V} {A : Around} {E : Value → Shared → Prop}
theorem d_in {Q : Value → Shared → Prop} (hu : A.units + 1 < cLine) (I : Inv X pins σ H s) (g : DGet H a y o) (ry : RelV y u) (h : ∀ s', Inv X pins σ H s' → Q (.bool o.isSome) s') :
    wpAny (model X.prog X.w) A (compareOp .In u (.ref a)) Q E s := by
  rcases g with ⟨kvs, k, e, ey, l⟩ | ⟨kvs, k, b, e, ey, eb, l⟩
  · subst ey
    obtain ⟨z, hd, vs, rel, dd⟩ := dk_rd I.hok e
    refine wpAny_in_of (kV_is ry) hd dd.mapOf ?_
    rw [← (rel.val k).isSome_eq, ← l]
    exact h _ (I.tok _)
  · subst ey
    cases (show u = Value.ref b from ry)
    obtain ⟨z, hd, xs, rel, dd⟩ := dt_rd I.hok e
    refine wpAny_in_heap (tupleKind_room_in1 hu) (key_of I.hok eb) hd dd ?_
    have q := (rel.val k).isSome_eq
    rw [Option.isSome_map] at q
    rw [← q, ← l]
    exact h _ (I.tok _)
theorem d_notIn {Q : Value → Shared → Prop} (hu : A.units + 1 < cLine) (I : Inv X pins σ H s) (g : DGet H a y o) (ry : RelV y u) (h : ∀ s', Inv X pins σ H s' → Q (.bool (!o.isSome)) s') :
    wpAny (model X.prog X.w) A (compareOp .NotIn u (.ref a)) Q E s := by
  rcases g with ⟨kvs, k, e, ey, l⟩ | ⟨kvs, k, b, e, ey, eb, l⟩
  · subst ey
    obtain ⟨z, hd, vs, rel, dd⟩ := dk_rd I.hok e
    refine wpAny_notIn_of (kV_is ry) hd dd.mapOf ?_
    rw [← (rel.val k).isSome_eq, ← l]
    exact h _ (I.tok _)
  · subst ey
    cases (show u = Value.ref b from ry)
    obtain ⟨z, hd, xs, rel, dd⟩ := dt_rd I.hok e
    refine wpAny_notIn_heap (tupleKind_room_in1 hu) (key_of I.hok eb) hd dd ?_
    have q := (rel.val k).isSome_eq
    rw [Option.isSome_map] at q
    rw [← q, ← l]
    exact h _ (I.tok _)
end
section
variable {X : Cx} {pins : List (Addr × Obj)} {σ : St} {H : Hp} {s : Shared} {a : Addr} {kvs : List (Key × V)} {k : Key} {u : Value} {A : Around} {E : Value → Shared → Prop}
end
section
variable {X : Cx} {o i e value : Expr} {pos pos' tpos : Pos} {td ty tv : TE}
end
section
variable {X : Cx} {pos : Pos}
end
structure M1 (X : Cx) (o : Expr) (m : Str) (apos : Pos) (e : Expr) (cpos : Pos) : Prop where
  base : attributeBase o m X.env (eval o X.env) = eval o X.env
  few : ((backTo cpos (starEach [e] X.env)).all (fun x => !x.1) && (backToKw cpos (keywordEach [] X.env)).all (fun x => x.1.isSome)
    && decide (([e] : List Expr).length + ([] : List Keyword).length + (if ([] : List Keyword).isEmpty then 0 else 1) < 30)) = true
  line : (apos.endLine == cpos.line) = true
  trees : backTo cpos (starEach [e] X.env) = [(false, eval e X.env)]
structure M2 (X : Cx) (o : Expr) (m : Str) (apos : Pos) (e f : Expr) (cpos : Pos) : Prop where
  base : attributeBase o m X.env (eval o X.env) = eval o X.env
  few : ((backTo cpos (starEach [e, f] X.env)).all (fun x => !x.1) && (backToKw cpos (keywordEach [] X.env)).all (fun x => x.1.isSome)
    && decide (([e, f] : List Expr).length + ([] : List Keyword).length + (if ([] : List Keyword).isEmpty then 0 else 1) < 30)) = true
  line : (apos.endLine == cpos.line) = true
  trees : backTo cpos (starEach [e, f] X.env) = [(false, eval e X.env), (false, eval f X.env)]
section
variable {X : Cx} {pins : List (Addr × Obj)} {σ : St} {H : Hp} {s : Shared} {a : Addr} {y d : V} {u r : Value} {o : Option V} {A : Around} {E : Value → Shared → Prop}
end
section
variable {X : Cx} {o e f : Expr} {apos cpos : Pos} {td ty tx : TE}
end
section
variable {X : Cx} {pins : List (Addr × Obj)} {σ : St} {H : Hp} {s : Shared} {a : Addr} {kvs : List (Key × V)} {A : Around} {E : Value → Shared → Prop}
end
section
variable {X : Cx} {pins : List (Addr × Obj)} {σ : St} {H : Hp} {s : Shared} {a : Addr} {y : V} {u : Value} {A : Around} {E : Value → Shared → Prop}
end
end L2
namespace L2
open PySem PySem.Spec PyProof.Rows
section
variable {X : Cx}
end
section
variable {κ : Type} [DecidableEq κ]
end
end L2
set_option maxHeartbeats 4000000
namespace DL
open PySem PySem.Spec PyProof.Rows L2
noncomputable abbrev St := L2.St
inductive D where
  | non | bl (b : Bool) | int (i : Int) | str (x : Str) | ref (a : Addr) | ty (n : String) | tup (ds : List D) | rol (ds : List D)
noncomputable def SqF (K : PySem.W.Frag) (H : Hp) (a : Addr) (xs : List V) : Prop :=
  (∃ o, H a = some (.frz o (.lst xs))) ∨
    ∃ (o : Obj) (its : Array Value) (n : Nat), K.lookup a = some o ∧ o.cls = .type "list" ∧ o.dict = none ∧ o.data = .seq its n ∧ its.size ≤ sizeLine ∧ Vals xs its.toList
theorem SqF.sq {K : PySem.W.Frag} {H : Hp} {a : Addr} {xs : List V} (h : SqF K H a xs) : SqL K H a xs := by
  rcases h with ⟨o, h⟩ | h
  · exact .inl (.inr ⟨o, h⟩)
  · exact .inr h
mutual
inductive Is (K : PySem.W.Frag) (H : Hp) : V → D → Prop where
  | non : Is K H .non .non
  | bl (b : Bool) : Is K H (.bl b) (.bl b)
  | int (i : Int) : Is K H (.int i) (.int i)
  | str (x : Str) : Is K H (.str x) (.str x)
  | ref (a : Addr) : Is K H (.ref a) (.ref a)
  | ty (n : String) : Is K H (.ty n) (.ty n)
  | tup {a : Addr} {xs : List V} {ds : List D} : SqT K H a xs → Iss K H xs ds → Is K H (.ref a) (.tup ds)
  | rol {a : Addr} {xs : List V} {ds : List D} : SqF K H a xs → Iss K H xs ds → Is K H (.ref a) (.rol ds)
inductive Iss (K : PySem.W.Frag) (H : Hp) : List V → List D → Prop where
  | nil : Iss K H [] []
  | cons {x : V} {d : D} {xs : List V} {ds : List D} : Is K H x d → Iss K H xs ds → Iss K H (x :: xs) (d :: ds)
end
noncomputable def IsV (K : PySem.W.Frag) (H : Hp) (v : V) : D → Prop
  | .non => v = .non
  | .bl b => v = .bl b
  | .int i => v = .int i
  | .str x => v = .str x
  | .ref a => v = .ref a
  | .ty n => v = .ty n
  | d => Is K H v d
theorem Is.inv {K : PySem.W.Frag} {H : Hp} {v : V} {d : D} (h : Is K H v d) : IsV K H v d := by
  cases h <;> first | rfl | (exact .tup ‹_› ‹_›) | (exact .rol ‹_› ‹_›)
structure Ext0 (K : PySem.W.Frag) (H H' : Hp) : Prop where
  t : ∀ a xs, SqT K H a xs → SqT K H' a xs
  f : ∀ a xs, SqF K H a xs → SqF K H' a xs
structure Ext (K : PySem.W.Frag) (H H' : Hp) : Prop where
  t : ∀ a xs, SqT K H a xs → SqT K H' a xs
  z : ∀ a o u, H a = some (.frz o u) → H' a = some (.frz o u)
theorem Ext.f {K : PySem.W.Frag} {H H' : Hp} (e : Ext K H H') : ∀ a xs, SqF K H a xs → SqF K H' a xs := fun a xs h => by
  rcases h with ⟨o, h⟩ | h
  · exact .inl ⟨o, e.z _ _ _ h⟩
  · exact .inr h
theorem Ext.e0 {K : PySem.W.Frag} {H H' : Hp} (e : Ext K H H') : Ext0 K H H' := ⟨e.t, e.f⟩
theorem Ext.refl {K : PySem.W.Frag} (H : Hp) : Ext K H H := ⟨fun _ _ h => h, fun _ _ _ h => h⟩
theorem Ext.trans {K : PySem.W.Frag} {H H1 H2 : Hp} (a : Ext K H H1) (b : Ext K H1 H2) : Ext K H H2 := ⟨fun c o h => b.t c o (a.t c o h), fun c o u h => b.z c o u (a.z c o u h)⟩
section
variable {K : PySem.W.Frag} {H H' : Hp}
mutual
theorem Is.mono0 (e : Ext0 K H H') : ∀ {v : V} {d : D}, Is K H v d → Is K H' v d
  | _, _, .non => .non
  | _, _, .bl b => .bl b
  | _, _, .int i => .int i
  | _, _, .str x => .str x
  | _, _, .ref a => .ref a
  | _, _, .ty n => .ty n
  | _, _, .tup h hs => .tup (e.t _ _ h) (Iss.mono0 e hs)
  | _, _, .rol h hs => .rol (e.f _ _ h) (Iss.mono0 e hs)
theorem Iss.mono0 (e : Ext0 K H H') : ∀ {vs : List V} {ds : List D}, Iss K H vs ds → Iss K H' vs ds
  | _, _, .nil => .nil
  | _, _, .cons h t => .cons (Is.mono0 e h) (Iss.mono0 e t)
end
theorem Is.mono (e : Ext K H H') {v : V} {d : D} (h : Is K H v d) : Is K H' v d := h.mono0 e.e0
theorem Iss.mono (e : Ext K H H') {vs : List V} {ds : List D} (h : Iss K H vs ds) : Iss K H' vs ds := h.mono0 e.e0
theorem Iss.length : ∀ {vs : List V} {ds : List D}, Iss K H vs ds → vs.length = ds.length
  | _, _, .nil => rfl
  | _, _, .cons _ t => congrArg (· + 1) (Iss.length t)
theorem Iss.get : ∀ {vs : List V} {ds : List D} {i : Nat} {d : D}, Iss K H vs ds → ds[i]? = some d → ∃ v, vs[i]? = some v ∧ Is K H v d
  | _, _, _, _, .nil, e => by simp at e
  | _, _, 0, _, .cons h _, e => by simp at e; subst e; exact ⟨_, rfl, h⟩
  | _, _, i + 1, d, .cons _ t, e => by
    refine el_1_2 (Iss.get (i := i) (d := d) t (by simpa using e)) ?_; intro u h1 h2
    exact in_ec u (by simpa using h1) h2
theorem Iss.getV : ∀ {vs : List V} {ds : List D} {i : Nat} {v : V}, Iss K H vs ds → vs[i]? = some v → ∃ d, ds[i]? = some d ∧ Is K H v d
  | _, _, _, _, .nil, e => by simp at e
  | _, _, 0, _, .cons h _, e => by simp at e; subst e; exact ⟨_, rfl, h⟩
  | _, _, i + 1, v, .cons _ t, e => by
    refine el_1_2 (Iss.getV (i := i) (v := v) t (by simpa using e)) ?_; intro u h1 h2
    exact in_ec u (by simpa using h1) h2
theorem Iss.append : ∀ {vs ws : List V} {ds es : List D}, Iss K H vs ds → Iss K H ws es → Iss K H (vs ++ ws) (ds ++ es)
  | _, _, _, _, .nil, s => s
  | _, _, _, _, .cons r t, s => .cons r (Iss.append t s)
theorem Iss.take : ∀ {vs : List V} {ds : List D} (n : Nat), Iss K H vs ds → Iss K H (vs.take n) (ds.take n)
  | _, _, 0, _ => .nil
  | _, _, _ + 1, .nil => .nil
  | _, _, n + 1, .cons r t => .cons r (Iss.take n t)
theorem Iss.drop : ∀ {vs : List V} {ds : List D} (n : Nat), Iss K H vs ds → Iss K H (vs.drop n) (ds.drop n)
  | _, _, 0, r => r
  | _, _, _ + 1, .nil => .nil
  | _, _, n + 1, .cons _ t => Iss.drop n t
theorem Iss.set {x : V} {d : D} (r : Is K H x d) : ∀ {vs : List V} {ds : List D} (i : Nat), Iss K H vs ds → Iss K H (vs.set i x) (ds.set i d)
  | _, _, _, .nil => .nil
  | _, _, 0, .cons _ t => .cons r t
  | _, _, i + 1, .cons q t => .cons q (Iss.set r i t)
theorem Iss.dropLast {vs : List V} {ds : List D} (h : Iss K H vs ds) : Iss K H vs.dropLast ds.dropLast := by
  rw [List.dropLast_eq_take, List.dropLast_eq_take, h.length]
  exact h.take _
end
inductive MO where
  | lst (ds : List D) | dic (kvs : List (Key × D)) | fdc (kvs : List (Key × D)) | ins (C dx : Addr) (fs : List (Str × D)) | exc (cls : Value) | tdc (hf : List Key → Int) (kvs : List (List Key × D))
noncomputable def TDic (a : Addr) (hf : List Key → Int) (xs : List (List Key × Addr × Value)) : Heap → Prop := fun h => ∃ o es ep, h.get? a = some o ∧ o.ExactDict ∧ o.data = .dict es ep ∧ es.toList = xs.map (fun x => (⟨hf x.1, .ref x.2.1, x.2.2⟩ : DictEntry))
noncomputable abbrev TDRel (K : PySem.W.Frag) (H : Hp) : List (List Key × D) → List (List Key × Addr × Value) → Prop := Paired fun (q : List Key × D) (x : List Key × Addr × Value) => q.1 = x.1 ∧ SqT K H x.2.1 (q.1.map kV) ∧ ∃ v, RelV v x.2.2 ∧ Is K H v q.2
noncomputable abbrev DH := Addr → Option MO
noncomputable def updM (M : DH) (a : Addr) (o : MO) : DH := fun b => if b = a then some o else M b
theorem updM_same {M : DH} {a : Addr} {o : MO} : updM M a o a = some o := by unfold updM; rw [if_pos rfl]
theorem updM_ne {M : DH} {a b : Addr} {o : MO} (h : b ≠ a) : updM M a o b = M b := by unfold updM; rw [if_neg h]
theorem updM_upd {M : DH} {a : Addr} {o u : MO} : updM (updM M a o) a u = updM M a u := by
  funext b; unfold updM; split <;> rfl
noncomputable def MOk (K : PySem.W.Frag) (H : Hp) (a : Addr) : MO → Prop
  | .lst ds => ∃ xs, H a = some (.lst xs) ∧ Iss K H xs ds
  | .dic kvs => ∃ kx, H a = some (.dK kx) ∧ Paired (fun (p : Key × V) (q : Key × D) => p.1 = q.1 ∧ Is K H p.2 q.2) kx kvs
  | .fdc kvs => ∃ o kx, H a = some (.frz o (.dK kx)) ∧ Paired (fun (p : Key × V) (q : Key × D) => p.1 = q.1 ∧ Is K H p.2 q.2) kx kvs
  | .ins C dx fs => ∃ fx, H a = some (.ins C dx fx) ∧ H dx = some (.own a) ∧ Paired (fun (p : Str × V) (q : Str × D) => p.1 = q.1 ∧ Is K H p.2 q.2) fx fs
  | .exc cls => ∃ φ, H a = some (.ext φ) ∧ ∀ h, φ h → ∃ ob, h.get? a = some ob ∧ ob.cls = cls
  | .tdc hf kvs => ∃ xs, H a = some (.ext (TDic a hf xs)) ∧ TDRel K H kvs xs ∧ (a == sysModules) = false ∧ kvs.length ≤ sizeLine ∧ (kvs.map (·.1)).Nodup
noncomputable def HAbs (K : PySem.W.Frag) (M : DH) (H : Hp) : Prop := ∀ a o, M a = some o → MOk K H a o
noncomputable def Sub (M M' : DH) : Prop := ∀ a o, M a = some o → M' a = some o
theorem Sub.refl (M : DH) : Sub M M := fun _ _ h => h
theorem Sub.trans {M M1 M2 : DH} (a : Sub M M1) (b : Sub M1 M2) : Sub M M2 := fun c o h => b c o (a c o h)
theorem Sub.new {M : DH} {p : Addr} {o : MO} (h : M p = none) : Sub M (updM M p o) := fun a u e => by
  rw [updM_ne (by intro z; subst z; rw [h] at e; cases e)]; exact e
section
variable {K : PySem.W.Frag} {M M' : DH} {H H' : Hp} {a p : Addr}
theorem HAbs.sub (h : HAbs K M H) (s : Sub M' M) : HAbs K M' H := fun a o e => h a o (s a o e)
theorem HAbs.free (h : HAbs K M H) (e : H p = none) : M p = none := by
  cases q : M p with
  | none => rfl
  | some o =>
    have z := h p o q
    cases o with
    | lst ds => obtain ⟨xs, z, _⟩ := z; rw [e] at z; cases z
    | dic kvs => obtain ⟨xs, z, _⟩ := z; rw [e] at z; cases z
    | fdc kvs => obtain ⟨o, xs, z, _⟩ := z; rw [e] at z; cases z
    | ins C dx fs => obtain ⟨xs, z, _⟩ := z; rw [e] at z; cases z
    | exc cls => obtain ⟨φ, z, _⟩ := z; rw [e] at z; cases z
    | tdc hf kvs => obtain ⟨xs, z, _⟩ := z; rw [e] at z; cases z
theorem ext_upd {o : HO} (h : ∀ xs, ¬ Rd H p (.tup xs)) (h' : ∀ o u, H p ≠ some (.frz o u)) : Ext K H (upd H p o) := ⟨fun a xs s => by
  rcases s with s | s
  · refine .inl ?_
    have hne : a ≠ p := by intro z; subst z; exact h xs s
    rcases s with s | ⟨u, s⟩
    · exact .inl (by rw [upd_ne hne]; exact s)
    · exact .inr ⟨u, by rw [upd_ne hne]; exact s⟩
  · exact .inr s, fun a u x s => by rw [upd_ne (by intro z; subst z; exact h' u x s)]; exact s⟩
theorem ext_new {o : HO} (h : H p = none) : Ext K H (upd H p o) := ext_upd (fun xs s => by
  rcases s with s | ⟨u, s⟩ <;> rw [h] at s <;> cases s) (fun u xs s => by rw [h] at s; cases s)
noncomputable abbrev LstAt (M : DH) (a : Addr) (ds : List D) : Prop := M a = some (.lst ds)
theorem HAbs.lst {ds : List D} (h : HAbs K M H) (e : LstAt M a ds) : ∃ xs, SqL K H a xs ∧ Iss K H xs ds := by
  obtain ⟨xs, h1, h2⟩ := h a _ e; exact ⟨xs, .inl (.inl h1), h2⟩
theorem _root_.PySem.Paired.impP {α β : Type} {F G : α → β → Prop} (f : ∀ a b, F a b → G a b) : ∀ {l₁ : List α} {l₂ : List β}, Paired F l₁ l₂ → Paired G l₁ l₂
  | _, _, .nil => .nil
  | _, _, .cons r t => .cons (f _ _ r) (PySem.Paired.impP f t)
theorem MOk.mono {o : MO} (e : Ext0 K H H') (hk : ∀ u, H a = some u → H' a = some u) (ho : ∀ dx, H dx = some (.own a) → H' dx = some (.own a)) (h : MOk K H a o) : MOk K H' a o := by
  cases o with
  | lst ds => obtain ⟨xs, h1, h2⟩ := h; exact ⟨xs, hk _ h1, h2.mono0 e⟩
  | dic kvs => obtain ⟨xs, h1, h2⟩ := h; exact ⟨xs, hk _ h1, h2.impP fun p q ⟨r1, r2⟩ => ⟨r1, r2.mono0 e⟩⟩
  | fdc kvs => obtain ⟨o, xs, h1, h2⟩ := h; exact ⟨o, xs, hk _ h1, h2.impP fun p q ⟨r1, r2⟩ => ⟨r1, r2.mono0 e⟩⟩
  | ins C dx fs => obtain ⟨xs, h1, h3, h2⟩ := h; exact ⟨xs, hk _ h1, ho _ h3, h2.impP fun p q ⟨r1, r2⟩ => ⟨r1, r2.mono0 e⟩⟩
  | exc cls => obtain ⟨φ, h1, h2⟩ := h; exact ⟨φ, hk _ h1, h2⟩
  | tdc hf kvs => obtain ⟨xs, h1, h2, h3⟩ := h; exact ⟨xs, hk _ h1, h2.impP fun p q ⟨r1, r2, v, r3, r4⟩ => ⟨r1, e.t _ _ r2, v, r3, r4.mono0 e⟩, h3⟩
theorem HAbs.new {o : HO} (h : HAbs K M H) (e : H p = none) : HAbs K M (upd H p o) := fun a u q =>
  (h a u q).mono (ext_new e).e0 (fun v z => by rw [upd_ne (ne_of_none z e)]; exact z) (fun dx z => by rw [upd_ne (ne_of_none z e)]; exact z)
theorem HAbs.newM {o : HO} {m : MO} (h : HAbs K M H) (e : H p = none) (hm : MOk K (upd H p o) p m) : HAbs K (updM M p m) (upd H p o) := fun a u q => by
  by_cases z : a = p
  · subst z; rw [updM_same] at q; cases q; exact hm
  · rw [updM_ne z] at q; exact h.new e a u q
theorem HAbs.newL {es : List D} {ys : List V} (h : HAbs K M H) (e : H p = none) (i : Iss K H ys es) : HAbs K (updM M p (.lst es)) (upd H p (.lst ys)) := h.newM e (show MOk K _ p (.lst es) from ⟨ys, upd_same, i.mono (ext_new e)⟩)
theorem HAbs.setL {ds es : List D} {xs ys : List V} (h : HAbs K M H) (e : M p = some (.lst ds)) (hx : H p = some (.lst xs)) (hy : Iss K H ys es) :
    HAbs K (updM M p (.lst es)) (upd H p (.lst ys)) ∧ Ext K H (upd H p (.lst ys)) := by
  have ex : Ext K H (upd H p (.lst ys)) := ext_upd (fun zs s => by rcases s with s | ⟨u, s⟩ <;> rw [hx] at s <;> cases s) (fun u xs s => by rw [hx] at s; cases s)
  refine ⟨fun a u q => ?_, ex⟩
  by_cases z : a = p
  · subst z; rw [updM_same] at q; cases q; exact ⟨ys, upd_same, hy.mono ex⟩
  · rw [updM_ne z] at q
    exact (h a u q).mono ex.e0 (fun v w => by rw [upd_ne z]; exact w) (fun dx w => by rw [upd_ne (ne_of w hx (by intro k; cases k))]; exact w)
end
noncomputable abbrev DSt := List (Option D)
noncomputable abbrev KD := D → DH → Prop
noncomputable abbrev TEd := DSt → DH → KD → Prop
noncomputable abbrev TTd := DSt → DH → (Bool → DH → Prop) → Prop
noncomputable abbrev TAd := DSt → DH → (List D → DH → Prop) → Prop
structure EndsD where
  nx : DSt → DH → Prop
  rt : KD
  bk : DSt → DH → Prop := fun _ _ => False
  ct : DSt → DH → Prop := fun _ _ => False
noncomputable abbrev TSd := EndsD → DSt → DH → Prop
noncomputable def SAbs (K : PySem.W.Frag) (τ : DSt) (σ : St) (H : Hp) : Prop := τ.length = σ.length ∧ ∀ (i : Nat) d, τ[i]? = some (some d) → ∃ v, σ[i]? = some (some v) ∧ Is K H v d
theorem SAbs.mono0 {K : PySem.W.Frag} {τ : DSt} {σ : St} {H H' : Hp} (e : Ext0 K H H') (h : SAbs K τ σ H) : SAbs K τ σ H' :=
  ⟨h.1, fun i d q => let ⟨v, h1, h2⟩ := h.2 i d q; ⟨v, h1, h2.mono0 e⟩⟩
theorem SAbs.mono {K : PySem.W.Frag} {τ : DSt} {σ : St} {H H' : Hp} (e : Ext K H H') (h : SAbs K τ σ H) : SAbs K τ σ H' := h.mono0 e.e0
theorem SAbs.set {K : PySem.W.Frag} {τ : DSt} {σ : St} {H : Hp} {i : Nat} {v : V} {d : D} (h : SAbs K τ σ H) (r : Is K H v d) : SAbs K (τ.set i (some d)) (σ.set i (some v)) H := by
  refine ⟨by rw [List.length_set, List.length_set]; exact h.1, fun j e q => ?_⟩
  rw [List.getElem?_set] at q
  by_cases hj : i = j
  · subst hj
    rw [if_pos rfl] at q
    by_cases hl : i < τ.length
    · rw [if_pos hl] at q
      cases q
      exact in_ec v (by rw [List.getElem?_set, if_pos rfl, if_pos (by rw [← h.1]; exact hl)]) r
    · rw [if_neg hl] at q; cases q
  · rw [if_neg hj] at q
    refine el_1_2 (h.2 j e q) ?_; intro u h1 h2
    exact in_ec u (by rw [List.getElem?_set, if_neg hj]; exact h1) h2
noncomputable def lowQ (K : PySem.W.Frag) (H : Hp) (Q' : KD) (Q : VK) : Prop := ∀ d M1 v H1, HAbs K M1 H1 → Ext K H H1 → Is K H1 v d → Q' d M1 → Q v H1
noncomputable def low (K : PySem.W.Frag) (te : TEd) : TE := fun σ H Q => ∃ τ M Q', SAbs K τ σ H ∧ HAbs K M H ∧ te τ M Q' ∧ lowQ K H Q' Q
noncomputable def lowT (K : PySem.W.Frag) (te : TTd) : TT := fun σ H Q => ∃ τ M Q', SAbs K τ σ H ∧ HAbs K M H ∧ te τ M Q' ∧ ∀ b M1 H1, HAbs K M1 H1 → Ext K H H1 → Q' b M1 → Q b H1
noncomputable def lowA (K : PySem.W.Frag) (te : TAd) : TA := fun σ H Q => ∃ τ M Q', SAbs K τ σ H ∧ HAbs K M H ∧ te τ M Q' ∧ ∀ ds M1 vs H1, HAbs K M1 H1 → Ext K H H1 → Iss K H1 vs ds → Q' ds M1 → Q vs H1
structure LowD (K : PySem.W.Frag) (H : Hp) (D' : EndsD) (D : Ends) : Prop where
  nx : ∀ τ M σ H1, SAbs K τ σ H1 → HAbs K M H1 → Ext K H H1 → D'.nx τ M → D.nx σ H1
  rt : lowQ K H D'.rt D.rt
  bk : ∀ τ M σ H1, SAbs K τ σ H1 → HAbs K M H1 → Ext K H H1 → D'.bk τ M → D.bk σ H1
  ct : ∀ τ M σ H1, SAbs K τ σ H1 → HAbs K M H1 → Ext K H H1 → D'.ct τ M → D.ct σ H1
noncomputable def lowS (K : PySem.W.Frag) (t : TSd) : TS := fun D σ H => ∃ τ M D', SAbs K τ σ H ∧ HAbs K M H ∧ t D' τ M ∧ LowD K H D' D
theorem lowQ.ext {K : PySem.W.Frag} {H H' : Hp} {Q' : KD} {Q : VK} (h : lowQ K H Q' Q) (e : Ext K H H') : lowQ K H' Q' Q := fun d M1 v H1 a b c q => h d M1 v H1 a (e.trans b) c q
theorem LowD.ext {K : PySem.W.Frag} {H H' : Hp} {D' : EndsD} {D : Ends} (h : LowD K H D' D) (e : Ext K H H') : LowD K H' D' D :=
  ⟨fun τ M σ H1 a b c q => h.nx τ M σ H1 a b (e.trans c) q, h.rt.ext e, fun τ M σ H1 a b c q => h.bk τ M σ H1 a b (e.trans c) q, fun τ M σ H1 a b c q => h.ct τ M σ H1 a b (e.trans c) q⟩
section
variable {X : Cx} {e a b c : Expr} {es : List Expr} {pos : Pos}
theorem _root_.L2.PE.imp {t t' : TE} (h : PE X e t) (hi : ∀ σ H Q, t' σ H Q → t σ H Q) : PE X e t' := fun pins s σ H Q I q => h pins s σ H Q I (hi _ _ _ q)
theorem _root_.L2.PT.imp {t t' : TT} (h : PT X e t) (hi : ∀ σ H Q, t' σ H Q → t σ H Q) : PT X e t' := fun pins s σ H Q I q => h pins s σ H Q I (hi _ _ _ q)
theorem _root_.L2.PW.imp {t t' : TT} (h : PW X e t) (hi : ∀ σ H Q, t' σ H Q → t σ H Q) : PW X e t' := fun wh pins s σ H Q I q => h wh pins s σ H Q I (hi _ _ _ q)
theorem _root_.L2.PA.imp {t t' : TA} (h : PA X es t) (hi : ∀ σ H Q, t' σ H Q → t σ H Q) : PA X es t' := fun p pins s σ H Q I q => h p pins s σ H Q I (hi _ _ _ q)
theorem _root_.L2.PS.imp {st : Stmt} {t t' : TS} (h : PS X st t) (hi : ∀ D σ H, t' D σ H → t D σ H) : PS X st t' := fun pins s σ H D I q => h pins s σ H D I (hi _ _ _ q)
theorem _root_.L2.PSs.imp {st : List Stmt} {t t' : TS} (h : PSs X st t) (hi : ∀ D σ H, t' D σ H → t D σ H) : PSs X st t' := fun pins s σ H D I q => h pins s σ H D I (hi _ _ _ q)
noncomputable def onBl : D → (Bool → Prop) → Prop
  | .bl k, Q => Q k
  | _, _ => False
noncomputable def onInt : D → (Int → Prop) → Prop
  | .int i, Q => Q i
  | _, _ => False
noncomputable def onVal : Option (Option D) → (D → Prop) → Prop
  | some (some d), Q => Q d
  | _, _ => False
noncomputable def onSome {α : Type} : Option α → (α → Prop) → Prop
  | some a, Q => Q a
  | none, _ => False
theorem onVal_some {o : Option (Option D)} {Q : D → Prop} (h : onVal o Q) : ∃ d, o = some (some d) ∧ Q d := by
  match o, h with
  | some (some d), h => exact ⟨d, rfl, h⟩
noncomputable def eVar (i : Nat) : TEd := fun τ M Q => onVal τ[i]? fun d => Q d M
noncomputable def eC (d : D) : TEd := fun _ M Q => Q d M
theorem d_var (i : Nat) {x : Str} (hN : X.N[i]? = some x := by rfl) (hv : Vis X.env.scope x := by first | exact Or.inl rfl | exact Or.inr (Or.inl rfl) | exact Or.inr (Or.inr rfl)) (hd : (x == ("__debug__" : Str)) = false := by decide)
    (hcd : (x == ("__classdict__" : Str)) = false := by decide) : PE X (.Name x pos) (low X.K (eVar i)) :=
  (pe_var hN hv hd hcd).imp fun σ H Q ⟨τ, M, Q', hs, hm, h, hq⟩ => by
    refine el_1_2 (onVal_some h) ?_; (try clear h); intro d hd' h
    refine el_1_2 (hs.2 i d hd') ?_; intro v h1 h2
    exact in_ec v h1 (hq d M v H hm (Ext.refl H) h2 h)
theorem low_const {d : D} {v : V} (hv : ∀ H, Is X.K H v d) {σ : St} {H : Hp} {Q : VK} (h : low X.K (eC d) σ H Q) : tC v σ H Q :=
  let ⟨_, M, _, _, hm, q, hq⟩ := h; hq d M v H hm (Ext.refl H) (hv H) q
theorem d_int {i j} : PE X (.Constant (.int i) j pos) (low X.K (eC (.int i))) := pe_int.imp fun _ _ _ h => low_const (fun _ => .int i) h
theorem d_bl {b j} : PE X (.Constant (.bool b) j pos) (low X.K (eC (.bl b))) := pe_bl.imp fun _ _ _ h => low_const (fun _ => .bl b) h
theorem d_str {x j} : PE X (.Constant (.str x) j pos) (low X.K (eC (.str x))) := pe_str.imp fun _ _ _ h => low_const (fun _ => .str x) h
theorem d_glob_int {x : Str} {i : Int} {u : Value} (hg : Gl X x) (hm : X.mg x = some u) (r : ∃ t, u = Value.int i t) (hd : (x == ("__debug__" : Str)) = false := by decide) : PE X (.Name x pos) (low X.K (eC (.int i))) :=
  (pe_glob (v := .int i) hg hm r hd).imp fun _ _ _ h => low_const (fun _ => .int i) h
noncomputable abbrev RD2 := D → D → DH → KD → Prop
noncomputable def lowR2 (K : PySem.W.Frag) (r : RD2) : R2 := fun vx vy H Q => ∃ x y M Q', Is K H vx x ∧ Is K H vy y ∧ HAbs K M H ∧ r x y M Q' ∧ lowQ K H Q' Q
noncomputable def OpD (X : Cx) (f : Value → Value → Sem Value) (r : RD2) : Prop := OpR X f (lowR2 X.K r)
noncomputable def eOp (r : RD2) (ta tb : TEd) : TEd := fun τ M Q => ta τ M fun x M1 => tb τ M1 fun y M2 => r x y M2 Q
theorem low_op {K : PySem.W.Frag} {r : RD2} {ta tb : TEd} {σ : St} {H : Hp} {Q : VK} (h : low K (eOp r ta tb) σ H Q) : tOp (lowR2 K r) (low K ta) (low K tb) σ H Q := by
  refine el_3_4 h ?_; clear h; intro τ M Q' hs hm h hq
  refine in_eeeccc τ M _ hs hm h (fun x M1 vx H1 m1 e1 i1 h1 => ?_)
  refine in_eeeccc τ M1 _ (hs.mono e1) m1 h1 (fun y M2 vy H2 m2 e2 i2 h2 => ?_)
  exact in_eeeecccc x y M2 Q' (i1.mono e2) i2 m2 h2 (hq.ext (e1.trans e2))
variable {ta tb tc : TEd}
theorem d_op {op : Operator} {r : RD2} (ho : OpD X (binaryOp op) r) (ha : PE X a (low X.K ta)) (hb : PE X b (low X.K tb)) : PE X (.BinOp a op b pos) (low X.K (eOp r ta tb)) :=
  (pe_op ho ha hb).imp fun _ _ _ h => low_op h
theorem d_cmp {op : CmpOp} {r : RD2} (ho : OpD X (compareOp op) r) (ha : PE X a (low X.K ta)) (hb : PE X b (low X.K tb)) (hm : behindInMarks op b = false) : PE X (.Compare a [op] [b] pos) (low X.K (eOp r ta tb)) :=
  (pe_cmpR ho ha hb hm).imp fun _ _ _ h => low_op h
noncomputable def eTest (t : TEd) : TTd := fun τ M Q => t τ M fun x M' => onBl x fun k => Q k M'
theorem dt_cmp {op : CmpOp} {r : RD2} (ho : OpD X (compareOp op) r) (ha : PE X a (low X.K ta)) (hb : PE X b (low X.K tb)) (hm : behindInMarks op b = false) : PT X (.Compare a [op] [b] pos) (lowT X.K (eTest (eOp r ta tb))) := by
  refine (pt_cmpR ho ha hb hm).imp fun σ H Q h => ?_
  refine el_3_4 h ?_; clear h; intro τ M Q' hs hm' h hq
  refine low_op ⟨τ, M, _, hs, hm', h, fun d M1 v H1 m1 e1 i1 h1 => ?_⟩
  cases i1 with
  | bl k => exact ⟨k, rfl, hq k M1 H1 m1 e1 h1⟩
  | _ => exact h1.elim
noncomputable def eChain (r r' : RD2) (ta tb tc : TEd) : TEd := fun τ M Q => ta τ M fun x M1 => tb τ M1 fun y M2 => r x y M2 fun z M3 => onBl z fun k => if k = true then tc τ M3 fun w' M4 => r' y w' M4 Q else Q (.bl false) M3
theorem low_chain {K : PySem.W.Frag} {r r' : RD2} {ta tb tc : TEd} {σ : St} {H : Hp} {Q : VK} (h : low K (eChain r r' ta tb tc) σ H Q) : tChain (lowR2 K r) (lowR2 K r') (low K ta) (low K tb) (low K tc) σ H Q := by
  refine el_3_4 h ?_; clear h; intro τ M Q' hs hm h hq
  refine in_eeeccc τ M _ hs hm h (fun x M1 vx H1 m1 e1 i1 h1 => ?_)
  refine in_eeeccc τ M1 _ (hs.mono e1) m1 h1 (fun y M2 vy H2 m2 e2 i2 h2 => ?_)
  refine in_eeeecccc x y M2 _ (i1.mono e2) i2 m2 h2 (fun z M3 vz H3 m3 e3 i3 h3 => ?_)
  cases i3 with
  | bl k =>
    refine in_ec k rfl ?_
    cases k with
    | true =>
      rw [if_pos rfl]
      have h3 : tc τ M3 fun w' M4 => r' y w' M4 Q' := h3
      refine in_eeeccc τ M3 _ (hs.mono (e1.trans (e2.trans e3))) m3 h3 (fun w M4 vw H4 m4 e4 i4 h4 => ?_)
      exact in_eeeecccc y w M4 Q' (i2.mono (e3.trans e4)) i4 m4 h4 (hq.ext (e1.trans (e2.trans (e3.trans e4))))
    | false =>
      rw [if_neg Bool.false_ne_true]
      have h3 : Q' (.bl false) M3 := h3
      exact hq _ M3 _ H3 m3 (e1.trans (e2.trans e3)) (.bl false) h3
  | _ => exact h3.elim
theorem d_chain {op op' : CmpOp} {r r' : RD2} (ho : OpD X (compareOp op) r) (ho' : OpD X (compareOp op') r') (ha : PE X a (low X.K ta)) (hb : PE X b (low X.K tb)) (hc : PE X c (low X.K tc))
    (hm : lastMarks [op, op'] [b, c] = false := by with_unfolding_all rfl) : PE X (.Compare a [op, op'] [b, c] pos) (low X.K (eChain r r' ta tb tc)) :=
  (pe_chain ho ho' ha hb hc hm).imp fun _ _ _ h => low_chain h
theorem dt_chain {op op' : CmpOp} {r r' : RD2} (ho : OpD X (compareOp op) r) (ho' : OpD X (compareOp op') r') (ha : PE X a (low X.K ta)) (hb : PE X b (low X.K tb)) (hc : PE X c (low X.K tc))
    (hm : lastMarks [op, op'] [b, c] = false := by with_unfolding_all rfl) : PT X (.Compare a [op, op'] [b, c] pos) (lowT X.K (eTest (eChain r r' ta tb tc))) := by
  refine (pt_chain ho ho' ha hb hc hm).imp fun σ H Q h => ?_
  refine el_3_4 h ?_; clear h; intro τ M Q' hs hm' h hq
  refine low_chain ⟨τ, M, _, hs, hm', h, fun d M1 v H1 m1 e1 i1 h1 => ?_⟩
  cases i1 with
  | bl k => exact ⟨k, rfl, hq k M1 H1 m1 e1 h1⟩
  | _ => exact h1.elim
end
end DL
namespace DL
open PySem PySem.Spec PyProof.Rows L2
section
variable {X : Cx} {e a b c : Expr} {es : List Expr} {pos : Pos} {ta tb tc : TEd}
theorem lowQ.here {K : PySem.W.Frag} {H : Hp} {Q' : KD} {Q : VK} {M : DH} {d : D} {v : V} (hq : lowQ K H Q' Q) (hm : HAbs K M H) (i : Is K H v d) (q : Q' d M) : Q v H := hq d M v H hm (Ext.refl H) i q
noncomputable def dI (g : Int → Int → D) : D → D → DH → KD → Prop
  | .int i, .int j, M, Q => Q (g i j) M
  | _, _, _, _ => False
noncomputable def dIC (C : Int → Int → Prop) (g : Int → Int → D) : D → D → DH → KD → Prop
  | .int i, .int j, M, Q => C i j ∧ Q (g i j) M
  | _, _, _, _ => False
theorem dI_inv {g : Int → Int → D} {x y : D} {M : DH} {Q : KD} (q : dI g x y M Q) : ∃ i j, x = .int i ∧ y = .int j ∧ Q (g i j) M := by
  cases x with
  | int i => cases y with
    | int j => exact ⟨i, j, rfl, rfl, q⟩
    | _ => exact q.elim
  | _ => exact q.elim
theorem dIC_inv {C : Int → Int → Prop} {g : Int → Int → D} {x y : D} {M : DH} {Q : KD} (q : dIC C g x y M Q) : ∃ i j, x = .int i ∧ y = .int j ∧ C i j ∧ Q (g i j) M := by
  cases x with
  | int i => cases y with
    | int j => exact ⟨i, j, rfl, rfl, q⟩
    | _ => exact q.elim
  | _ => exact q.elim
theorem od_I {f : Value → Value → Sem Value} {g : Int → Int → Int} (h : OpR X f (rI0 fun i j => .int (g i j))) : OpD X f (dI fun i j => .int (g i j)) := by
  intro pins s σ H vx vy v u Q I rx ry zr117
  refine el_4_5 zr117 ?_; clear zr117; intro x y M Q' ix iy hm q hq
  refine el_2_3 (dI_inv q) ?_; (try clear q); intro i j zq118 zq119 q
  obtain rfl := zq118
  obtain rfl := zq119
  exact h pins s σ H _ _ v u Q I rx ry ⟨_, _, ix.inv, iy.inv, hq.here hm (.int _) q⟩
theorem od_IC {f : Value → Value → Sem Value} {C : Int → Int → Prop} {g : Int → Int → Int} (h : OpR X f (rI C fun i j => .int (g i j))) : OpD X f (dIC C fun i j => .int (g i j)) := by
  intro pins s σ H vx vy v u Q I rx ry zr120
  refine el_4_5 zr120 ?_; clear zr120; intro x y M Q' ix iy hm q hq
  refine el_2_3 (dIC_inv q) ?_; (try clear q); intro i j zq121 zq122 q
  obtain rfl := zq121
  obtain rfl := zq122
  exact h pins s σ H _ _ v u Q I rx ry ⟨_, _, ix.inv, iy.inv, q.1, hq.here hm (.int _) q.2⟩
theorem od_B {f : Value → Value → Sem Value} {g : Int → Int → Bool} (h : OpR X f (rI0 fun i j => .bl (g i j))) : OpD X f (dI fun i j => .bl (g i j)) := by
  intro pins s σ H vx vy v u Q I rx ry zr123
  refine el_4_5 zr123 ?_; clear zr123; intro x y M Q' ix iy hm q hq
  refine el_2_3 (dI_inv q) ?_; (try clear q); intro i j zq124 zq125 q
  obtain rfl := zq124
  obtain rfl := zq125
  exact h pins s σ H _ _ v u Q I rx ry ⟨_, _, ix.inv, iy.inv, hq.here hm (.bl _) q⟩
theorem od_sub : OpD X (binaryOp .Sub) (dI fun i j => .int (i - j)) := od_I op_sub
theorem od_mod : OpD X (binaryOp .Mod) (dIC (fun _ j => 0 < j) fun i j => .int (i % j)) := od_IC op_mod
theorem od_fdiv : OpD X (binaryOp .FloorDiv) (dIC CDiv fun i j => .int (i / j)) := od_IC op_fdiv
theorem od_pow : OpD X (binaryOp .Pow) (dIC CPow fun i j => .int (i ^ j.toNat)) := od_IC op_pow
theorem od_lt : OpD X (compareOp .Lt) (dI fun i j => .bl (decide (i < j))) := od_B op_lt
theorem od_gt : OpD X (compareOp .Gt) (dI fun i j => .bl (decide (j < i))) := od_B op_gt
theorem od_ge : OpD X (compareOp .GtE) (dI fun i j => .bl (decide (j ≤ i))) := od_B op_ge
theorem cat_tup0 {t b : Addr} {ws : List Value} {prog : Program} {w : World} {A : Around} {E : Value → Shared → Prop} {s : Shared} {Q : Value → Shared → Prop} (ht : IsTup s.heap t #[]) (hb : IsTup s.heap b ws.toArray)
    (h : Q (.ref b) s) : wpAny (model prog w) A (binaryOp .Add (.ref t) (.ref b)) Q E s := by
  obtain ⟨⟨cls, dd, data, sl⟩, ho, hc, n, hd⟩ := id ht
  obtain ⟨⟨cls2, dd2, data2, sl2⟩, ho2, hc2, n2, hd2⟩ := id hb
  simp only at hc hd hc2 hd2
  subst hc hd hc2 hd2
  exact concat_meets ⟨_, ho, rfl⟩ ⟨_, ho2, rfl⟩ noFill_tuple_add seq_tuple_add PySem.F.slot_tuple_add PySem.F.entry_tuple_add (PySem.F.args_tuple_add_2 _ _)
      (tuple_addW0 t b #[] ws.toArray n n2 dd dd2 sl sl2 (by simp)) ⟨ho, ho2, h⟩
noncomputable def addD : D → D → DH → KD → Prop
  | .int i, .int j, M, Q => Q (.int (i + j)) M
  | .str i, .str j, M, Q => i.length + j.length ≤ sizeLine ∧ Q (.str (i ++ j)) M
  | .tup xs, .tup ys, M, Q => xs.length + ys.length ≤ sizeLine ∧ Q (.tup (xs ++ ys)) M
  | .ref l, .ref r, M, Q => ∃ xs ys, LstAt M l xs ∧ LstAt M r ys ∧ xs.length + ys.length ≤ sizeLine ∧ ∀ p, M p = none → Q (.ref p) (updM M p (.lst (xs ++ ys)))
  | .rol xs, .ref r, M, Q => ∃ ys, LstAt M r ys ∧ xs.length + ys.length ≤ sizeLine ∧ ∀ p, M p = none → Q (.ref p) (updM M p (.lst (xs ++ ys)))
  | _, _, _, _ => False
theorem add_lists {pins : List (Addr × Obj)} {σ : St} {H : Hp} {s : Shared} {M : DH} {Q' : KD} {Q : VK} {l r : Addr} {us ws : List V} {xs ys : List D} (I : Inv X pins σ H s) (hm : HAbs X.K M H) (hu : SqL X.K H l us) (i1 : Iss X.K H us xs) (hw : SqL X.K H r ws) (i2 : Iss X.K H ws ys)
    (hz : xs.length + ys.length ≤ sizeLine) (q : ∀ p, M p = none → Q' (.ref p) (updM M p (.lst (xs ++ ys)))) (hq : lowQ X.K H Q' Q) : wpAny (model X.prog X.w) X.A (binaryOp .Add (.ref l) (.ref r)) (EP X pins σ Q) X.xe s := by
  refine el_1_3 (I.list hu) ?_; intro its r1 p1 _
  refine el_1_3 (I.list hw) ?_; intro its2 r2 p2 _
  obtain ⟨⟨cls, dd, data, sl⟩, ho, hc, n, hd⟩ := p1.isList
  obtain ⟨⟨cls2, dd2, data2, sl2⟩, ho2, hc2, n2, hd2⟩ := p2.isList
  simp only at hc hd hc2 hd2
  subst hc hd hc2 hd2
  have hz' : its.toArray.size + its2.toArray.size ≤ sizeLine := by
    rw [List.size_toArray, List.size_toArray, ← r1.length, ← r2.length, i1.length, i2.length]; exact hz
  have ea : its.toArray ++ its2.toArray = (its ++ its2).toArray := by simp
  refine concat_meets ⟨_, ho, rfl⟩ ⟨_, ho2, rfl⟩ noFill_list_add seq_list_add PySem.F.slot_list_add PySem.F.entry_list_add (PySem.F.args_list_add_2 _ _) (list_addW l r its.toArray its2.toArray n n2 dd dd2 sl sl2 hz') ⟨ho, ho2, ?_⟩
  rw [ea]
  have hf : H s.heap.objs.size = none := I.fresh
  refine in_eecc (.ref _) _ (I.lnew (t' := s.toks) (r1.append r2) (by rw [List.length_append, i1.length, i2.length]; exact hz)) rfl ?_
  exact hq _ _ _ _ (hm.newL hf (i1.append i2)) (ext_new hf) (.ref _) (q _ (hm.free hf))
theorem od_add : OpD X (binaryOp .Add) addD := by
  intro pins s σ H vx vy v u Q I rx ry zr126
  refine el_4_5 zr126 ?_; clear zr126; intro x y M Q' ix iy hm q hq
  cases ix with
  | int i => cases iy with
    | int j => exact op_add pins s σ H _ _ v u Q I rx ry ⟨_, _, rfl, rfl, hq.here hm (.int _) q⟩
    | _ => exact q.elim
  | str i => cases iy with
    | str j => exact op_add_str pins s σ H _ _ v u Q I rx ry ⟨_, _, rfl, rfl, q.1, hq.here hm (.str _) q.2⟩
    | _ => exact q.elim
  | @tup a xs ds hx hxs => cases iy with
    | @tup b ys es hy hys =>
      refine el_0_2 q ?_; clear q; intro hz q
      have hz' : xs.length + ys.length ≤ sizeLine := by rw [hxs.length, hys.length]; exact hz
      by_cases h0 : xs = []
      · subst h0
        cases hxs
        cases rx
        cases ry
        refine el_1_3 (I.tuple hx) ?_; intro its r1 p1 _
        refine el_1_3 (I.tuple hy) ?_; intro its2 r2 p2 _
        cases r1
        exact cat_tup0 p1 p2 ⟨.ref b, H, I, rfl, hq.here hm (.tup hy hys) q⟩
      · refine op_catT pins s σ H _ _ v u Q I rx ry ⟨a, b, xs, ys, rfl, rfl, hx, hy, h0, hz', fun z => ?_, fun z p hp => ?_⟩
        · subst z
          cases hys
          rw [List.append_nil] at q
          exact hq.here hm (.tup hx hxs) q
        · exact hq _ M _ _ (hm.new hp) (ext_new hp) (.tup (SqT.of upd_same) ((hxs.append hys).mono (ext_new hp))) q
    | _ => exact q.elim
  | ref l => cases iy with
    | ref r =>
      refine el_2_4 q ?_; clear q; intro xs ys hl hr hz q
      cases rx
      cases ry
      refine el_1_2 (hm.lst hl) ?_; intro us hu i1
      refine el_1_2 (hm.lst hr) ?_; intro ws hw i2
      exact add_lists I hm hu i1 hw i2 hz q hq
    | _ => exact q.elim
  | rol h hxs => cases iy with
    | ref r =>
      refine el_1_3 q ?_; clear q; intro ys hr hz q
      cases rx
      cases ry
      refine el_1_2 (hm.lst hr) ?_; intro ws hw i2
      exact add_lists I hm h.sq hxs hw i2 hz q hq
    | _ => exact q.elim
  | _ => exact q.elim
mutual
noncomputable def D.eq : D → D → Bool
  | .non, .non => true
  | .bl a, .bl b => a == b
  | .bl a, .int j => (if a then 1 else 0) == j
  | .int i, .bl b => i == (if b then 1 else 0)
  | .int i, .int j => i == j
  | .str x, .str y => x == y
  | .tup xs, .tup ys => D.eqs xs ys
  | _, _ => false
noncomputable def D.eqs : List D → List D → Bool
  | [], [] => true
  | x :: xs, y :: ys => D.eq x y && D.eqs xs ys
  | _, _ => false
end
mutual
noncomputable def D.dep : D → Nat
  | .tup ds => D.deps ds + 1
  | _ => 0
noncomputable def D.deps : List D → Nat
  | [] => 0
  | d :: ds => max (D.dep d) (D.deps ds)
end
mutual
noncomputable def D.pure : D → Bool
  | .ref _ => false
  | .tup ds => D.pures ds
  | _ => true
noncomputable def D.pures : List D → Bool
  | [] => true
  | d :: ds => D.pure d && D.pures ds
end
end
end DL
namespace DL
open PySem PySem.Spec PyProof.Rows L2
@[simp] noncomputable def D.plain : D → Bool
  | .non => true
  | .bl _ => true
  | .int _ => true
  | .str _ => true
  | _ => false
theorem nof {P : Prop} (h : false = true) : P := nomatch h
mutual
noncomputable def D.eqOk : D → D → Bool
  | .tup xs, .tup ys => D.eqOks xs ys
  | x, y => x.plain && y.plain
noncomputable def D.eqOks : List D → List D → Bool
  | x :: xs, y :: ys => D.eqOk x y && D.eqOks xs ys
  | _, _ => true
end
noncomputable def pairEq (xs ys : List D) (j : Nat) : Bool := match xs[j]?, ys[j]? with
  | some x, some y => D.eq x y
  | _, _ => true
theorem eqs_all : ∀ xs ys : List D, ((List.range (min xs.length ys.length)).all (pairEq xs ys) && xs.length == ys.length) = D.eqs xs ys
  | [], [] => rfl
  | [], y :: ys => rfl
  | x :: xs, [] => rfl
  | x :: xs, y :: ys => by
    have ih := eqs_all xs ys
    have e1 : min (x :: xs).length (y :: ys).length = min xs.length ys.length + 1 := by simp [Nat.succ_min_succ]
    rw [e1, List.range_succ_eq_map, List.all_cons, List.all_map]
    have e2 : (pairEq (x :: xs) (y :: ys)) ∘ Nat.succ = pairEq xs ys := by funext j; simp [pairEq]
    rw [e2]
    have e3 : pairEq (x :: xs) (y :: ys) 0 = D.eq x y := rfl
    have e4 : ((x :: xs).length == (y :: ys).length) = (xs.length == ys.length) := by simp
    rw [e3, e4, Bool.and_assoc, ih]
    rfl
theorem eqOks_get : ∀ {xs ys : List D} {j : Nat} {x y : D}, D.eqOks xs ys = true → xs[j]? = some x → ys[j]? = some y → D.eqOk x y = true
  | x :: xs, y :: ys, 0, _, _, h, e1, e2 => by
    simp at e1 e2; subst e1 e2
    simp only [D.eqOks, Bool.and_eq_true] at h; exact h.1
  | x :: xs, y :: ys, j + 1, _, _, h, e1, e2 => by
    simp only [D.eqOks, Bool.and_eq_true] at h
    exact eqOks_get (j := j) h.2 (by simpa using e1) (by simpa using e2)
  | [], _, _, _, _, _, e1, _ => by simp at e1
  | _ :: _, [], _, _, _, _, _, e2 => by simp at e2
theorem deps_get : ∀ {xs : List D} {j : Nat} {x : D}, xs[j]? = some x → D.dep x ≤ D.deps xs
  | x :: xs, 0, _, e => by simp at e; subst e; simp only [D.deps]; (first | lia | omega)
  | x :: xs, j + 1, _, e => by
    have := deps_get (xs := xs) (j := j) (by simpa using e)
    simp only [D.deps]; (first | lia | omega)
  | [], _, _, e => by simp at e
theorem eq_refl_aux : ∀ n : Nat, (∀ d d' : D, D.dep d ≤ n → D.eqOk d d' = true → d = d' → D.eq d d' = true) := by
  intro n
  induction n with
  | zero =>
    intro d d' h ok e
    subst e
    cases d with
    | tup ds => simp [D.dep] at h
    | ref a => exact nof ok
    | ty a => exact nof ok
    | rol a => exact nof ok
    | non => rfl
    | bl b => exact decide_eq_true rfl
    | int i => exact decide_eq_true rfl
    | str x => exact decide_eq_true rfl
  | succ n ih =>
    intro d d' h ok e
    subst e
    cases d with
    | tup ds =>
      simp only [D.dep] at h
      replace ok : D.eqOks ds ds = true := ok
      show D.eqs ds ds = true
      have : ∀ xs : List D, D.deps xs ≤ n → D.eqOks xs xs = true → D.eqs xs xs = true := by
        intro xs
        induction xs with
        | nil => intros; rfl
        | cons x xs ihx =>
          intro h1 h2
          simp only [D.deps] at h1
          simp only [D.eqOks, Bool.and_eq_true] at h2
          exact Bool.and_eq_true_iff.mpr ⟨ih x x (by (first | lia | omega)) h2.1 rfl, ihx (by (first | lia | omega)) h2.2⟩
      exact this ds (by (first | lia | omega)) ok
    | ref a => exact nof ok
    | ty a => exact nof ok
    | rol a => exact nof ok
    | non => rfl
    | bl b => exact decide_eq_true rfl
    | int i => exact decide_eq_true rfl
    | str x => exact decide_eq_true rfl
mutual
theorem Is.inj' {X : Cx} {pins : List (Addr × Obj)} {σ : St} {H : Hp} {s : Shared} (I : Inv X pins σ H s) : ∀ (d : D) {v : V} {d' : D}, Is X.K H v d → Is X.K H v d' → D.eqOk d d' = true → d = d'
  | .non, _, _, i, j, _ => by cases i; cases j; rfl
  | .bl _, _, _, i, j, _ => by cases i; cases j; rfl
  | .int _, _, _, i, j, _ => by cases i; cases j; rfl
  | .str _, _, _, i, j, _ => by cases i; cases j; rfl
  | .ref _, _, _, _, _, h => nof h
  | .ty _, _, _, _, _, h => nof h
  | .rol _, _, _, _, _, h => nof h
  | .tup ds, _, _, i, j, h => by
    cases i with
    | tup h1 i1 => cases j with
      | tup h2 i2 =>
        cases I.tuple_inj h1 h2
        exact congrArg D.tup (Iss.inj' I ds i1 i2 h)
      | ref _ => exact nof h
      | rol _ _ => exact nof h
theorem Iss.inj' {X : Cx} {pins : List (Addr × Obj)} {σ : St} {H : Hp} {s : Shared} (I : Inv X pins σ H s) : ∀ (ds : List D) {vs : List V} {es : List D}, Iss X.K H vs ds → Iss X.K H vs es → D.eqOks ds es = true → ds = es
  | [], _, _, i, j, _ => by cases i; cases j; rfl
  | d :: ds, _, _, i, j, h => by
    cases i with
    | cons i1 t1 => cases j with
      | cons i2 t2 =>
        have h := Bool.and_eq_true_iff.mp h
        rw [Is.inj' I d i1 i2 h.1, Iss.inj' I ds t1 t2 h.2]
end
theorem Is.inj {X : Cx} {pins : List (Addr × Obj)} {σ : St} {H : Hp} {s : Shared} (I : Inv X pins σ H s) {v : V} {d d' : D} (i : Is X.K H v d) (j : Is X.K H v d') (h : D.eqOk d d' = true) : d = d' := Is.inj' I d i j h
noncomputable def D.sv : D → V
  | .bl b => .bl b
  | .int i => .int i
  | .str x => .str x
  | _ => .non
theorem Is.sv {K : PySem.W.Frag} {H : Hp} {v : V} {d : D} (i : Is K H v d) (p : d.plain = true) : v = d.sv ∧ flatV d.sv = true := by
  cases i <;> first | exact ⟨rfl, rfl⟩ | exact nof p
theorem sv_eq : ∀ d d' : D, d.plain = true → d'.plain = true → eqV d.sv d'.sv = D.eq d d' := by
  intro d d' p p'
  cases d <;> first | exact nof p | (cases d' <;> first | exact nof p' | rfl)
theorem eqOk_plain {d d' : D} (ok : D.eqOk d d' = true) (nt : D.dep d = 0) : d.plain = true ∧ d'.plain = true := by
  cases d <;> first | exact Bool.and_eq_true_iff.mp ok | exact absurd nt (Nat.succ_ne_zero _)
theorem flat_eq {K : PySem.W.Frag} {H : Hp} {v v' : V} {d d' : D} (i : Is K H v d) (i' : Is K H v' d') (ok : D.eqOk d d' = true) (nt : D.dep d = 0) : flatV v = true ∧ flatV v' = true ∧ eqV v v' = D.eq d d' := by
  refine el_0_2 (eqOk_plain ok nt) ?_; intro p p'
  refine el_0_2 (i.sv p) ?_; intro e f
  refine el_0_2 (i'.sv p') ?_; intro e' f'
  rw [e, e']
  exact ⟨f, f', sv_eq d d' p p'⟩
theorem in1_units (A : Around) : A.in1.units = A.units + 1 := rfl
theorem eqAt_D {X : Cx} {pins : List (Addr × Obj)} {σ : St} {H : Hp} {s : Shared} (I : Inv X pins σ H s) : ∀ (n : Nat) (d d' : D) (A : Around) (v v' : V) (u u' : Value), D.dep d ≤ n → A.units + n < cLine → D.eqOk d d' = true →
    Is X.K H v d → Is X.K H v' d' → RelV v u → RelV v' u' → SeqAt.EqAt A s u u' (D.eq d d') ∧ (D.dep d ≠ 0 → SeqAt.RcAt A s u u' (D.eq d d') ∧ SeqAt.RcNeAt A s u u' (!D.eq d d')) := by
  intro n
  induction n with
  | zero =>
    intro d d' A v v' u u' hd hu ok i i' r r'
    obtain ⟨f1, f2, f3⟩ := flat_eq i i' ok (by (first | lia | omega))
    rw [← f3]
    exact ⟨eqAt_V r r' f1 f2, fun z => absurd (by (first | lia | omega)) z⟩
  | succ n ih =>
    intro d d' A v v' u u' hd hu ok i i' r r'
    by_cases h0 : D.dep d = 0
    · refine el_0_3 (flat_eq i i' ok h0) ?_; intro f1 f2 f3
      rw [← f3]
      exact ⟨eqAt_V r r' f1 f2, fun z => absurd h0 z⟩
    · cases i with
      | @tup a xs ds hx hxs =>
        cases i' with
        | @tup b ys es hy hys =>
          cases r
          cases r'
          refine el_1_3 (I.tuple hx) ?_; intro its r1 p1 _
          refine el_1_3 (I.tuple hy) ?_; intro its2 r2 p2 _
          have n1 : its.toArray.size = ds.length := by rw [List.size_toArray, ← r1.length, hxs.length]
          have n2 : its2.toArray.size = es.length := by rw [List.size_toArray, ← r2.length, hys.length]
          simp only [D.dep] at hd
          have he : ∀ j (h1 : j < its.toArray.size) (h2 : j < its2.toArray.size), SeqAt.EqAt A.in1 s its.toArray[j] its2.toArray[j] (pairEq ds es j) := by
            intro j h1 h2
            have q1 : ds[j]? = some ds[j] := List.getElem?_eq_getElem (by (first | lia | omega))
            have q2 : es[j]? = some es[j] := List.getElem?_eq_getElem (by (first | lia | omega))
            refine el_1_2 (hxs.get q1) ?_; intro x ex ix
            refine el_1_2 (hys.get q2) ?_; intro y ey iy
            refine el_1_2 (r1.get ex) ?_; intro ux eu ru
            refine el_1_2 (r2.get ey) ?_; intro uy ew rw'
            have g1 : its.toArray[j] = ux := by
              have : its[j]? = some its[j] := List.getElem?_eq_getElem (by simpa using h1)
              rw [this] at eu; simpa using eu
            have g2 : its2.toArray[j] = uy := by
              have : its2[j]? = some its2[j] := List.getElem?_eq_getElem (by simpa using h2)
              rw [this] at ew; simpa using ew
            rw [g1, g2]
            have pe : pairEq ds es j = D.eq ds[j] es[j] := by unfold pairEq; rw [q1, q2]
            rw [pe]
            have dg := deps_get q1
            exact (ih _ _ A.in1 x y ux uy (by (first | lia | omega)) (by rw [in1_units]; (first | lia | omega)) (eqOks_get (show D.eqOks ds es = true from ok) q1 q2) ix iy ru rw').1
          have hrc : SeqAt.RcAt A s (.ref a) (.ref b) (D.eqs ds es) := by
            rw [← eqs_all ds es, ← n1, ← n2]
            exact SeqAt.RcAt.tuples p1 p2 (by (first | lia | omega)) he
          have hne : SeqAt.RcNeAt A s (.ref a) (.ref b) (!D.eqs ds es) := by
            rw [← eqs_all ds es, ← n1, ← n2]
            exact SeqAt.RcNeAt.tuples p1 p2 (by (first | lia | omega)) he
          refine ⟨?_, fun _ => ⟨hrc, hne⟩⟩
          by_cases hab : a = b
          · subst hab
            have e := Is.inj I (.tup hx hxs) (.tup hy hys) ok
            rw [eq_refl_aux _ _ _ (Nat.le_refl _) ok e]
            exact SeqAt.EqAt.same _
          · exact SeqAt.EqAt.of_refs hab hrc
        | _ => exact nof ok
      | _ => exact absurd rfl h0
section
variable {X : Cx}
noncomputable def eqD : D → D → DH → KD → Prop
  | .ref l, .ref r, M, Q => ∃ xs ys, LstAt M l xs ∧ LstAt M r ys ∧ (xs = [] ∨ ys = []) ∧ Q (.bl (xs.isEmpty && ys.isEmpty)) M
  | .tup xs, .tup ys, M, Q => D.eqOks xs ys = true ∧ D.deps xs ≤ 150 ∧ Q (.bl (D.eqs xs ys)) M
  | .int i, .int j, M, Q => Q (.bl (decide (i = j))) M
  | .str i, .str j, M, Q => Q (.bl (decide (i = j))) M
  | .bl i, .bl j, M, Q => Q (.bl (decide (i = j))) M
  | .non, .non, M, Q => Q (.bl true) M
  | _, _, _, _ => False
noncomputable def neD : D → D → DH → KD → Prop
  | .ref l, .ref r, M, Q => ∃ xs ys, LstAt M l xs ∧ LstAt M r ys ∧ (xs = [] ∨ ys = []) ∧ Q (.bl (!(xs.isEmpty && ys.isEmpty))) M
  | .tup xs, .tup ys, M, Q => D.eqOks xs ys = true ∧ D.deps xs ≤ 150 ∧ Q (.bl (!D.eqs xs ys)) M
  | .int i, .int j, M, Q => Q (.bl (!decide (i = j))) M
  | .str i, .str j, M, Q => Q (.bl (!decide (i = j))) M
  | .bl i, .bl j, M, Q => Q (.bl (!decide (i = j))) M
  | _, _, _, _ => False
theorem dV_int {i j : Int} : decide (V.int i = V.int j) = decide (i = j) := by by_cases h : i = j <;> simp [h]
theorem dV_str {i j : Str} : decide (V.str i = V.str j) = decide (i = j) := by by_cases h : i = j <;> simp [h]
theorem dV_bl {i j : Bool} : decide (V.bl i = V.bl j) = decide (i = j) := by by_cases h : i = j <;> simp [h]
theorem list_two {xs ys : List D} (h : xs = [] ∨ ys = []) : (xs.length = ys.length ∧ xs = [] ∧ ys = []) ∨ (xs.length ≠ ys.length ∧ (xs.isEmpty && ys.isEmpty) = false) := by
  cases xs with
  | nil => cases ys with
    | nil => exact .inl ⟨rfl, rfl, rfl⟩
    | cons y ys => exact .inr ⟨by simp, rfl⟩
  | cons x xs => cases ys with
    | nil => exact .inr ⟨by simp, rfl⟩
    | cons y ys => rcases h with h | h <;> cases h
theorem od_eq {k : Nat} (hr : Room k X.A) : OpD X (compareOp .Eq) eqD := by
  intro pins s σ H vx vy v u Q I rx ry zr127
  refine el_4_5 zr127 ?_; clear zr127; intro x y M Q' ix iy hm q hq
  have hu : X.A.units + 200 < cLine := by have := hr.un; (first | lia | omega)
  cases ix with
  | non => cases iy with
    | non => exact op_eq pins s σ H _ _ v u Q I rx ry ⟨rfl, hq.here hm (.bl _) (by have q' : Q' (.bl true) M := q; simpa using q')⟩
    | _ => exact q.elim
  | int i => cases iy with
    | int j => exact op_eq pins s σ H _ _ v u Q I rx ry ⟨rfl, hq.here hm (.bl _) (by rw [dV_int]; exact q)⟩
    | _ => exact q.elim
  | str i => cases iy with
    | str j => exact op_eq pins s σ H _ _ v u Q I rx ry ⟨rfl, hq.here hm (.bl _) (by rw [dV_str]; exact q)⟩
    | _ => exact q.elim
  | bl i => cases iy with
    | bl j => exact op_eq pins s σ H _ _ v u Q I rx ry ⟨rfl, hq.here hm (.bl _) (by rw [dV_bl]; exact q)⟩
    | _ => exact q.elim
  | ty n => exact q.elim
  | rol h hxs => first | exact q.elim | (cases iy <;> exact q.elim)
  | @tup a xs ds hx hxs => cases iy with
    | @tup b ys es hy hys =>
      refine el_0_3 q ?_; clear q; intro ok dp q
      have z := (eqAt_D I 151 (.tup ds) (.tup es) X.A (.ref a) (.ref b) v u (Nat.succ_le_succ dp) (by (first | lia | omega)) ok (.tup hx hxs) (.tup hy hys) rx ry).2 (Nat.succ_ne_zero _)
      exact z.1 _ _ _ _ ⟨.bl _, H, I, rfl, hq.here hm (.bl _) q⟩
    | _ => exact q.elim
  | ref l => cases iy with
    | ref r =>
      refine el_2_4 q ?_; clear q; intro xs ys hl hr' hz q
      cases rx
      cases ry
      refine el_1_2 (hm.lst hl) ?_; intro us hu1 i1
      refine el_1_2 (hm.lst hr') ?_; intro ws hw i2
      refine el_1_3 (I.list hu1) ?_; intro its r1 p1 _
      refine el_1_3 (I.list hw) ?_; intro its2 r2 p2 _
      have n1 : its.toArray.size = xs.length := by rw [List.size_toArray, ← r1.length, i1.length]
      have n2 : its2.toArray.size = ys.length := by rw [List.size_toArray, ← r2.length, i2.length]
      rcases list_two hz with ⟨he, h1, h2⟩ | ⟨hn, hb⟩
      · subst h1 h2
        refine SeqAt.eq_listAt (e := fun _ => true) p1.isList p2.isList (by rw [n1, n2]) (by (first | lia | omega)) (fun j h1 => absurd h1 (by rw [n1]; simp)) ⟨.bl _, H, I, rfl, hq.here hm (.bl _) ?_⟩
        rw [n1]
        simpa using q
      · rw [hb] at q
        exact SeqAt.eq_list_lengthsAt p1.isList p2.isList (by rw [n1, n2]; simpa using hn) (by (first | lia | omega)) ⟨.bl _, H, I, rfl, hq.here hm (.bl _) q⟩
    | _ => exact q.elim
theorem od_ne {k : Nat} (hr : Room k X.A) : OpD X (compareOp .NotEq) neD := by
  intro pins s σ H vx vy v u Q I rx ry zr128
  refine el_4_5 zr128 ?_; clear zr128; intro x y M Q' ix iy hm q hq
  have hu : X.A.units + 200 < cLine := by have := hr.un; (first | lia | omega)
  cases ix with
  | non => exact q.elim
  | int i => cases iy with
    | int j => exact op_ne pins s σ H _ _ v u Q I rx ry ⟨rfl, hq.here hm (.bl _) (by rw [dV_int]; exact q)⟩
    | _ => exact q.elim
  | str i => cases iy with
    | str j => exact op_ne pins s σ H _ _ v u Q I rx ry ⟨rfl, hq.here hm (.bl _) (by rw [dV_str]; exact q)⟩
    | _ => exact q.elim
  | bl i => cases iy with
    | bl j => exact op_ne pins s σ H _ _ v u Q I rx ry ⟨rfl, hq.here hm (.bl _) (by rw [dV_bl]; exact q)⟩
    | _ => exact q.elim
  | ty n => exact q.elim
  | rol h hxs => first | exact q.elim | (cases iy <;> exact q.elim)
  | @tup a xs ds hx hxs => cases iy with
    | @tup b ys es hy hys =>
      refine el_0_3 q ?_; clear q; intro ok dp q
      have z := (eqAt_D I 151 (.tup ds) (.tup es) X.A (.ref a) (.ref b) v u (Nat.succ_le_succ dp) (by (first | lia | omega)) ok (.tup hx hxs) (.tup hy hys) rx ry).2 (Nat.succ_ne_zero _)
      exact z.2 _ _ _ _ ⟨.bl _, H, I, rfl, hq.here hm (.bl _) q⟩
    | _ => exact q.elim
  | ref l => cases iy with
    | ref r =>
      refine el_2_4 q ?_; clear q; intro xs ys hl hr' hz q
      cases rx
      cases ry
      refine el_1_2 (hm.lst hl) ?_; intro us hu1 i1
      refine el_1_2 (hm.lst hr') ?_; intro ws hw i2
      refine el_1_3 (I.list hu1) ?_; intro its r1 p1 _
      refine el_1_3 (I.list hw) ?_; intro its2 r2 p2 _
      have n1 : its.toArray.size = xs.length := by rw [List.size_toArray, ← r1.length, i1.length]
      have n2 : its2.toArray.size = ys.length := by rw [List.size_toArray, ← r2.length, i2.length]
      rcases list_two hz with ⟨he, h1, h2⟩ | ⟨hn, hb⟩
      · subst h1 h2
        refine SeqAt.RcNeAt.lists (e := fun _ => true) p1.isList p2.isList (by rw [n1, n2]) (by (first | lia | omega)) (fun j h1 => absurd h1 (by rw [n1]; simp)) _ _ _ _ ⟨.bl _, H, I, rfl, hq.here hm (.bl _) ?_⟩
        rw [n1]
        simpa using q
      · rw [hb] at q
        exact SeqAt.RcNeAt.lists_lengths p1.isList p2.isList (by rw [n1, n2]; simpa using hn) (by (first | lia | omega)) _ _ _ _ ⟨.bl _, H, I, rfl, hq.here hm (.bl _) q⟩
    | _ => exact q.elim
end
end DL
namespace DL
open PySem PySem.Spec PyProof.Rows L2
section
variable {X : Cx} {e a b c : Expr} {es : List Expr} {pos : Pos} {ta tb tc te : TEd} {t : TAd}
noncomputable def eNil : TAd := fun _ M Q => Q [] M
noncomputable def eCons (ta : TEd) (tr : TAd) : TAd := fun τ M Q => ta τ M fun x M1 => tr τ M1 fun xs M2 => Q (x :: xs) M2
theorem a_nil : PA X [] (lowA X.K eNil) := pa_nil.imp fun σ H Q ⟨τ, M, Q', hs, hm, h, hq⟩ => hq [] M [] H hm (Ext.refl H) .nil h
theorem a_cons (ha : PE X e (low X.K te)) (hr : PA X es (lowA X.K t)) (hs : starEach (e :: es) X.env = (false, eval e X.env) :: starEach es X.env := by rfl) : PA X (e :: es) (lowA X.K (eCons te t)) :=
  (pa_cons ha hr hs).imp fun σ H Q ⟨τ, M, Q', hs, hm, h, hq⟩ =>
    ⟨τ, M, _, hs, hm, h, fun x M1 vx H1 m1 e1 i1 h1 => ⟨τ, M1, _, hs.mono e1, m1, h1, fun xs M2 vs H2 m2 e2 i2 h2 => hq (x :: xs) M2 (vx :: vs) H2 m2 (e1.trans e2) (.cons (i1.mono e2) i2) h2⟩⟩
noncomputable def eTup (t : TAd) : TEd := fun τ M Q => t τ M fun xs M1 => if xs.length ≤ 1000 then Q (.tup xs) M1 else False
noncomputable def eLst (t : TAd) : TEd := fun τ M Q => t τ M fun xs M1 => if xs.length ≤ 1000 then ∀ p, M1 p = none → Q (.ref p) (updM M1 p (.lst xs)) else False
theorem line1000 {n : Nat} (h : n ≤ 1000) : n ≤ sizeLine := Nat.le_of_lt (small1000 h)
theorem d_tup {x1} (h : PA X es (lowA X.K t)) : PE X (.Tuple es x1 pos) (low X.K (eTup t)) :=
  (pe_tup h).imp fun σ H Q ⟨τ, M, Q', hs, hm, h, hq⟩ => ⟨τ, M, _, hs, hm, h, fun xs M1 vs H1 m1 e1 i1 h1 => by
    by_cases hl : xs.length ≤ 1000
    · rw [if_pos hl] at h1
      refine ⟨by rw [i1.length]; exact line1000 hl, fun p hp => ?_⟩
      exact hq _ M1 _ _ (m1.new hp) (e1.trans (ext_new hp)) (.tup (SqT.of upd_same) (i1.mono (ext_new hp))) h1
    · rw [if_neg hl] at h1; exact h1.elim⟩
theorem d_lst (h : PA X es (lowA X.K t)) : PE X (.List es pos) (low X.K (eLst t)) :=
  (pe_lst h).imp fun σ H Q ⟨τ, M, Q', hs, hm, h, hq⟩ => ⟨τ, M, _, hs, hm, h, fun xs M1 vs H1 m1 e1 i1 h1 => by
    by_cases hl : xs.length ≤ 1000
    · rw [if_pos hl] at h1
      refine ⟨by rw [i1.length]; exact line1000 hl, fun p hp => ?_⟩
      exact hq _ _ _ _ (m1.newL hp i1) (e1.trans (ext_new hp)) (.ref p) (h1 p (m1.free hp))
    · rw [if_neg hl] at h1; exact h1.elim⟩
noncomputable abbrev RC := List D → DH → KD → Prop
noncomputable def lowC (K : PySem.W.Frag) (r : RC) : List V → Hp → VK → Prop := fun vs H Q => ∃ ds M Q', Iss K H vs ds ∧ HAbs K M H ∧ r ds M Q' ∧ lowQ K H Q' Q
noncomputable def CallD (X : Cx) (f : Value) (r : RC) : Prop := CallR X f (lowC X.K r)
noncomputable def eCB (r : RC) (t : TAd) : TEd := fun τ M Q => t τ M fun ds M1 => r ds M1 Q
theorem low_cb {K : PySem.W.Frag} {r : RC} {t : TAd} {σ : St} {H : Hp} {Q : VK} (h : low K (eCB r t) σ H Q) : tCB (lowC K r) (lowA K t) σ H Q := by
  refine el_3_4 h ?_; clear h; intro τ M Q' hs hm h hq
  exact in_eeeccc τ M _ hs hm h (fun ds M1 vs H1 m1 e1 i1 h1 => ⟨ds, M1, Q', i1, m1, h1, hq.ext e1⟩)
variable {x : Str} {p : Pos} {id T : String} {r : RC}
theorem d_callB (hc : CallD X (.builtin id) r) (hg : Gl X x) (hm : X.mg x = none) (hv : bootBuiltins x = some (.builtin id)) (ha : PA X (e :: es) (lowA X.K t)) (hn : x ≠ "__name__" := by decide) (hdb : (x == ("__debug__" : Str)) = false := by decide)
    (he : starEach (e :: es) X.env = (false, eval e X.env) :: starEach es X.env := by rfl) (hpl : (backTo pos (starEach es X.env)).any (·.1) = false := by rfl) : PE X (.Call (.Name x p) (e :: es) [] pos) (low X.K (eCB r t)) :=
  (pe_callB hc hg hm hv ha hn hdb he hpl).imp fun _ _ _ h => low_cb h
theorem d_callTy (hc : CallD X (.type T) r) (hg : Gl X x) (hm : X.mg x = none) (hv : bootBuiltins x = some (.type T)) (ha : PA X (e :: es) (lowA X.K t)) (hn : x ≠ "__name__" := by decide) (hdb : (x == ("__debug__" : Str)) = false := by decide)
    (he : starEach (e :: es) X.env = (false, eval e X.env) :: starEach es X.env := by rfl) (hpl : (backTo pos (starEach es X.env)).any (·.1) = false := by rfl) : PE X (.Call (.Name x p) (e :: es) [] pos) (low X.K (eCB r t)) :=
  (pe_callTy hc hg hm hv ha hn hdb he hpl).imp fun _ _ _ h => low_cb h
theorem d_ty {n : String} (hg : Gl X x) (hm : X.mg x = none) (hv : bootBuiltins x = some (.type n)) (hn : x ≠ "__name__" := by decide) (hd : (x == ("__debug__" : Str)) = false := by decide) : PE X (.Name x pos) (low X.K (eC (.ty n))) :=
  (pe_bltn (v := .ty n) hg hm hv rfl hn hd).imp fun _ _ _ h => low_const (fun _ => .ty n) h
theorem iss1 {K : PySem.W.Frag} {H : Hp} {vs : List V} {d : D} (h : Iss K H vs [d]) : ∃ v, vs = [v] ∧ Is K H v d := by
  cases h with
  | cons i t => cases t; exact ⟨_, rfl, i⟩
theorem iss2 {K : PySem.W.Frag} {H : Hp} {vs : List V} {d d' : D} (h : Iss K H vs [d, d']) : ∃ v v', vs = [v, v'] ∧ Is K H v d ∧ Is K H v' d' := by
  cases h with
  | cons i t => obtain ⟨v', rfl, i'⟩ := iss1 t; exact ⟨_, _, rfl, i, i'⟩
noncomputable def lenD : List D → DH → KD → Prop
  | [.str z], M, Q => z.length ≤ sizeLine ∧ Q (.int z.length) M
  | [.tup xs], M, Q => Q (.int xs.length) M
  | [.rol xs], M, Q => Q (.int xs.length) M
  | [.ref l], M, Q => ∃ xs, LstAt M l xs ∧ Q (.int xs.length) M
  | _, _, _ => False
theorem cd_len : CallD X (.builtin "len") lenD := by
  intro pins s σ H vs us Q I r zr129
  refine el_3_4 zr129 ?_; clear zr129; intro ds M Q' iss hm q hq
  match ds, q, iss with
  | [.str z], q, iss =>
    refine el_1_2 (iss1 iss) ?_; intro v zq130 i
    obtain rfl := zq130
    (first | cases i.inv | cases i)
    exact call_len_str pins s σ H _ us Q I r ⟨z, rfl, q.1, hq.here hm (.int _) q.2⟩
  | [.tup xs], q, iss =>
    refine el_1_2 (iss1 iss) ?_; intro v zq131 i
    obtain rfl := zq131
    cases i with
    | tup h hs => exact call_len_seq pins s σ H _ us Q I r ⟨_, _, rfl, .inr h, hq.here hm (.int _) (by rw [hs.length]; exact q)⟩
  | [.rol xs], q, iss =>
    refine el_1_2 (iss1 iss) ?_; intro v zq132 i
    obtain rfl := zq132
    cases i with
    | rol h hs => exact call_len_seq pins s σ H _ us Q I r ⟨_, _, rfl, .inl h.sq, hq.here hm (.int _) (by rw [hs.length]; exact q)⟩
  | [.ref l], q, iss =>
    refine el_1_2 (iss1 iss) ?_; intro v zq133 i
    obtain rfl := zq133
    (first | cases i.inv | cases i)
    refine el_1_2 q ?_; clear q; intro xs hl q
    refine el_1_2 (hm.lst hl) ?_; intro ys h hs
    exact call_len_seq pins s σ H _ us Q I r ⟨_, _, rfl, .inl h, hq.here hm (.int _) (by rw [hs.length]; exact q)⟩
noncomputable def intD : List D → DH → KD → Prop
  | [.int i], M, Q => Q (.int i) M
  | [.bl k], M, Q => Q (.int (if k then 1 else 0)) M
  | _, _, _ => False
theorem cd_int : CallD X (.type "int") intD := by
  intro pins s σ H vs us Q I r zr134
  refine el_3_4 zr134 ?_; clear zr134; intro ds M Q' iss hm q hq
  match ds, q, iss with
  | [.int j], q, iss =>
    refine el_1_2 (iss1 iss) ?_; intro v zq135 i
    obtain rfl := zq135
    (first | cases i.inv | cases i)
    exact call_int1 pins s σ H _ us Q I r (.inl ⟨_, rfl, hq.here hm (.int _) q⟩)
  | [.bl k], q, iss =>
    refine el_1_2 (iss1 iss) ?_; intro v zq136 i
    obtain rfl := zq136
    (first | cases i.inv | cases i)
    exact call_int1 pins s σ H _ us Q I r (.inr ⟨_, rfl, hq.here hm (.int _) q⟩)
noncomputable def max2D : List D → DH → KD → Prop
  | [.int i, .int j], M, Q => Q (.int (if j > i then j else i)) M
  | _, _, _ => False
theorem cd_max2 (hc : X.calm = true) : CallD X (.builtin "max") max2D := by
  intro pins s σ H vs us Q I r zr137
  refine el_3_4 zr137 ?_; clear zr137; intro ds M Q' iss hm q hq
  match ds, q, iss with
  | [.int i, .int j], q, iss =>
    refine el_2_3 (iss2 iss) ?_; intro v v' zq138 h1 h2
    obtain rfl := zq138
    (first | cases h1.inv | cases h1)
    (first | cases h2.inv | cases h2)
    exact call_max2 hc pins s σ H _ us Q I r ⟨_, _, rfl, hq.here hm (.int _) q⟩
noncomputable def min2D : List D → DH → KD → Prop
  | [.int i, .int j], M, Q => Q (.int (if j < i then j else i)) M
  | _, _, _ => False
theorem cd_min2 (hc : X.calm = true) : CallD X (.builtin "min") min2D := by
  intro pins s σ H vs us Q I r zr139
  refine el_3_4 zr139 ?_; clear zr139; intro ds M Q' iss hm q hq
  match ds, q, iss with
  | [.int i, .int j], q, iss =>
    refine el_2_3 (iss2 iss) ?_; intro v v' zq140 h1 h2
    obtain rfl := zq140
    (first | cases h1.inv | cases h1)
    (first | cases h2.inv | cases h2)
    exact call_min2 hc pins s σ H _ us Q I r ⟨_, _, rfl, hq.here hm (.int _) q⟩
noncomputable def tupleD : List D → DH → KD → Prop
  | [.tup xs], M, Q => Q (.tup xs) M
  | [.ref l], M, Q => ∃ xs, LstAt M l xs ∧ Q (.tup xs) M
  | _, _, _ => False
theorem cd_tuple : CallD X (.type "tuple") tupleD := by
  intro pins s σ H vs us Q I r zr141
  refine el_3_4 zr141 ?_; clear zr141; intro ds M Q' iss hm q hq
  match ds, q, iss with
  | [.tup xs], q, iss =>
    refine el_1_2 (iss1 iss) ?_; intro v zq142 i
    obtain rfl := zq142
    cases i with
    | tup h hs => exact call_tuple_of pins s σ H _ us Q I r ⟨_, _, rfl, .inr ⟨h, hq.here hm (.tup h hs) q⟩⟩
  | [.ref l], q, iss =>
    refine el_1_2 (iss1 iss) ?_; intro v zq143 i
    obtain rfl := zq143
    (first | cases i.inv | cases i)
    refine el_1_2 q ?_; clear q; intro xs hl q
    refine el_1_2 (hm.lst hl) ?_; intro ys h hs
    exact call_tuple_of pins s σ H _ us Q I r ⟨_, _, rfl, .inl ⟨h, fun p hp => hq _ M _ _ (hm.new hp) (ext_new hp) (.tup (SqT.of upd_same) (hs.mono (ext_new hp))) q⟩⟩
noncomputable def isSub (a b : String) : Bool := a == b || (a == "bool" && b == "int")
noncomputable def kinds : List String := ["NoneType", "bool", "int", "str", "tuple", "list"]
theorem kit_sub (K : PySem.W.Frag) : ∀ a ∈ kinds, ∀ b ∈ kinds, PySem.W.kitOne K (.type a) (.type b) = some (isSub a b) := by
  intro a ha b hb
  simp only [kinds, List.mem_cons, List.not_mem_nil, or_false] at ha hb
  rcases ha with rfl | rfl | rfl | rfl | rfl | rfl <;> rcases hb with rfl | rfl | rfl | rfl | rfl | rfl <;> rfl
noncomputable def isiD : List D → DH → KD → Prop
  | [.non, .ty T], M, Q => if T ∈ kinds then Q (.bl (isSub "NoneType" T)) M else False
  | [.bl _, .ty T], M, Q => if T ∈ kinds then Q (.bl (isSub "bool" T)) M else False
  | [.int _, .ty T], M, Q => if T ∈ kinds then Q (.bl (isSub "int" T)) M else False
  | [.str _, .ty T], M, Q => if T ∈ kinds then Q (.bl (isSub "str" T)) M else False
  | [.tup _, .ty T], M, Q => if T ∈ kinds then Q (.bl (isSub "tuple" T)) M else False
  | [.ref l, .ty T], M, Q => if T ∈ kinds then (∃ xs, LstAt M l xs) ∧ Q (.bl (isSub "list" T)) M else False
  | _, _, _ => False
theorem iteF {c : Prop} [Decidable c] {A : Prop} (h : if c then A else False) : c ∧ A := by
  by_cases hc : c
  · rw [if_pos hc] at h; exact ⟨hc, h⟩
  · rw [if_neg hc] at h; exact h.elim
theorem isiD_two {ds : List D} {M : DH} {Q : KD} (q : isiD ds M Q) : ∃ d T, ds = [d, .ty T] := by
  cases ds with
  | nil => exact q.elim
  | cons a ds => cases ds with
    | nil => cases a <;> exact q.elim
    | cons b ds => cases ds with
      | nil => cases b with
        | ty T => exact ⟨a, T, rfl⟩
        | _ => cases a <;> exact q.elim
      | cons c ds => cases a <;> cases b <;> exact q.elim
theorem cd_isi : CallD X (.builtin "isinstance") isiD := by
  intro pins s σ H vs us Q I r zr144
  refine el_3_4 zr144 ?_; clear zr144; intro ds M Q' iss hm q hq
  obtain ⟨d, T, rfl⟩ := isiD_two q
  refine el_2_3 (iss2 iss) ?_; intro v v' zq145 h1 h2
  obtain rfl := zq145
  cases h2.inv
  refine el_2_3 (vals2 r) ?_; intro u w' zq146 r1 r2
  obtain rfl := zq146
  cases r2
  cases h1 with
  | non =>
    cases r1
    refine el_0_2 (iteF (c := T ∈ kinds) q) ?_; (try clear q); intro hT q
    exact PySem.W.kia_one PySem.W.kitx_none I.kIn True.intro (kit_sub _ _ (by decide) _ hT) (fun z => nomatch z) fun tk => ⟨.bl _, H, I.tok tk, rfl, hq.here hm (.bl _) q⟩
  | bl b =>
    cases r1
    refine el_0_2 (iteF (c := T ∈ kinds) q) ?_; (try clear q); intro hT q
    exact PySem.W.kia_one PySem.W.kitx_bool I.kIn True.intro (kit_sub _ _ (by decide) _ hT) (fun z => nomatch z) fun tk => ⟨.bl _, H, I.tok tk, rfl, hq.here hm (.bl _) q⟩
  | int b =>
    obtain ⟨tk0, rfl⟩ := r1
    refine el_0_2 (iteF (c := T ∈ kinds) q) ?_; (try clear q); intro hT q
    exact PySem.W.kia_one PySem.W.kitx_int I.kIn True.intro (kit_sub _ _ (by decide) _ hT) (fun z => nomatch z) fun tk => ⟨.bl _, H, I.tok tk, rfl, hq.here hm (.bl _) q⟩
  | str b =>
    obtain ⟨tk0, rfl⟩ := r1
    refine el_0_2 (iteF (c := T ∈ kinds) q) ?_; (try clear q); intro hT q
    exact PySem.W.kia_one PySem.W.kitx_str I.kIn True.intro (kit_sub _ _ (by decide) _ hT) (fun z => nomatch z) fun tk => ⟨.bl _, H, I.tok tk, rfl, hq.here hm (.bl _) q⟩
  | tup h hs =>
    cases r1
    refine el_1_3 (I.tuple h) ?_; intro its _ zq147 _
    refine el_1_3 zq147 ?_; clear zq147; intro o p1 p2 _
    refine el_0_2 (iteF (c := T ∈ kinds) q) ?_; (try clear q); intro hT q
    exact PySem.W.kia_one PySem.W.kitx_tuple I.kIn ⟨o, p1, p2⟩ (kit_sub _ _ (by decide) _ hT) (fun z => nomatch z) fun tk => ⟨.bl _, H, I.tok tk, rfl, hq.here hm (.bl _) q⟩
  | ref l =>
    cases r1
    refine el_0_2 (iteF (c := T ∈ kinds) q) ?_; (try clear q); intro hT q
    refine el_0_2 q ?_; clear q; intro zq148 q
    refine el_1_1 zq148 ?_; clear zq148; intro xs hl
    refine el_1_2 (hm.lst hl) ?_; intro ys h hs
    refine el_1_3 (I.list h) ?_; intro its _ zq149 _
    refine el_2_3 zq149 ?_; clear zq149; intro o n p1 p2 _
    exact PySem.W.kia_one PySem.W.kitx_list I.kIn ⟨o, p1, p2⟩ (kit_sub _ _ (by decide) _ hT) (fun z => nomatch z) fun tk => ⟨.bl _, H, I.tok tk, rfl, hq.here hm (.bl _) q⟩
  | ty n => exact q.elim
  | rol h hs => exact q.elim
theorem atI_is {K : PySem.W.Frag} {H : Hp} {xs : List V} {ds : List D} {i : Int} {d : D} (h : Iss K H xs ds) (e : atI ds i = some d) : ∃ v, atI xs i = some v ∧ Is K H v d := by
  unfold atI at e ⊢
  rw [h.length]
  cases q : ixN ds.length i with
  | none => rw [q] at e; cases e
  | some j =>
    rw [q] at e
    exact h.get e
noncomputable def ixD : D → D → DH → KD → Prop
  | .tup ds, .int i, M, Q => onSome (atI ds i) fun d => Q d M
  | .rol ds, .int i, M, Q => onSome (atI ds i) fun d => Q d M
  | .str z, .int i, M, Q => z.length ≤ sizeLine ∧ ∃ k, atI z.cps.toList i = some k ∧ Q (.str ⟨#[k]⟩) M
  | .ref l, .int i, M, Q => ∃ ds d, LstAt M l ds ∧ atI ds i = some d ∧ Q d M
  | _, _, _, _ => False
noncomputable def IxD (X : Cx) (r : RD2) : Prop := IxR X (lowR2 X.K r)
theorem xd_ix : IxD X ixD := by
  intro value slice pins s σ H vx vy v u Q I rx ry zr150 hs
  refine el_4_5 zr150 ?_; clear zr150; intro x y M Q' ix iy hm q hq
  cases ix with
  | tup h hxs => cases iy with
    | int i =>
      rename_i ds
      cases q1 : atI ds i with
      | none => exact (show (onSome (atI ds i) fun d => Q' d M) → False from fun z => by rw [q1] at z; exact z) q |>.elim
      | some d =>
        replace q : Q' d M := (show (onSome (atI ds i) fun d => Q' d M) → Q' d M from fun z => by rw [q1] at z; exact z) q
        refine el_1_2 (atI_is hxs q1) ?_; intro v' e' i'
        exact ix_tup value slice pins s σ H _ _ v u Q I rx ry ⟨_, _, _, _, rfl, rfl, h, e', hq.here hm i' q⟩ hs
    | _ => exact q.elim
  | rol h hxs => cases iy with
    | int i =>
      rename_i ds
      cases q1 : atI ds i with
      | none => exact (show (onSome (atI ds i) fun d => Q' d M) → False from fun z => by rw [q1] at z; exact z) q |>.elim
      | some d =>
        replace q : Q' d M := (show (onSome (atI ds i) fun d => Q' d M) → Q' d M from fun z => by rw [q1] at z; exact z) q
        refine el_1_2 (atI_is hxs q1) ?_; intro v' e' i'
        exact ix_list value slice pins s σ H _ _ v u Q I rx ry ⟨_, _, _, _, rfl, rfl, h.sq, e', hq.here hm i' q⟩ hs
    | _ => exact q.elim
  | str z => cases iy with
    | int i =>
      obtain ⟨hz, k, hk, q⟩ := q
      exact ix_str value slice pins s σ H _ _ v u Q I rx ry ⟨_, _, _, rfl, rfl, hz, hk, hq.here hm (.str _) q⟩ hs
    | _ => exact q.elim
  | ref l => cases iy with
    | int i =>
      refine el_2_3 q ?_; clear q; intro ds d hl hd q
      refine el_1_2 (hm.lst hl) ?_; intro ys h hys
      refine el_1_2 (atI_is hys hd) ?_; intro v' e' i'
      exact ix_list value slice pins s σ H _ _ v u Q I rx ry ⟨_, _, _, _, rfl, rfl, h, e', hq.here hm i' q⟩ hs
    | _ => exact q.elim
  | _ => first | exact q.elim | (cases iy <;> exact q.elim)
theorem d_ix (ha : PE X a (low X.K ta)) (hb : PE X b (low X.K tb)) (hs : PlainIx b := by intro _ _; rfl) : PE X (.Subscript a b pos) (low X.K (eOp ixD ta tb)) :=
  (pe_ix (xd_ix (X := X)) ha hb hs).imp fun _ _ _ h => low_op h
end
end DL
namespace DL
open PySem PySem.Spec PyProof.Rows L2
section
variable {X : Cx} {e a b c : Expr} {es : List Expr} {pos : Pos} {ta tb tc te : TEd} {t : TAd}
noncomputable abbrev TOd := DSt → DH → (Option Int → DH → Prop) → Prop
noncomputable def lowO (K : PySem.W.Frag) (te : TOd) : TO := fun σ H Q => ∃ τ M Q', SAbs K τ σ H ∧ HAbs K M H ∧ te τ M Q' ∧ ∀ o M1 H1, HAbs K M1 H1 → Ext K H H1 → Q' o M1 → Q o H1
theorem _root_.L2.PO.imp {oe : Option Expr} {t t' : TO} (h : PO X oe t) (hi : ∀ σ H Q, t' σ H Q → t σ H Q) : PO X oe t' := fun pins s σ H Q I q => h pins s σ H Q I (hi _ _ _ q)
noncomputable def oNone : TOd := fun _ M Q => Q none M
noncomputable def oSome (t : TEd) : TOd := fun τ M Q => t τ M fun x M1 => onInt x fun i => Q (some i) M1
theorem o_none : PO X none (lowO X.K oNone) := po_none.imp fun σ H Q ⟨τ, M, Q', hs, hm, h, hq⟩ => hq none M H hm (Ext.refl H) h
theorem o_some (h : PE X e (low X.K te)) : PO X (some e) (lowO X.K (oSome te)) := (po_some h).imp fun σ H Q ⟨τ, M, Q', hs, hm, h, hq⟩ =>
  ⟨τ, M, _, hs, hm, h, fun x M1 v H1 m1 e1 i1 h1 => by
    cases i1 with
    | int i => exact ⟨i, rfl, hq (some i) M1 H1 m1 e1 h1⟩
    | _ => exact h1.elim⟩
noncomputable def cutD {α : Type} (xs : List α) (lo hi : Option Int) : List α := (xs.drop (HT.sIx xs.length 0 lo)).take (HT.sIx xs.length xs.length hi - HT.sIx xs.length 0 lo)
noncomputable abbrev RSl := D → Option Int → Option Int → DH → KD → Prop
noncomputable def lowSl (K : PySem.W.Frag) (r : RSl) : V → Option Int → Option Int → Hp → VK → Prop := fun v lo hi H Q => ∃ x M Q', Is K H v x ∧ HAbs K M H ∧ r x lo hi M Q' ∧ lowQ K H Q' Q
noncomputable def SlD (X : Cx) (r : RSl) : Prop := SlR X (lowSl X.K r)
noncomputable def eSl (r : RSl) (te : TEd) (tl th : TOd) : TEd := fun τ M Q => te τ M fun x M1 => tl τ M1 fun l M2 => th τ M2 fun u M3 => r x l u M3 Q
theorem d_sl {r : RSl} {lo hi : Option Expr} {tl th : TOd} {p2 : Pos} (hr : SlD X r) (he : PE X e (low X.K te)) (hl : PO X lo (lowO X.K tl)) (hu : PO X hi (lowO X.K th)) : PE X (.Subscript e (.Slice lo hi none p2) pos) (low X.K (eSl r te tl th)) :=
  (pe_slice hr he hl hu).imp fun σ H Q ⟨τ, M, Q', hs, hm, h, hq⟩ =>
    ⟨τ, M, _, hs, hm, h, fun x M1 v H1 m1 e1 i1 h1 => ⟨τ, M1, _, hs.mono e1, m1, h1, fun l M2 H2 m2 e2 h2 => ⟨τ, M2, _, hs.mono (e1.trans e2), m2, h2, fun u M3 H3 m3 e3 h3 =>
      ⟨x, M3, Q', i1.mono (e2.trans e3), m3, h3, hq.ext (e1.trans (e2.trans e3))⟩⟩⟩⟩
theorem getItem_tuple_whole {prog : Program} {w : World} {A : Around} {E : Value → Shared → Prop} {s : Shared} {t sl : Addr} {items : Array Value} {vl vu : Value} {lo hi : Option Int} {Q : Value → Shared → Prop} (ht : IsTup s.heap t items) (hs : s.heap.IsSliceOf sl vl vu .none) (pl : IsPart vl lo) (pu : IsPart vu hi)
    (hw : HT.sIx items.size 0 lo = 0 ∧ HT.sIx items.size items.size hi = items.size)
    (h : Q (.ref t) s) : wpAny (model prog w) A (getItem (.ref t) (.ref sl)) Q E s := by
  refine el_1_3 (id hs) ?_; intro os hos hcs hds
  have hTs : s.TypeIs (.ref sl) "slice" := ⟨os, hos, hcs⟩
  unfold getItem
  try with_reducible refine wpAny_holding ?_
  first | refine wpAny_bind (wpAny_pure ?_) | skip
  refine wpAny_bind (wpAny_sequenceKey ht.typeIs (by decide) ?_)
  refine wpAny_bind (wpAny_callSpecial?_slot (name := Str.ofString "__getitem__") ht.typeIs PyProof.Rows.slot_tuple_getitem
    (wpAny_call_entry PyProof.Rows.slot_tuple_getitem ht.typeIs entry_tuple_getitem ?_ (args_tuple_getitem _ _)))
  show wpAny _ _ (Builtin.Tuple.tupleItemsOf (.ref t) >>= _) _ _ s
  refine wpAny_bind (tupleItemsOf_ ht ?_)
  refine wpAny_bind (wpAny_typeOf hTs ?_)
  rw [if_pos (by decide)]
  refine wpAny_bind (HT.sliceApplied_gen hs pl pu ?_)
  have hyes : (((HT.sIx items.size 0 lo : Nat) : Int) == 0 && (1 : Int) == 1 && (HT.sIx items.size items.size hi - HT.sIx items.size 0 lo) == items.size) = true := by
    rw [hw.1, hw.2]; simp
  show wpAny _ _ (if (((HT.sIx items.size 0 lo : Nat) : Int) == 0 && (1 : Int) == 1 && (HT.sIx items.size items.size hi - HT.sIx items.size 0 lo) == items.size) = true then _ else _) _ _ s
  rw [if_pos hyes]
  refine wpAny_bind ?_
  have ex : wpAny (model prog w) A.in1 (Builtin.Tuple.tupleIsExact (.ref t)) (fun a s' => a = true ∧ s' = s) E s := by
    unfold Builtin.Tuple.tupleIsExact
    first
      | exact wpAny_bind (wpAny_typeOf ht.typeIs (wpAny_pure ⟨by decide, rfl⟩))
      | exact wpAny_bind (wpAny_typeOf ht.typeIs ⟨by decide, rfl⟩)
  refine wpAny_mono ex (fun a s' zz0 => ?_) fun _ _ z => z
  refine el_0_2 zz0 ?_; clear zz0; intro ea es
  subst ea es
  rw [if_pos rfl]
  first
    | exact wpAny_bind (wpAny_rule (wpAny_pure ⟨_, rfl, h⟩))
    | exact wpAny_bind (wpAny_rule (wpAny_pure ⟨_, rfl, wpAny_pure h⟩))
    | exact wpAny_bind (wpAny_rule (wpAny_bind (wpAny_pure (wpAny_pure ⟨_, rfl, h⟩))))
    | exact wpAny_bind (wpAny_rule (wpAny_bind (wpAny_pure (wpAny_pure ⟨_, rfl, wpAny_pure h⟩))))
noncomputable def slD : D → Option Int → Option Int → DH → KD → Prop
  | .tup xs, lo, hi, M, Q => Q (.tup (cutD xs lo hi)) M
  | .ref l, lo, hi, M, Q => ∃ xs, LstAt M l xs ∧ ∀ p, M p = none → Q (.ref p) (updM M p (.lst (cutD xs lo hi)))
  | .rol xs, lo, hi, M, Q => ∀ p, M p = none → Q (.ref p) (updM M p (.lst (cutD xs lo hi)))
  | .str z, lo, hi, M, Q => z.length ≤ sizeLine ∧ Q (.str (Txt.slice z lo hi)) M
  | _, _, _, _, _ => False
theorem Iss.cut {K : PySem.W.Frag} {H : Hp} {vs : List V} {ds : List D} (h : Iss K H vs ds) (lo hi : Option Int) : Iss K H (cutV vs lo hi) (cutD ds lo hi) := by
  unfold cutV cutD
  rw [h.length]
  exact (h.drop _).take _
theorem cut_whole {α : Type} {xs : List α} {lo hi : Option Int} (h : HT.sIx xs.length 0 lo = 0 ∧ HT.sIx xs.length xs.length hi = xs.length) : cutD xs lo hi = xs := by
  unfold cutD
  rw [h.1, h.2]
  simp
theorem sd_sl : SlD X slD := by
  intro pins s σ H vx v vl vu lo hi sl Q I rx hs pl pu zr151
  refine el_3_4 zr151 ?_; clear zr151; intro x M Q' ix hm q hq
  cases ix with
  | @tup a xs ds h hxs =>
    by_cases hw : HT.sIx xs.length 0 lo = 0 ∧ HT.sIx xs.length xs.length hi = xs.length
    · cases rx
      refine el_1_3 (I.tuple h) ?_; intro its r ht hz
      have hlen : its.toArray.size = xs.length := by rw [List.size_toArray]; exact r.length.symm
      refine in_eecc ("tuple") _ PyProof.Rows.slot_tuple_getitem.lookup ht.typeIs ?_
      refine getItem_tuple_whole ht hs pl pu (by rw [hlen]; exact hw) ⟨.ref a, H, I, rfl, hq.here hm (.tup h hxs) ?_⟩
      have q' : Q' (.tup (cutD ds lo hi)) M := q
      rw [cut_whole (by rw [← hxs.length]; exact hw)] at q'
      exact q'
    · exact sl_tup pins s σ H _ v vl vu lo hi sl Q I rx hs pl pu ⟨a, xs, rfl, h, hw, fun p hp => hq _ M _ _ (hm.new hp) (ext_new hp) (.tup (SqT.of upd_same) ((hxs.cut lo hi).mono (ext_new hp))) q⟩
  | rol h hys => exact sl_list pins s σ H _ v vl vu lo hi sl Q I rx hs pl pu ⟨_, _, rfl, h.sq, fun p hp => hq _ _ _ _ (hm.newL hp (hys.cut lo hi)) (ext_new hp) (.ref p) (q p (hm.free hp))⟩
  | ref l =>
    refine el_1_2 q ?_; clear q; intro xs hl q
    refine el_1_2 (hm.lst hl) ?_; intro ys h hys
    exact sl_list pins s σ H _ v vl vu lo hi sl Q I rx hs pl pu ⟨_, ys, rfl, h, fun p hp => hq _ _ _ _ (hm.newL hp (hys.cut lo hi)) (ext_new hp) (.ref p) (q p (hm.free hp))⟩
  | str z =>
    refine el_0_2 q ?_; clear q; intro hz q
    refine el_1_1 rx ?_; clear rx; intro t zq152
    obtain rfl := zq152
    refine el_1_3 hs ?_; clear hs; intro os ho hc hd
    have fin : ∀ (l u : Option (Int × Tok)), l.map (·.1) = lo → u.map (·.1) = hi → partValue l = vl → partValue u = vu → ∃ T id, typeLookup (.type T) "__getitem__" = pure (some (.builtin id)) ∧ s.TypeIs (.str z t) T ∧ wpAny (model X.prog X.w) X.A (getItem (.str z t) (.ref sl)) (EP X pins σ Q) X.xe s := by
      intro l u el eu e1 e2
      refine in_eecc ("str") _ F.slot_str_getitem.lookup (typeIs_str _ _ _) (wpAny_getItem_str_slice (l := l) (u := u) (st := none) ⟨os, ho, hc, by rw [hd, e1, e2]; rfl⟩ rfl ?_)
      refine post_val_or_str ⟨Nat.le_trans (Txt.slice_le z _ _) hz, fun t' k => ?_⟩
      refine in_eecc (.str (Txt.slice z lo hi)) H (I.tok k) ?_ (hq.here hm (.str _) q)
      rw [← el, ← eu]
      exact ⟨_, rfl⟩
    cases pl with
    | none => cases pu with
      | none => exact fin none none rfl rfl rfl rfl
      | int j tj => exact fin none (some (j, tj)) rfl rfl rfl rfl
    | int i ti => cases pu with
      | none => exact fin (some (i, ti)) none rfl rfl rfl rfl
      | int j tj => exact fin (some (i, ti)) (some (j, tj)) rfl rfl rfl rfl
  | _ => exact q.elim
noncomputable abbrev RM := D → List D → DH → KD → Prop
noncomputable def lowM (K : PySem.W.Frag) (r : RM) : V → List V → Hp → VK → Prop := fun v vs H Q => ∃ x ds M Q', Is K H v x ∧ Iss K H vs ds ∧ HAbs K M H ∧ r x ds M Q' ∧ lowQ K H Q' Q
noncomputable def MtD (X : Cx) (id : String) (r : RM) : Prop := MtR X id (lowM X.K r)
noncomputable def tyD (T : String) : D → DH → Prop
  | .str _, _ => T = "str"
  | .int _, _ => T = "int"
  | .ref l, M => T = "list" ∧ ∃ xs, LstAt M l xs
  | _, _ => False
noncomputable def eBM0 (T : String) (r : RM) (to : TEd) : TEd := fun τ M Q => to τ M fun x M1 => tyD T x M1 ∧ r x [] M1 Q
noncomputable def eBM (T : String) (r : RM) (to : TEd) (t : TAd) : TEd := fun τ M Q => to τ M fun x M1 => tyD T x M1 ∧ t τ M1 fun ds M2 => r x ds M2 Q
theorem tyD_low {K : PySem.W.Frag} {H : Hp} {M : DH} {T : String} {v : V} {x : D} (i : Is K H v x) (hm : HAbs K M H) (h : tyD T x M) : tyV K T v H := by
  cases i with
  | str z => exact h
  | int j => exact h
  | ref l => exact .inl ⟨h.1, let ⟨xs, hl⟩ := h.2; let ⟨ys, q, _⟩ := hm.lst hl; ⟨ys, q⟩⟩
  | _ => exact h.elim
variable {o : Expr} {to : TEd} {name : Str} {apos cpos : Pos} {T id : String} {r : RM}
theorem d_bm0 (pa : PlainAttrs T) (slot : Slot T name id) (hty : typeOf (.builtin id) = pure (.type "method_descriptor")) (hm : MtD X id r) (ho : PE X o (low X.K to))
    (hbase : attributeBase o name X.env (eval o X.env) = eval o X.env := by rfl) (hline : (apos.endLine == cpos.line) = true := by rfl) : PE X (.Call (.Attribute o name apos) [] [] cpos) (low X.K (eBM0 T r to)) :=
  (pe_bm0 pa slot hty hm ho hbase hline).imp fun σ H Q ⟨τ, M, Q', hs, hm, h, hq⟩ =>
    ⟨τ, M, _, hs, hm, h, fun x M1 v H1 m1 e1 i1 h1 => ⟨tyD_low i1 m1 h1.1, x, [], M1, Q', i1, .nil, m1, h1.2, hq.ext e1⟩⟩
theorem d_bm (pa : PlainAttrs T) (slot : Slot T name id) (hty : typeOf (.builtin id) = pure (.type "method_descriptor")) (hm : MtD X id r) (ho : PE X o (low X.K to)) (ha : PA X (e :: es) (lowA X.K t))
    (hbase : attributeBase o name X.env (eval o X.env) = eval o X.env := by rfl)
    (hfew : ((backTo cpos (starEach (e :: es) X.env)).all (fun x => !x.1) && (backToKw cpos (keywordEach [] X.env)).all (fun x => x.1.isSome)
      && decide ((e :: es).length + ([] : List Keyword).length + (if ([] : List Keyword).isEmpty then 0 else 1) < 30)) = true := by rfl)
    (hline : (apos.endLine == cpos.line) = true := by rfl) (hs : starEach (e :: es) X.env = (false, eval e X.env) :: starEach es X.env := by rfl) (hplain : (backTo cpos (starEach es X.env)).any (·.1) = false := by rfl) :
    PE X (.Call (.Attribute o name apos) (e :: es) [] cpos) (low X.K (eBM T r to t)) :=
  (pe_bm pa slot hty hm ho ha hbase hfew hline hs hplain).imp fun σ H Q ⟨τ, M, Q', hs, hm, h, hq⟩ =>
    ⟨τ, M, _, hs, hm, h, fun x M1 v H1 m1 e1 i1 h1 => ⟨tyD_low i1 m1 h1.1, τ, M1, _, hs.mono e1, m1, h1.2, fun ds M2 vs H2 m2 e2 i2 h2 => ⟨x, ds, M2, Q', i1.mono e2, i2, m2, h2, hq.ext (e1.trans e2)⟩⟩⟩
noncomputable def appendD : D → List D → DH → KD → Prop
  | .ref l, [y], M, Q => ∃ xs, M l = some (.lst xs) ∧ xs.length < sizeLine ∧ Q .non (updM M l (.lst (xs ++ [y])))
  | _, _, _, _ => False
theorem md_append : MtD X "list.append" appendD := by
  intro pins s σ H vx vs v us Q I rx rs zr153
  refine el_4_5 zr153 ?_; clear zr153; intro x ds M Q' ix iss hm q hq
  match x, ds, q, ix, iss with
  | .ref l, [y], q, ix, iss =>
    refine el_1_3 q ?_; clear q; intro xs hl hz q
    cases ix with
    | ref =>
      refine el_1_2 (iss1 iss) ?_; intro vy zq154 iy
      obtain rfl := zq154
      refine el_1_2 (hm l _ hl) ?_; intro ys h1 h2
      refine mt_append pins s σ H _ _ v us Q I rx rs ⟨l, ys, vy, rfl, rfl, h1, by rw [h2.length]; exact hz, ?_⟩
      refine el_0_2 (hm.setL hl h1 (h2.append (.cons iy .nil))) ?_; intro m1 e1
      exact hq _ _ _ _ m1 e1 .non q
noncomputable def popD : D → List D → DH → KD → Prop
  | .ref l, [], M, Q => ∃ xs y, M l = some (.lst (xs ++ [y])) ∧ Q y (updM M l (.lst xs))
  | _, _, _, _ => False
theorem md_pop : MtD X "list.pop" popD := by
  intro pins s σ H vx vs v us Q I rx rs zr155
  refine el_4_5 zr155 ?_; clear zr155; intro x ds M Q' ix iss hm q hq
  match x, ds, q, ix, iss with
  | .ref l, [], q, ix, iss =>
    refine el_2_2 q ?_; clear q; intro xs y hl q
    cases ix with
    | ref =>
      cases iss
      refine el_1_2 (hm l _ hl) ?_; intro ys h1 h2
      have hlen := h2.length
      rw [List.length_append, List.length_singleton] at hlen
      obtain ⟨vy, ey, iy⟩ := h2.get (i := ys.length - 1) (d := y) (by rw [hlen]; simp)
      refine mt_pop pins s σ H _ _ v us Q I rx rs ⟨l, ys, vy, rfl, rfl, h1, ey, ?_⟩
      have h3 := h2.dropLast
      rw [List.dropLast_concat] at h3
      refine el_0_2 (hm.setL hl h1 h3) ?_; intro m1 e1
      exact hq _ _ _ _ m1 e1 (iy.mono e1) q
noncomputable def truD : D → DH → (Bool → Prop) → Prop
  | .non, _, Q => Q false
  | .bl k, _, Q => Q k
  | .int i, _, Q => Q (i != 0)
  | .str y, _, Q => y.length ≤ sizeLine ∧ Q ((y.length : Int) != 0)
  | .tup ds, _, Q => Q (!ds.isEmpty)
  | .rol ds, _, Q => Q (!ds.isEmpty)
  | .ref l, M, Q => ∃ xs, LstAt M l xs ∧ Q (!xs.isEmpty)
  | .ty _, _, _ => False
noncomputable def eTru (te : TEd) : TTd := fun τ M Q => te τ M fun x M1 => truD x M1 fun k => Q k M1
theorem Iss.empty {K : PySem.W.Frag} {H : Hp} {vs : List V} {ds : List D} (h : Iss K H vs ds) : vs.isEmpty = ds.isEmpty := by cases h <;> rfl
theorem dt_val (ha : PE X a (low X.K ta)) (he : ∀ whole, isTrue a X.env whole = (do let v ← whole; standAt a.pos; holding [v] (truthy v)) := by intro _; rfl) : PT X a (lowT X.K (eTru ta)) :=
  (pt_truth ha he).imp fun σ H Q ⟨τ, M, Q', hs, hm, h, hq⟩ => ⟨τ, M, _, hs, hm, h, fun x M1 v H1 m1 e1 i1 h1 => by
    cases i1 with
    | non => exact ⟨false, rfl, hq _ M1 H1 m1 e1 h1⟩
    | bl k => exact ⟨k, rfl, hq _ M1 H1 m1 e1 h1⟩
    | int i => exact ⟨_, rfl, hq _ M1 H1 m1 e1 h1⟩
    | str y => exact ⟨_, ⟨h1.1, rfl⟩, hq _ M1 H1 m1 e1 h1.2⟩
    | ty n => exact h1.elim
    | tup hx hxs => exact ⟨_, .inr (.inl ⟨_, hx, rfl⟩), hq _ M1 H1 m1 e1 (by rw [hxs.empty]; exact h1)⟩
    | rol hx hxs => exact ⟨_, .inl ⟨_, hx.sq, rfl⟩, hq _ M1 H1 m1 e1 (by rw [hxs.empty]; exact h1)⟩
    | ref l =>
      refine el_1_2 h1 ?_; clear h1; intro xs hl q
      refine el_1_2 (m1.lst hl) ?_; intro ys h2 h3
      exact ⟨_, .inl ⟨_, h2, rfl⟩, hq _ M1 H1 m1 e1 (by rw [h3.empty]; exact q)⟩⟩
noncomputable def bAnd (t u : TTd) : TTd := fun τ M Q => t τ M fun k M1 => if k = true then u τ M1 Q else Q false M1
noncomputable def bOr (t u : TTd) : TTd := fun τ M Q => t τ M fun k M1 => if k = true then Q true M1 else u τ M1 Q
noncomputable def bNot (t : TTd) : TTd := fun τ M Q => t τ M fun k M1 => Q (!k) M1
variable {tA tB : TTd} {rest : List Expr}
theorem dw_and1 (ha : PT X a (lowT X.K tA)) : PW X (.BoolOp .And [a] pos) (lowT X.K tA) := pw_and1 ha
theorem dw_or1 (ha : PT X a (lowT X.K tA)) : PW X (.BoolOp .Or [a] pos) (lowT X.K tA) := pw_or1 ha
theorem dw_and (ha : PT X a (lowT X.K tA)) (hb : PW X (.BoolOp .And (b :: rest) pos) (lowT X.K tB)) : PW X (.BoolOp .And (a :: b :: rest) pos) (lowT X.K (bAnd tA tB)) :=
  L2.PW.imp (pw_and ha hb) fun σ H Q ⟨τ, M, Q', hs, hm, h, hq⟩ => ⟨τ, M, _, hs, hm, h, fun k M1 H1 m1 e1 h1 => by
    cases k with
    | true => rw [if_pos rfl] at h1 ⊢; exact ⟨τ, M1, Q', hs.mono e1, m1, h1, fun k M2 H2 m2 e2 h2 => hq k M2 H2 m2 (e1.trans e2) h2⟩
    | false => rw [if_neg Bool.false_ne_true] at h1 ⊢; exact hq false M1 H1 m1 e1 h1⟩
theorem dw_or (ha : PT X a (lowT X.K tA)) (hb : PW X (.BoolOp .Or (b :: rest) pos) (lowT X.K tB)) : PW X (.BoolOp .Or (a :: b :: rest) pos) (lowT X.K (bOr tA tB)) :=
  L2.PW.imp (pw_or ha hb) fun σ H Q ⟨τ, M, Q', hs, hm, h, hq⟩ => ⟨τ, M, _, hs, hm, h, fun k M1 H1 m1 e1 h1 => by
    cases k with
    | true => rw [if_pos rfl] at h1 ⊢; exact hq true M1 H1 m1 e1 h1
    | false => rw [if_neg Bool.false_ne_true] at h1 ⊢; exact ⟨τ, M1, Q', hs.mono e1, m1, h1, fun k M2 H2 m2 e2 h2 => hq k M2 H2 m2 (e1.trans e2) h2⟩⟩
theorem dt_not (ha : PT X a (lowT X.K tA)) : PT X (.UnaryOp .Not a pos) (lowT X.K (bNot tA)) :=
  L2.PT.imp (pt_not ha) fun σ H Q ⟨τ, M, Q', hs, hm, h, hq⟩ => ⟨τ, M, _, hs, hm, h, fun k M1 H1 m1 e1 h1 => hq (!k) M1 H1 m1 e1 h1⟩
noncomputable def vAnd (ta tb : TEd) : TEd := fun τ M Q => ta τ M fun x M1 => onBl x fun k => if k = true then tb τ M1 Q else Q (.bl false) M1
noncomputable def vOr (ta tb : TEd) : TEd := fun τ M Q => ta τ M fun x M1 => onBl x fun k => if k = true then Q (.bl true) M1 else tb τ M1 Q
noncomputable def vNot (ta : TEd) : TEd := fun τ M Q => ta τ M fun x M1 => onBl x fun k => Q (.bl (!k)) M1
theorem d_one {op} (h : PE X a (low X.K ta)) : PE X (.BoolOp op [a] pos) (low X.K ta) := pe_one h
theorem d_and (ha : PE X a (low X.K ta)) (hb : PE X (.BoolOp .And (b :: rest) pos) (low X.K tb)) : PE X (.BoolOp .And (a :: b :: rest) pos) (low X.K (vAnd ta tb)) :=
  L2.PE.imp (pe_and ha hb) fun σ H Q ⟨τ, M, Q', hs, hm, h, hq⟩ => ⟨τ, M, _, hs, hm, h, fun x M1 v H1 m1 e1 i1 h1 => by
    cases i1 with
    | bl k => cases k with
      | true => exact ⟨true, rfl, by rw [if_pos rfl]; exact ⟨τ, M1, Q', hs.mono e1, m1, h1, hq.ext e1⟩⟩
      | false => exact ⟨false, rfl, by rw [if_neg Bool.false_ne_true]; exact hq _ M1 _ H1 m1 e1 (.bl false) h1⟩
    | _ => exact h1.elim⟩
theorem d_or (ha : PE X a (low X.K ta)) (hb : PE X (.BoolOp .Or (b :: rest) pos) (low X.K tb)) : PE X (.BoolOp .Or (a :: b :: rest) pos) (low X.K (vOr ta tb)) :=
  L2.PE.imp (pe_or ha hb) fun σ H Q ⟨τ, M, Q', hs, hm, h, hq⟩ => ⟨τ, M, _, hs, hm, h, fun x M1 v H1 m1 e1 i1 h1 => by
    cases i1 with
    | bl k => cases k with
      | true => exact ⟨true, rfl, by rw [if_pos rfl]; exact hq _ M1 _ H1 m1 e1 (.bl true) h1⟩
      | false => exact ⟨false, rfl, by rw [if_neg Bool.false_ne_true]; exact ⟨τ, M1, Q', hs.mono e1, m1, h1, hq.ext e1⟩⟩
    | _ => exact h1.elim⟩
theorem d_not (ha : PE X a (low X.K ta)) : PE X (.UnaryOp .Not a pos) (low X.K (vNot ta)) :=
  L2.PE.imp (pe_not ha) fun σ H Q ⟨τ, M, Q', hs, hm, h, hq⟩ => ⟨τ, M, _, hs, hm, h, fun x M1 v H1 m1 e1 i1 h1 => by
    cases i1 with
    | bl k => exact ⟨k, rfl, hq _ M1 _ H1 m1 e1 (.bl _) h1⟩
    | _ => exact h1.elim⟩
end
section
variable {X : Cx} {st : Stmt} {rest : List Stmt} {t u : TSd} {e c : Expr} {te : TEd} {tc : TTd} {pos : Pos}
noncomputable def sNext : TSd := fun D τ M => D.nx τ M
noncomputable def sSeq (t u : TSd) : TSd := fun D τ M => t { D with nx := u D } τ M
theorem ss_nil : PSs X [] (lowS X.K sNext) := pss_nil.imp fun D σ H ⟨τ, M, D', hs, hm, h, hd⟩ => hd.nx τ M σ H hs hm (Ext.refl H) h
theorem ss_cons (h1 : PS X st (lowS X.K t)) (h2 : PSs X rest (lowS X.K u)) : PSs X (st :: rest) (lowS X.K (sSeq t u)) :=
  (pss_cons h1 h2).imp fun D σ H ⟨τ, M, D', hs, hm, h, hd⟩ =>
    ⟨τ, M, { D' with nx := u D' }, hs, hm, h, ⟨fun τ1 M1 σ1 H1 s1 m1 e1 q => ⟨τ1, M1, D', s1, m1, q, hd.ext e1⟩, hd.rt, hd.bk, hd.ct⟩⟩
theorem ss_one (h1 : PS X st (lowS X.K t)) : PSs X [st] (lowS X.K t) := pss_one h1
noncomputable def sDrop (te : TEd) : TSd := fun D τ M => te τ M fun _ M1 => D.nx τ M1
theorem s_expr (he : PE X e (low X.K te)) (hs : swapsWith e none pos.line X.env = pure false := by rfl) : PS X (.Expr e pos) (lowS X.K (sDrop te)) :=
  (ps_expr he hs).imp fun D σ H ⟨τ, M, D', hs, hm, h, hd⟩ => ⟨τ, M, _, hs, hm, h, fun _ M1 _ H1 m1 e1 _ q => hd.nx τ M1 σ H1 (hs.mono e1) m1 e1 q⟩
noncomputable def sRet (te : TEd) : TSd := fun D τ M => te τ M D.rt
theorem s_ret (he : PE X e (low X.K te)) : PS X (.Return (some e) pos) (lowS X.K (sRet te)) :=
  (ps_ret he).imp fun D σ H ⟨τ, M, D', hs, hm, h, hd⟩ => ⟨τ, M, _, hs, hm, h, hd.rt⟩
noncomputable def sIf (c : TTd) (t u : TSd) : TSd := fun D τ M => c τ M fun k M1 => if k = true then t D τ M1 else u D τ M1
theorem s_if {a b : List Stmt} (hc : PT X c (lowT X.K tc)) (ha : PSs X a (lowS X.K t)) (hb : PSs X b (lowS X.K u)) : PS X (.If c a b pos) (lowS X.K (sIf tc t u)) :=
  (ps_if hc ha hb).imp fun D σ H ⟨τ, M, D', hs, hm, h, hd⟩ => ⟨τ, M, _, hs, hm, h, fun k M1 H1 m1 e1 q => by
    cases k with
    | true => rw [if_pos rfl] at q ⊢; exact ⟨τ, M1, D', hs.mono e1, m1, q, hd.ext e1⟩
    | false => rw [if_neg Bool.false_ne_true] at q ⊢; exact ⟨τ, M1, D', hs.mono e1, m1, q, hd.ext e1⟩⟩
noncomputable abbrev TGd := D → DSt → DH → (DSt → DH → Prop) → Prop
noncomputable abbrev TGsd := List D → DSt → DH → (DSt → DH → Prop) → Prop
noncomputable def lowG (K : PySem.W.Frag) (g : TGd) : TG := fun v σ H Q => ∃ d τ M Q', Is K H v d ∧ SAbs K τ σ H ∧ HAbs K M H ∧ g d τ M Q' ∧ ∀ τ1 M1 σ1 H1, SAbs K τ1 σ1 H1 → HAbs K M1 H1 → Ext K H H1 → Q' τ1 M1 → Q σ1 H1
noncomputable def lowGs (K : PySem.W.Frag) (g : TGsd) : TGs := fun vs σ H Q => ∃ ds τ M Q', Iss K H vs ds ∧ SAbs K τ σ H ∧ HAbs K M H ∧ g ds τ M Q' ∧ ∀ τ1 M1 σ1 H1, SAbs K τ1 σ1 H1 → HAbs K M1 H1 → Ext K H H1 → Q' τ1 M1 → Q σ1 H1
theorem _root_.L2.PG.imp {tg : Expr} {t t' : TG} (h : PG X tg t) (hi : ∀ v σ H Q, t' v σ H Q → t v σ H Q) : PG X tg t' := fun pins s σ H v u Q I r q => h pins s σ H v u Q I r (hi _ _ _ _ q)
theorem _root_.L2.PGs.imp {tg : List Expr} {t t' : TGs} (h : PGs X tg t) (hi : ∀ v σ H Q, t' v σ H Q → t v σ H Q) : PGs X tg t' := fun pins s σ H v u Q I r q => h pins s σ H v u Q I r (hi _ _ _ _ q)
noncomputable def hName (i : Nat) : TGd := fun d τ M Q => Q (τ.set i (some d)) M
theorem g_name {i : Nat} {x : Str} (hN : X.N.Nodup) (hi : X.N[i]? = some x := by rfl) (hx : Loc X.env.scope x := by first | exact Or.inl rfl | exact Or.inr rfl) (hf : X.fn x = true ∨ X.env.scope.names.lookup x = some .local := by first | exact .inl rfl | exact .inr rfl | assumption) : PG X (.Name x pos) (lowG X.K (hName i)) :=
  (pg_name hN hi hx hf).imp fun v σ H Q ⟨d, τ, M, Q', i, hs, hm, h, hq⟩ => hq _ M _ H (hs.set i) hm (Ext.refl H) h
noncomputable def hNil : List D → DSt → DH → (DSt → DH → Prop) → Prop
  | [], τ, M, Q => Q τ M
  | _ :: _, _, _, _ => False
noncomputable def hCons (g : TGd) (gs : TGsd) : List D → DSt → DH → (DSt → DH → Prop) → Prop
  | d :: r, τ, M, Q => g d τ M fun τ1 M1 => gs r τ1 M1 Q
  | [], _, _, _ => False
theorem gs_nil : PGs X [] (lowGs X.K hNil) := pgs_nil.imp fun v σ H Q ⟨ds, τ, M, Q', iss, hs, hm, h, hq⟩ => by
  cases iss with
  | nil => exact ⟨rfl, hq τ M σ H hs hm (Ext.refl H) h⟩
  | cons _ _ => exact h.elim
theorem gs_cons {es : List Expr} {g : TGd} {gs : TGsd} (h1 : PG X e (lowG X.K g)) (h2 : PGs X es (lowGs X.K gs))
    (hs : (assignEach (e :: es) X.env).map (·.2) = assign e X.env :: (assignEach es X.env).map (·.2) := by rfl) : PGs X (e :: es) (lowGs X.K (hCons g gs)) :=
  (pgs_cons h1 h2 hs).imp fun v σ H Q ⟨ds, τ, M, Q', iss, hs, hm, h, hq⟩ => by
    cases iss with
    | nil => exact h.elim
    | cons i t => exact ⟨_, _, rfl, _, τ, M, _, i, hs, hm, h, fun τ1 M1 σ1 H1 s1 m1 e1 q => ⟨_, τ1, M1, Q', t.mono e1, s1, m1, q, fun τ2 M2 σ2 H2 s2 m2 e2 q2 => hq τ2 M2 σ2 H2 s2 m2 (e1.trans e2) q2⟩⟩
noncomputable def hTup (gs : TGsd) : D → DSt → DH → (DSt → DH → Prop) → Prop
  | .tup ds, τ, M, Q => gs ds τ M Q
  | _, _, _, _ => False
theorem g_tup {es : List Expr} {k n : Nat} {gs : TGsd} (hc : X.calm = true) (h : PGs X es (lowGs X.K gs)) (hln : ∀ ds τ M Q, gs ds τ M Q → ds.length = n)
    (hn : (assignEach es X.env).length = n := by rfl) (hst : (assignEach es X.env).findIdx? (·.1) = none := by rfl) : PG X (.Tuple es k pos) (lowG X.K (hTup gs)) :=
  (pg_tup hc h hn hst).imp fun v σ H Q ⟨d, τ, M, Q', i, hs, hm, h, hq⟩ => by
    cases i with
    | tup hx hxs => exact ⟨_, _, rfl, hx, by rw [hxs.length]; exact hln _ _ _ _ h, _, τ, M, Q', hxs, hs, hm, h, hq⟩
    | _ => exact h.elim
noncomputable def setD : D → D → D → DH → (DH → Prop) → Prop
  | .ref l, .int i, d, M, Q => ∃ xs j, M l = some (.lst xs) ∧ ixN xs.length i = some j ∧ Q (updM M l (.lst (xs.set j d)))
  | _, _, _, _, _ => False
noncomputable def hSub (to ti : TEd) : TGd := fun d τ M Q => to τ M fun x M1 => ti τ M1 fun y M2 => setD x y d M2 fun M3 => Q τ M3
theorem g_sub {o i : Expr} {to ti : TEd} (ho : PE X o (low X.K to)) (hi : PE X i (low X.K ti))
    (ha : ∀ v, assign (.Subscript o i pos) X.env v = (do
      let ov ← holding [v] (eval o X.env)
      let iv ← holding [v, ov] (eval i X.env)
      standAt pos
      holding [v, ov, iv] (setItem ov iv v)
      release [v, ov, iv] []) := by intro _; rfl) : PG X (.Subscript o i pos) (lowG X.K (hSub to ti)) :=
  (pg_sub ho hi set_list ha).imp fun v σ H Q ⟨d, τ, M, Q', i, hs, hm, h, hq⟩ =>
    ⟨τ, M, _, hs, hm, h, fun x M1 vx H1 m1 e1 i1 h1 => ⟨τ, M1, _, hs.mono e1, m1, h1, fun y M2 vy H2 m2 e2 i2 h2 => by
      have i1' := i1.mono e2
      match x, y, h2, i1', i2 with
      | .ref l, .int k, h2, i1', i2 =>
        refine el_2_3 h2 ?_; clear h2; intro xs j hl hj q
        cases i1' with
        | ref =>
          (first | cases i2.inv | cases i2)
          refine el_1_2 (m2 l _ hl) ?_; intro ys z1 z2
          have e12 := e1.trans e2
          refine el_0_2 (m2.setL hl z1 (z2.set (i.mono e12) j)) ?_; intro m3 e3
          exact ⟨l, ys, k, j, rfl, rfl, z1, by rw [z2.length]; exact hj, hq τ _ σ _ (hs.mono (e12.trans e3)) m3 (e12.trans e3) q⟩⟩⟩
noncomputable def sAsg (te : TEd) (g : TGd) : TSd := fun D τ M => te τ M fun x M1 => g x τ M1 D.nx
theorem low_asg {K : PySem.W.Frag} {g : TGd} {D : Ends} {σ : St} {H : Hp} (h : lowS K (sAsg te g) D σ H) : tAsg (low K te) (lowG K g) D σ H := by
  refine el_3_4 h ?_; clear h; intro τ M D' hs hm h hd
  exact in_eeeccc τ M _ hs hm h (fun x M1 v H1 m1 e1 i1 q => ⟨x, τ, M1, _, i1, hs.mono e1, m1, q, fun τ2 M2 σ2 H2 s2 m2 e2 q2 => hd.nx τ2 M2 σ2 H2 s2 m2 (e1.trans e2) q2⟩)
theorem s_asg {tg : Expr} {g : TGd} (he : PE X e (low X.K te)) (hg : PG X tg (lowG X.K g)) (hs : swapsWithSole [tg] e pos.line X.env = pure false := by rfl) (hw : swappedStores [tg] e X.env = pure none := by rfl)
    (h1 : (assignEach [tg] X.env).map (·.2) = [assign tg X.env] := by rfl) : PS X (.Assign [tg] e pos) (lowS X.K (sAsg te g)) :=
  (ps_asg he hg hs hw h1).imp fun _ _ _ h => low_asg h
theorem s_set {i : Nat} {x : Str} {pos' : Pos} (hN : X.N.Nodup) (he : PE X e (low X.K te)) (hi : X.N[i]? = some x := by rfl) (hx : Loc X.env.scope x := by first | exact Or.inl rfl | exact Or.inr rfl) (hs : swapsWith e (some (.Name x pos')) pos.line X.env = pure false := by rfl) (hf : X.fn x = true ∨ X.env.scope.names.lookup x = some .local := by first | exact .inl rfl | exact .inr rfl | assumption) :
    PS X (.Assign [.Name x pos'] e pos) (lowS X.K (sAsg te (hName i))) :=
  (ps_set hN hi hx he hs hf).imp fun D σ H ⟨τ, M, D', hs, hm, h, hd⟩ => ⟨τ, M, _, hs, hm, h, fun x M1 v H1 m1 e1 i1 q => hd.nx _ M1 _ H1 ((hs.mono e1).set i1) m1 e1 q⟩
end
end DL
namespace DL
open PySem PySem.Spec PyProof.Rows L2
section
variable {X : Cx} {e c tg : Expr} {te : TEd} {tc : TTd} {tb : TSd} {g : TGd} {pos : Pos}
noncomputable def sWhile (c : TTd) (tb : TSd) : TSd := fun D τ M => ∃ W : Nat → DSt → DH → Prop, (∃ m, W m τ M) ∧ ∀ m τ M, W m τ M →
  c τ M fun k M1 => if k = true then tb { D with nx := fun τ' M' => ∃ m', m' < m ∧ W m' τ' M', ct := fun τ' M' => ∃ m', m' < m ∧ W m' τ' M', bk := D.nx } τ M1 else D.nx τ M1
theorem s_while {body : List Stmt} (hp : PassesOwn (model X.prog X.w) X.A X.env X.xe) (hc : PT X c (lowT X.K tc)) (hb : PSs X body (lowS X.K tb)) : PS X (.While c body [] pos) (lowS X.K (sWhile tc tb)) :=
  (ps_while hp hc hb).imp fun D σ H ⟨τ, M, D', hs, hm, ⟨W, ⟨m0, w0⟩, turn⟩, hd⟩ => by
    refine ⟨fun m σ1 H1 => ∃ τ1 M1, SAbs X.K τ1 σ1 H1 ∧ HAbs X.K M1 H1 ∧ Ext X.K H H1 ∧ W m τ1 M1, ⟨m0, τ, M, hs, hm, Ext.refl H, w0⟩, ?_⟩
    intro m σ1 H1 zr156
    refine el_2_4 zr156 ?_; clear zr156; intro τ1 M1 s1 m1 e1 w1
    refine in_eeeccc τ1 M1 _ s1 m1 (turn m τ1 M1 w1) (fun k M2 H2 m2 e2 q2 => ?_)
    cases k with
    | true =>
      rw [if_pos rfl] at q2 ⊢
      refine in_eceeeccc _ (fun σ3 H3 h3 => h3) τ1 M2 _ (s1.mono e2) m2 q2 (⟨?_, hd.rt.ext (e1.trans e2), ?_, ?_⟩)
      · intro τ3 M3 σ3 H3 s3 m3 e3 zr157
        refine el_1_2 zr157 ?_; clear zr157; intro m' hm' w3
        exact in_eceeccc m' hm' τ3 M3 s3 m3 (e1.trans (e2.trans e3)) w3
      · intro τ3 M3 σ3 H3 s3 m3 e3 q3
        exact hd.nx τ3 M3 σ3 H3 s3 m3 (e1.trans (e2.trans e3)) q3
      · intro τ3 M3 σ3 H3 s3 m3 e3 zr158
        refine el_1_2 zr158 ?_; clear zr158; intro m' hm' w3
        exact in_eceeccc m' hm' τ3 M3 s3 m3 (e1.trans (e2.trans e3)) w3
    | false =>
      rw [if_neg Bool.false_ne_true] at q2 ⊢
      exact hd.nx τ1 M2 σ1 H2 (s1.mono e2) m2 (e1.trans e2) q2
theorem walks_imp {prog : Program} {w : World} {A : Around} {I : Addr} {fp wr : List Addr} {n : Nat} {P P' : Nat → Value → Prop} {St : Nat → Heap → Prop} (W : Walks prog w A I fp wr n P St) (h : ∀ i v, P i v → P' i v) : Walks prog w A I fp wr n P' St :=
  ⟨W.sub, W.frame, fun i s Q E hi st hQ => W.item i s Q E hi st fun v h' tk hp => hQ v h' tk (h i v hp), W.done, W.self⟩
noncomputable def Itf (n : Nat) (f : Nat → V) : It := ⟨fun i _ => i < n, fun i H x H' => H' = H ∧ x = f i, fun i _ => i = n⟩
theorem turn_walks {P : Program} {w : World} {K : PySem.W.Frag} {tg : Expr} (it : Addr) (n : Nat) (f : Nat → V) (St : Nat → Heap → Prop) (W : ∀ A : Around, A.handled = none → Walks P w A it [it] [it] n (fun i v => RelV (f i) v) St)
    (hobj : ∀ i h, St i h → ∃ (o : Obj) (ty : String) (vs : Array Value), h.get? it = some o ∧ o.cls = .type ty ∧ o.data = .fields vs ∧ ["enumerate", "zip", "dict_itemiterator", "dict_reverseitemiterator", "odict_iterator", "itertools.zip_longest", "itertools.pairwise"].contains ty = false)
    (self : ∀ (A : Around) (i : Nat) (s : Shared) (Q : Value → Shared → Prop) (E : Value → Shared → Prop), St i s.heap → Q (.ref it) s → wpAny (model P w) A (pyIter (.ref it)) Q E s) :
    Turn P w K tg (Itf n f) [it] it St where
  mem := by simp
  obj := fun i h st b hb => by
    have e : b = it := by simpa using hb
    subst e
    refine el_3_4 (hobj i h st) ?_; intro o ty vs h1 h2 h3 _
    exact in_ec o h1 (fun v z => by rw [h3] at z; cases z)
  keep := fun i h h' st k => (W { depth := 0, units := 0, handled := none, frames := none } rfl).frame i h h' st k
  item := by
    intro X hP hw hK hc i pins s σ H E I hf st hg
    subst hP hw hK
    refine el_0_6 (hf it (by simp)) ?_; intro f0 f1 f2 f3 f4 f5
    refine (W X.A (I.ok.hd hc)).item i s _ _ hg st fun v h' tk hv st' kk => ?_
    have I1 : Inv X pins σ H { s with heap := h', toks := tk } := I.turned (fun b o hb e => kk b o (by simpa using hb) e) f0 f1 f3 f4 f5
    refine el_3_4 (hobj _ _ st') ?_; intro o ty vs h1 h2 h3 h4
    exact in_ec _ rfl (go_of (s := { s with heap := h', toks := tk }) (n := ty) h1 h2 h3 h4 ⟨f i, H, I1, hv, ⟨rfl, rfl⟩, st', fun b hb => (hf b hb).1⟩)
  done := by
    intro X hP hw hK hc i pins s σ H E I hf st hg
    subst hP hw hK
    refine el_0_6 (hf it (by simp)) ?_; intro f0 f1 f2 f3 f4 f5
    have e : i = n := hg
    subst e
    exact (W X.A (I.ok.hd hc)).done s _ _ st fun h' tk kk => ⟨rfl, I.turned (fun b o hb e => kk b o (by simpa using hb) e) f0 f1 f3 f4 f5⟩
  self := self
noncomputable def signV (z : Str) (i : Nat) : V := .str ⟨#[z.cps.getD i 0]⟩
noncomputable def iAny (K : PySem.W.Frag) (tl : TE) : TI := fun σ H R => tl σ H fun x H1 => (∃ a, x = .ref a ∧ (((∃ xs, SqL K H1 a xs) ∧ R (Itl K a) H1) ∨ ((∃ xs, SqT K H1 a xs) ∧ R (Itt K a) H1))) ∨ ∃ z, x = .str z ∧ R (Itf z.cps.size (signV z)) H1
theorem pi_any {l : Expr} {tl : TE} (hl : PE X l tl) : PI X tg l (iAny X.K tl) := by
  intro pins s σ H R I h
  refine thn (hl pins s σ H _ I h) fun v s1 zz0 => ?_
  refine el_2_3 zz0 ?_; clear zz0; intro x H1 I1 r1 q1
  have fr : ∀ b ∈ [s1.heap.objs.size], FpOk X pins H1 b := fun b hb => by
    have e : b = s1.heap.objs.size := by simpa using hb
    subst e
    exact I1.fpOk (Nat.le_refl _) (I1.hok.fresh (Nat.le_refl _))
  rcases q1 with ⟨a, e, q1⟩ | ⟨z, e, q⟩
  · subst e
    cases r1
    rcases q1 with ⟨⟨xs, hq⟩, q⟩ | ⟨⟨xs, hq⟩, q⟩
    · refine el_1_3 (I1.list hq) ?_; intro its rv p hz
      refine wpAny_pyIter_list p.isList ?_
      exact in_eeeeeccccc s1.heap.objs.size ([s1.heap.objs.size]) _ _ H1 rfl (I1.kept (t' := s1.toks) fun b o e => Heap.get?_push_of_some _ e) (turn_list a _) (⟨_, Heap.get?_push_size _ rfl, rfl, rfl⟩) fr q
    · refine el_1_3 (I1.tuple hq) ?_; intro its rv p hz
      refine wpAny_pyIter_tuple (show s1.heap.IsTuple a its.toArray from p) ?_
      exact in_eeeeeccccc s1.heap.objs.size ([s1.heap.objs.size]) _ _ H1 rfl (I1.kept (t' := s1.toks) fun b o e => Heap.get?_push_of_some _ e) (turn_tuple a _) (⟨_, Heap.get?_push_size _ rfl, rfl, rfl⟩) fr q
  · subst e
    refine el_1_1 r1 ?_; clear r1; intro t zq159
    obtain rfl := zq159
    have hrel : ∀ (i : Nat) (v : Value), (∃ c u, z.cps[i]? = some c ∧ v = .str ⟨#[c]⟩ u) → RelV (signV z i) v := fun i v ⟨c, u, e1, e2⟩ => by
      refine ⟨u, ?_⟩
      have : z.cps.getD i 0 = c := by rw [Array.getD_eq_getD_getElem?, e1]; rfl
      rw [e2, this]
    cases ha : z.cps.all (· < 128) with
    | true =>
      refine wpAny_pyIter_ascii ha ?_
      refine ⟨s1.heap.objs.size, [s1.heap.objs.size], _, _, H1, rfl, I1.kept (t' := s1.toks) fun b o e => Heap.get?_push_of_some _ e, turn_walks s1.heap.objs.size z.cps.size (signV z) (fun i h => h.IsStrIter s1.heap.objs.size "str_ascii_iterator" z t i)
        (fun A hA => walks_imp (Walks.strAscii (A := A) hA s1.heap.objs.size z t) hrel) (fun i h ⟨o, h1, h2, h3⟩ => ⟨o, _, _, h1, h2, h3, by decide⟩) (fun _ _ _ _ _ st h => wpAny_pyIter_striter_ascii st h), ⟨_, Heap.get?_push_size _ rfl, rfl, rfl⟩, fr, q⟩
    | false =>
      refine wpAny_pyIter_wide ha ?_
      refine ⟨s1.heap.objs.size, [s1.heap.objs.size], _, _, H1, rfl, I1.kept (t' := s1.toks) fun b o e => Heap.get?_push_of_some _ e, turn_walks s1.heap.objs.size z.cps.size (signV z) (fun i h => h.IsStrIter s1.heap.objs.size "str_iterator" z t i)
        (fun A hA => walks_imp (Walks.strWide (A := A) hA s1.heap.objs.size z t) hrel) (fun i h ⟨o, h1, h2, h3⟩ => ⟨o, _, _, h1, h2, h3, by decide⟩) (fun _ _ _ _ _ st h => wpAny_pyIter_striter_wide st h), ⟨_, Heap.get?_push_size _ rfl, rfl, rfl⟩, fr, q⟩
structure Gives (K : PySem.W.Frag) (J : It) (ds : List D) (H : Hp) : Prop where
  go : ∀ i, i < ds.length → J.go i H
  yld : ∀ i x H', i < ds.length → J.yld i H x H' → H' = H ∧ ∃ d, ds[i]? = some d ∧ Is K H x d
  stop : J.stop ds.length H
theorem gives_list {K : PySem.W.Frag} {H : Hp} {a : Addr} {xs : List V} {ds : List D} (h : SqL K H a xs) (i : Iss K H xs ds) : Gives K (Itl K a) ds H :=
  ⟨fun j hj => let ⟨v, e, _⟩ := i.get (List.getElem?_eq_getElem hj); ⟨xs, v, h, e⟩, fun j x H' _ ⟨e, y⟩ => ⟨e, i.getV (y xs h)⟩, ⟨xs, h, by rw [i.length]; exact Nat.le_refl _⟩⟩
theorem gives_tup {K : PySem.W.Frag} {H : Hp} {a : Addr} {xs : List V} {ds : List D} (h : SqT K H a xs) (i : Iss K H xs ds) : Gives K (Itt K a) ds H :=
  ⟨fun j hj => let ⟨v, e, _⟩ := i.get (List.getElem?_eq_getElem hj); ⟨xs, v, h, e⟩, fun j x H' _ ⟨e, y⟩ => ⟨e, i.getV (y xs h)⟩, ⟨xs, h, by rw [i.length]; exact Nat.le_refl _⟩⟩
noncomputable def signs (z : Str) : List D := z.cps.toList.map fun c => .str ⟨#[c]⟩
theorem signs_length (z : Str) : (signs z).length = z.cps.size := by simp [signs]
theorem gives_str {K : PySem.W.Frag} {H : Hp} (z : Str) : Gives K (Itf z.cps.size (signV z)) (signs z) H :=
  ⟨fun j hj => by rw [signs_length] at hj; exact hj, fun j x H' hj ⟨e, y⟩ => by
    refine in_cec e (.str ⟨#[z.cps.getD j 0]⟩) ?_ (by rw [y]; exact .str _)
    rw [signs_length] at hj
    unfold signs
    rw [List.getElem?_map, Array.getElem?_toList, Array.getElem?_eq_getElem hj]
    simp [Array.getD_eq_getD_getElem?, hj], by rw [signs_length]; exact rfl⟩
noncomputable def walkD (ds : List D) (st : DH → Prop) (g : TGd) (tb : TSd) (E : EndsD) (τ : DSt) (M : DH) : Prop := ∃ W : Nat → DSt → DH → Prop, W 0 τ M ∧ (∀ i τ M, i ≤ ds.length → W i τ M → st M) ∧
  (∀ i d τ M, ds[i]? = some d → W i τ M → g d τ M fun τ2 M2 => tb { E with nx := W (i + 1), ct := W (i + 1), bk := E.nx } τ2 M2) ∧ ∀ τ M, W ds.length τ M → E.nx τ M
noncomputable def forD (g : TGd) (tb : TSd) (E : EndsD) (τ : DSt) : D → DH → Prop
  | .tup ds, M => walkD ds (fun _ => True) g tb E τ M
  | .rol ds, M => walkD ds (fun _ => True) g tb E τ M
  | .str z, M => walkD (signs z) (fun _ => True) g tb E τ M
  | .ref l, M => ∃ ds, M l = some (.lst ds) ∧ walkD ds (fun M => M l = some (.lst ds)) g tb E τ M
  | _, _ => False
noncomputable def sFor (te : TEd) (g : TGd) (tb : TSd) : TSd := fun E τ M => te τ M fun x M1 => forD g tb E τ x M1
theorem lowEnds {K : PySem.W.Frag} {H H1 : Hp} {D' : EndsD} {E : Ends} {W : DSt → DH → Prop} (hd : LowD K H D' E) (e : Ext K H H1) :
    LowD K H1 { D' with nx := W, ct := W, bk := D'.nx } { E with nx := fun σ H2 => ∃ τ M, SAbs K τ σ H2 ∧ HAbs K M H2 ∧ Ext K H H2 ∧ W τ M, ct := fun σ H2 => ∃ τ M, SAbs K τ σ H2 ∧ HAbs K M H2 ∧ Ext K H H2 ∧ W τ M, bk := E.nx } :=
  ⟨fun τ M σ H2 s2 m2 e2 q => ⟨τ, M, s2, m2, e.trans e2, q⟩, hd.rt.ext e, fun τ M σ H2 s2 m2 e2 q => hd.nx τ M σ H2 s2 m2 (e.trans e2) q, fun τ M σ H2 s2 m2 e2 q => ⟨τ, M, s2, m2, e.trans e2, q⟩⟩
theorem low_turn {K : PySem.W.Frag} {H H1 : Hp} {D' : EndsD} {E : Ends} {g : TGd} {tb : TSd} {d : D} {v : V} {τ : DSt} {σ : St} {M : DH} {W : DSt → DH → Prop} (hd : LowD K H D' E) (e1 : Ext K H H1) (i : Is K H1 v d) (s1 : SAbs K τ σ H1) (m1 : HAbs K M H1)
    (h : g d τ M fun τ2 M2 => tb { D' with nx := W, ct := W, bk := D'.nx } τ2 M2) :
    lowG K g v σ H1 fun σ2 H2 => lowS K tb { E with nx := fun σ H2 => ∃ τ M, SAbs K τ σ H2 ∧ HAbs K M H2 ∧ Ext K H H2 ∧ W τ M, ct := fun σ H2 => ∃ τ M, SAbs K τ σ H2 ∧ HAbs K M H2 ∧ Ext K H H2 ∧ W τ M, bk := E.nx } σ2 H2 :=
  ⟨d, τ, M, _, i, s1, m1, h, fun τ2 M2 σ2 H2 s2 m2 e2 q2 => ⟨τ2, M2, _, s2, m2, q2, lowEnds hd (e1.trans e2)⟩⟩
theorem for_gives {K : PySem.W.Frag} {J : It} {ds : List D} {st : DH → Prop} {g : TGd} {tb : TSd} {D' : EndsD} {E : Ends} {τ : DSt} {σ : St} {M : DH} {H H1 : Hp} (hd : LowD K H D' E) (e1 : Ext K H H1) (s1 : SAbs K τ σ H1) (m1 : HAbs K M H1)
    (hg : ∀ M2 H2, HAbs K M2 H2 → Ext K H1 H2 → st M2 → Gives K J ds H2) (h : walkD ds st g tb D' τ M) :
    ∃ W : Nat → Nat → St → Hp → Prop, (∃ m, W 0 m σ H1) ∧ ∀ i m σ H, W i m σ H →
      (J.stop i H ∧ E.nx σ H) ∨ (J.go i H ∧ ∃ N : St → Hp → Prop, (∀ σ' H', N σ' H' → ∃ m', m' < m ∧ W (i + 1) m' σ' H') ∧ ∀ x H', J.yld i H x H' → lowG K g x σ H' fun σ2 H2 => lowS K tb { E with nx := N, ct := N, bk := E.nx } σ2 H2) := by
  refine el_1_4 h ?_; clear h; intro W w0 stay turn done
  refine ⟨fun i m σ2 H2 => m = ds.length - i ∧ i ≤ ds.length ∧ ∃ τ2 M2, SAbs K τ2 σ2 H2 ∧ HAbs K M2 H2 ∧ Ext K H1 H2 ∧ W i τ2 M2, ⟨ds.length, by simp, Nat.zero_le _, τ, M, s1, m1, Ext.refl H1, w0⟩, ?_⟩
  rintro i m σ2 H2 ⟨rfl, hi, τ2, M2, s2, m2, e2, w2⟩
  have G := hg M2 H2 m2 e2 (stay i τ2 M2 hi w2)
  by_cases hlt : i < ds.length
  · refine .inr ⟨G.go i hlt, fun σ3 H3 => ∃ τ3 M3, SAbs K τ3 σ3 H3 ∧ HAbs K M3 H3 ∧ Ext K H1 H3 ∧ W (i + 1) τ3 M3, fun σ3 H3 p => ⟨ds.length - (i + 1), by (first | lia | omega), rfl, hlt, p⟩, fun x H' y => ?_⟩
    obtain ⟨rfl, d, ed, id⟩ := G.yld i x H' hlt y
    exact low_turn (hd.ext e1) e2 id s2 m2 (turn i d τ2 M2 ed w2)
  · have e : i = ds.length := by (first | lia | omega)
    subst e
    exact .inl ⟨G.stop, hd.nx τ2 M2 σ2 H2 s2 m2 (e1.trans e2) (done τ2 M2 w2)⟩
theorem s_for {iter : Expr} {body : List Stmt} (hp : PassesOwn (model X.prog X.w) X.A X.env X.xe) (hc : X.calm = true) (hi : PE X iter (low X.K te)) (hg : PG X tg (lowG X.K g)) (hb : PSs X body (lowS X.K tb))
    (hs : ∀ x, foldedSetIterable iter X.env x = pure x := by intro _; rfl) : PS X (.For tg iter body [] pos) (lowS X.K (sFor te g tb)) :=
  (ps_for hp hc (pi_any hi) hg hb hs).imp fun D σ H ⟨τ, M, D', hs, hm, h, hd⟩ => ⟨τ, M, _, hs, hm, h, fun x M1 v H1 m1 e1 i1 h1 => by
    cases i1 with
    | @tup a xs ds hx hxs => exact .inl ⟨a, rfl, .inr ⟨⟨xs, hx⟩, for_gives hd e1 (hs.mono e1) m1 (fun M2 H2 m2 e2 _ => gives_tup (e2.t _ _ hx) (hxs.mono e2)) h1⟩⟩
    | @rol a xs ds hx hxs => exact .inl ⟨a, rfl, .inl ⟨⟨xs, hx.sq⟩, for_gives hd e1 (hs.mono e1) m1 (fun M2 H2 m2 e2 _ => gives_list (e2.f _ _ hx).sq (hxs.mono e2)) h1⟩⟩
    | str z => exact .inr ⟨z, rfl, for_gives hd e1 (hs.mono e1) m1 (fun M2 H2 m2 e2 _ => gives_str z) h1⟩
    | ref l =>
      refine el_1_2 h1 ?_; clear h1; intro ds hl w
      refine el_1_2 (m1 l _ hl) ?_; intro xs hx hxs
      exact .inl ⟨l, rfl, .inl ⟨⟨xs, SqL.of hx⟩, for_gives hd e1 (hs.mono e1) m1 (fun M2 H2 m2 e2 hl2 => let ⟨ys, hy, iy⟩ := m2.lst hl2; gives_list hy iy) w⟩⟩
    | _ => exact h1.elim⟩
noncomputable def walkR (f : Nat → Int) (n : Nat) (g : TGd) (tb : TSd) (E : EndsD) (τ : DSt) (M : DH) : Prop := ∃ W : Nat → DSt → DH → Prop, W 0 τ M ∧
  (∀ i τ M, i < n → W i τ M → g (.int (f i)) τ M fun τ2 M2 => tb { E with nx := W (i + 1), ct := W (i + 1), bk := E.nx } τ2 M2) ∧ ∀ τ M, W n τ M → E.nx τ M
noncomputable def for1D (g : TGd) (tb : TSd) (E : EndsD) (τ : DSt) : List D → DH → Prop
  | [.int j], M => (-(2 ^ 62) ≤ j ∧ j < 2 ^ 62) ∧ walkR (fun i => (i : Int)) j.toNat g tb E τ M
  | _, _ => False
noncomputable def sFor1 (ta : TAd) (g : TGd) (tb : TSd) : TSd := fun E τ M => ta τ M fun vs M1 => for1D g tb E τ vs M1
theorem for_rangeD {K : PySem.W.Frag} {lo : Int} {n : Nat} {g : TGd} {tb : TSd} {D' : EndsD} {E : Ends} {τ : DSt} {σ : St} {M : DH} {H H1 : Hp} (hd : LowD K H D' E) (e1 : Ext K H H1) (s1 : SAbs K τ σ H1) (m1 : HAbs K M H1) (h : walkR (fun i => lo + (i : Int)) n g tb D' τ M) :
    ∃ W : Nat → Nat → St → Hp → Prop, (∃ m, W 0 m σ H1) ∧ ∀ i m σ H, W i m σ H →
      ((Itr lo n).stop i H ∧ E.nx σ H) ∨ ((Itr lo n).go i H ∧ ∃ N : St → Hp → Prop, (∀ σ' H', N σ' H' → ∃ m', m' < m ∧ W (i + 1) m' σ' H') ∧ ∀ x H', (Itr lo n).yld i H x H' → lowG K g x σ H' fun σ2 H2 => lowS K tb { E with nx := N, ct := N, bk := E.nx } σ2 H2) := by
  refine el_1_3 h ?_; clear h; intro W w0 turn done
  refine for_range (fun i σ2 H2 => ∃ τ2 M2, SAbs K τ2 σ2 H2 ∧ HAbs K M2 H2 ∧ Ext K H1 H2 ∧ W i τ2 M2) ⟨τ, M, s1, m1, Ext.refl H1, w0⟩ ?_ ?_
  · intro i σ2 H2 hi zr161
    refine el_2_4 zr161 ?_; clear zr161; intro τ2 M2 s2 m2 e2 w2
    exact low_turn (hd.ext e1) e2 (.int _) s2 m2 (turn i τ2 M2 hi w2)
  · intro σ2 H2 zr162
    refine el_2_4 zr162 ?_; clear zr162; intro τ2 M2 s2 m2 e2 w2
    exact hd.nx τ2 M2 σ2 H2 s2 m2 (e1.trans e2) (done τ2 M2 w2)
theorem s_for1 {a : Expr} {ta : TAd} {body : List Stmt} {p cpos : Pos} (hp : PassesOwn (model X.prog X.w) X.A X.env X.xe) (hc : X.calm = true) (hm : X.mg "range" = none) (ha : PA X [a] (lowA X.K ta)) (hg : PG X tg (lowG X.K g)) (hb : PSs X body (lowS X.K tb)) (hgl : Gl X "range" := by rfl)
    (hst : starEach [a] X.env = [(false, eval a X.env)] := by rfl) (hs : ∀ x, foldedSetIterable (.Call (.Name "range" p) [a] [] cpos) X.env x = pure x := by intro _; rfl) : PS X (.For tg (.Call (.Name "range" p) [a] [] cpos) body [] pos) (lowS X.K (sFor1 ta g tb)) :=
  (ps_for hp hc (pi_range1 hgl hm ha hst) hg hb hs).imp fun D σ H ⟨τ, M, D', hs, hm, h, hd⟩ => ⟨τ, M, _, hs, hm, h, fun ds M1 vs H1 m1 e1 i1 h1 => by
    match ds, h1, i1 with
    | [.int j], h1, i1 =>
      refine el_1_2 (iss1 i1) ?_; intro v zq163 i
      obtain rfl := zq163
      (first | cases i.inv | cases i)
      refine el_0_2 h1 ?_; clear h1; intro zq164 w
      refine el_0_2 zq164 ?_; clear zq164; intro q1 q2
      have w' : walkR (fun i => 0 + (i : Int)) j.toNat g tb D' τ M1 := by
        have e : (fun i : Nat => 0 + (i : Int)) = fun i : Nat => (i : Int) := by funext i; (first | lia | omega)
        rw [e]; exact w
      exact ⟨j, rfl, q1, q2, for_rangeD hd e1 (hs.mono e1) m1 w'⟩⟩
noncomputable abbrev SpD := List D → DH → KD → Prop
noncomputable def lowSp (K : PySem.W.Frag) (sp : SpD) : Sp := fun vs H Q _ => ∃ ds M Q', Iss K H vs ds ∧ HAbs K M H ∧ sp ds M Q' ∧ lowQ K H Q' Q
structure FnD (P : Program) (w : World) (K : PySem.W.Frag) (mg : Str → Option Value) (base : Heap) (k : Nat) (x : Str) (ps : List Str) (sp : SpD) : Prop where
  ex : ∃ f fd, FnOk P w K mg base CX0 k f fd ps (lowSp K sp) ∧ mg x = some (.ref f) ∧ PySem.W.keepIn K (.ref f) = true ∧ Binds K fd ps []
theorem FnD.mono {P : Program} {w : World} {K : PySem.W.Frag} {mg : Str → Option Value} {base : Heap} {j k : Nat} {x : Str} {ps : List Str} {sp : SpD} (F : FnD P w K mg base j x ps sp) (h : j ≤ k) : FnD P w K mg base k x ps sp :=
  let ⟨f, fd, a, b, c, d⟩ := F.ex; ⟨f, fd, a.mono h, b, c, d⟩
theorem FnD.imp {P : Program} {w : World} {K : PySem.W.Frag} {mg : Str → Option Value} {base : Heap} {k : Nat} {x : Str} {ps : List Str} {sp sp' : SpD} (F : FnD P w K mg base k x ps sp) (h : ∀ ds M Q, sp' ds M Q → sp ds M Q) : FnD P w K mg base k x ps sp' :=
  let ⟨f, fd, a, b, c, d⟩ := F.ex; ⟨f, fd, a.imp (fun _ _ _ _ ⟨ds, M, Q', i, m, q, hq⟩ => ⟨ds, M, Q', i, m, h _ _ _ q, hq⟩), b, c, d⟩
noncomputable def eCall (sp : SpD) (t : TAd) : TEd := fun τ M Q => t τ M fun ds M1 => sp ds M1 Q
theorem d_call {k : Nat} {x : Str} {ps : List Str} {sp : SpD} {p : Pos} {es : List Expr} {t : TAd} (F : FnD X.prog X.w X.K X.mg X.base k x ps sp) (hr : Room k X.A) (ha : PA X (e :: es) (lowA X.K t)) (hg : Gl X x := by rfl) (hdb : (x == ("__debug__" : Str)) = false := by decide)
    (he : starEach (e :: es) X.env = (false, eval e X.env) :: starEach es X.env := by rfl) (hpl : (backTo pos (starEach es X.env)).any (·.1) = false := by rfl) : PE X (.Call (.Name x p) (e :: es) [] pos) (low X.K (eCall sp t)) := by
  refine el_2_4 (F.ex) ?_; (try clear F); intro f fd F hm hk hb
  refine (pe_call (E := E0) F hr hg hm hk hb .nil pass0 ha hdb he hpl).imp fun σ H Q zz0 => ?_
  refine el_3_4 zz0 ?_; clear zz0; intro τ M Q' hs hm h hq
  refine in_eeeccc τ M _ hs hm h (fun ds M1 vs H1 m1 e1 i1 h1 => ?_)
  show lowSp X.K sp (vs ++ []) H1 Q E0
  rw [List.append_nil]
  exact in_eeeccc ds M1 Q' i1 m1 h1 (hq.ext e1)
noncomputable def startD (N : List Str) (ds : List D) : DSt := ds.map some ++ List.replicate (N.length - ds.length) none
theorem start_abs {K : PySem.W.Frag} {H : Hp} {N : List Str} {vs : List V} {ds : List D} (h : Iss K H vs ds) : SAbs K (startD N ds) (L2.start N vs) H := by
  have hl := h.length
  refine ⟨by unfold startD L2.start; simp [hl], fun i d e => ?_⟩
  unfold startD at e
  by_cases hi : i < ds.length
  · rw [List.getElem?_append_left (by simpa using hi), List.getElem?_map] at e
    cases q : ds[i]? with
    | none => rw [q] at e; cases e
    | some d' =>
      rw [q] at e
      cases e
      refine el_1_2 (h.get q) ?_; intro v ev iv
      refine in_ec v ?_ iv
      unfold L2.start
      rw [List.getElem?_append_left (by simpa [hl] using hi), List.getElem?_map, ev]
      rfl
  · rw [List.getElem?_append_right (by simpa using hi), List.getElem?_replicate] at e
    split at e <;> cases e
noncomputable def endsOf (Q : KD) : EndsD := { nx := fun _ M' => ∃ M0, Sub M0 M' ∧ Q .non M0, rt := fun d M' => ∃ M0, Sub M0 M' ∧ Q d M0 }
section
variable {P : Program} {w : World} {K : PySem.W.Frag} {mg : Str → Option Value} {base : Heap}
theorem def_fn {x qual : Str} {st : Stmt} {f : Addr} {fd : FuncData} {N ps : List Str} {k : Nat} {sp : SpD} (F : Fun K x qual st f fd) (S : FnScope N ps (defScope st)) (len : ∀ ds M Q, sp ds M Q → ds.length = ps.length)
    (hbody : ∀ (cdv : Value) (A : Around) (outer : List Env) (s : Shared) (H : Hp) (E : XK), Room k (A.deeper (envOfC qual (defScope st) s.heap.objs.size f cdv)) →
      ∃ t : TSd, PSs (cxOf CX0 P w K mg base N qual (defScope st) f cdv A outer s H E).nox (defBody st) (lowS K t) ∧ ∀ ds M Q, sp ds M Q → t (endsOf Q) (startD N ds) M) : FnOk P w K mg base CX0 (k + 1) f fd ps (lowSp K sp) := by
  refine F.ok S (fun vs H Q E h => ?_) (fun cdv A outer s H vs Q E hr h => ?_)
  · refine el_3_4 h ?_; clear h; intro ds M Q' i _ q _
    rw [i.length]
    exact len _ _ _ q
  · refine el_1_2 (hbody cdv A outer s H E hr) ?_; intro t h1 h2
    refine el_3_4 h ?_; clear h; intro ds M Q' i hm q hq
    refine ⟨_, h1, startD N ds, M, endsOf Q', start_abs i, hm, h2 _ _ _ q, ⟨?_, ?_, ?_, ?_⟩⟩
    · intro τ M1 σ H1 s1 m1 e1 zr165
      refine el_1_2 zr165 ?_; clear zr165; intro M0 sub q0
      exact hq _ M0 _ H1 (m1.sub sub) e1 .non q0
    · intro d M1 v H1 m1 e1 i1 zr166
      refine el_1_2 zr166 ?_; clear zr166; intro M0 sub q0
      exact hq d M0 v H1 (m1.sub sub) e1 i1 q0
    · intro τ M1 σ H1 _ _ _ q0; exact q0.elim
    · intro τ M1 σ H1 _ _ _ q0; exact q0.elim
noncomputable def Stands (K : PySem.W.Frag) (mg : Str → Option Value) (x : Str) (st : Stmt) (ps : List Str) : Prop := ∃ f fd, Fun K x x st f fd ∧ Binds K fd ps [] ∧ mg x = some (.ref f)
theorem def_ok {x : Str} {st : Stmt} {N ps : List Str} {k : Nat} {sp : SpD} (T : Stands K mg x st ps) (S : FnScope N ps (defScope st)) (len : ∀ ds M Q, sp ds M Q → ds.length = ps.length)
    (hbody : ∀ (f : Addr) (cdv : Value) (A : Around) (outer : List Env) (s : Shared) (H : Hp) (E : XK), Room k (A.deeper (envOfC x (defScope st) s.heap.objs.size f cdv)) →
      ∃ t : TSd, PSs (cxOf CX0 P w K mg base N x (defScope st) f cdv A outer s H E).nox (defBody st) (lowS K t) ∧ ∀ ds M Q, sp ds M Q → t (endsOf Q) (startD N ds) M) : FnD P w K mg base (k + 1) x ps sp := by
  refine el_2_3 T ?_; clear T; intro f fd F hb hm
  exact ⟨f, fd, def_fn F S len (hbody f), hm, F.kp, hb⟩
noncomputable def spLaw : SpD := fun ds M Q => ∃ ns : List Int, ds = [.rol (ns.map .int)] ∧ ns.length ≤ 63 ∧ Q (.bl true) M
theorem law_low {K : PySem.W.Frag} {H : Hp} {a : Addr} {ns : List Int} (hO : Only H) (hl : ns.length ≤ 63) (hS : SqL K H a (ns.map V.int)) : lowSp K spLaw [.ref a] H (fun v _ => v = .bl true) fun _ _ _ => False := by
  have hF : SqF K H a (ns.map V.int) := by
    rcases hS with (h | ⟨o, h⟩) | h
    · rcases hO a with z | ⟨o, xs, z⟩ <;> rw [z] at h <;> cases h
    · exact .inl ⟨o, h⟩
    · exact .inr h
  have hI : ∀ ns : List Int, Iss K H (ns.map V.int) (ns.map D.int) := fun ns => by
    induction ns with
    | nil => exact .nil
    | cons n ns ih => exact .cons (.int n) ih
  refine in_eeeccc ([.rol (ns.map .int)]) (fun _ => none) (fun d _ => d = .bl true) (.cons (.rol hF (hI ns)) .nil) (fun a o e => (nomatch e)) (⟨ns, rfl, hl, rfl⟩) (fun d M1 v H1 _ _ i q => ?_)
  have q' : d = .bl true := q
  subst q'
  (first | cases i.inv | cases i)
  rfl
end
end
end DL
namespace DL
open PySem PySem.Spec PyProof.Rows L2
noncomputable def pick {α : Type} (js : List (Option Nat)) (τ : List (Option α)) : List (Option α) := js.map fun o => match o with
  | none => none
  | some j => match τ[j]? with
    | some v => v
    | none => none
noncomputable def compCx (X : Cx) (Nc : List Str) (scope : Scope) (cl : List (Str × Addr)) (C : Addr) (s : Shared) (H : Hp) (fp : List Addr) : Cx where
  prog := X.prog
  w := X.w
  K := X.K
  mg := X.mg
  base := X.base
  A := X.A
  N := Nc
  s₀ := s
  H₀ := H
  env := compEnvC scope cl C X.env
  outer := X.stack
  stack := X.stack
  ex := fp
  fn := fun _ => false
  calm := X.calm
  pn := []
  xe := fun _ _ => False
structure CompOk (X : Cx) (Nc : List Str) (js : List (Option Nat)) (scope : Scope) (cl : List (Str × Addr)) : Prop where
  kind : scope.kind = .function
  clos : closureFor scope X.env = pure cl
  nocell : ∀ y ∈ scope.names, y.2 ≠ .cell
  names : ∀ y ∈ scope.names, y.2 = .local → scope.names.lookup y.1 = some .local
  sub : ∀ p ∈ cl, X.env.cells.lookup p.1 = some p.2
  has : ((relabel scope X.env).names.all fun p => (p.2 != .cell && p.2 != .free) || (cl.lookup p.1).isSome) = true
  len : js.length = Nc.length
  fr : ∀ (i j : Nat) (x : Str), js[i]? = some (some j) → Nc[i]? = some x → X.N[j]? = some x ∧ (X.env.kindOf x = some .cell ∨ X.env.kindOf x = some .free) ∧
    ((relabel scope X.env).names.lookup x = some .cell ∨ (relabel scope X.env).names.lookup x = some .free) ∧ X.fs = X.fs
theorem pick_get {α : Type} {js : List (Option Nat)} {τ : List (Option α)} {i : Nat} {v : α} (h : (pick js τ)[i]? = some (some v)) : ∃ j, js[i]? = some (some j) ∧ τ[j]? = some (some v) := by
  unfold pick at h
  rw [List.getElem?_map] at h
  cases q : js[i]? with
  | none => rw [q] at h; cases h
  | some o =>
    rw [q] at h
    cases o with
    | none => cases h
    | some j =>
      refine in_ec j rfl ?_
      have h' : (match τ[j]? with
        | some v => v
        | none => none) = some v := Option.some.inj h
      cases e : τ[j]? with
      | none => rw [e] at h'; cases h'
      | some u => rw [e] at h'; exact congrArg some h'
noncomputable def tComp (wi : TI) (g : TG) (tt : TT) (te : TE) (js : List (Option Nat)) : TE := fun σ H Q => wi σ H fun J H1 => ∀ l, H1 l = none → ∃ W : Nat → Nat → St → Hp → Prop, (∃ m, W 0 m (pick js σ) (upd H1 l (.lst []))) ∧ ∀ i m σ2 H2, W i m σ2 H2 →
  (J.stop i H2 ∧ Q (.ref l) H2) ∨ (J.go i H2 ∧ ∀ x H3, J.yld i H2 x H3 → g x σ2 H3 fun σ4 H4 => tt σ4 H4 fun b H5 => if b = true then te σ4 H5 fun y H6 => ∃ ys, H6 l = some (.lst ys) ∧ ys.length < sizeLine ∧ ∃ m', m' < m ∧ W (i + 1) m' σ4 (upd H6 l (.lst (ys ++ [y])))
    else ∃ m', m' < m ∧ W (i + 1) m' σ4 H5)
noncomputable def PIfs (X : Cx) (ifs : List Expr) (t : TT) : Prop := (ifs = [] ∧ t = fun _ H Q => Q true H) ∨ ∃ c, ifs = [c] ∧ PT X c t
section
variable {X : Cx} {tg elt iter : Expr} {ifs : List Expr} {scope : Scope} {pos : Pos} {wi : TI} {g : TG} {tt : TT} {te : TE} {js : List (Option Nat)} {Nc : List Str} {cl : List (Str × Addr)}
theorem comp_start {pins : List (Addr × Obj)} {σ : St} {H : Hp} {s : Shared} {fp : List Addr} {C : Addr} {s' : Shared} {H' : Hp} (O : CompOk X Nc js scope cl) (I : Inv X pins σ H s) (f : ∀ b ∈ fp, FpOk X pins H b) (hfp : ∀ b ∈ fp, b < C) (hC : s.heap.objs.size ≤ C)
    (os : s'.os = s.os) (bare : AllBare s'.gens) (un : Un (frs X.stack) fp H H' s.heap s'.heap) (hn : s'.heap.Ns C fun _ => none) (hfree : H' C = none) (hok : HOk X.prog X.w H' s'.heap) (old : ∀ b o, s.heap.get? b = some o → s'.heap.get? b = some o) : Inv (compCx X Nc scope cl C s H fp) [] (pick js σ) H' s' := by
  have clk : ∀ x c, cl.lookup x = some c → X.env.cells.lookup x = some c := fun x c e => O.sub (x, c) (PySem.mem_of_lookup e)
  have kin : ∀ x k, (relabel scope X.env).names.lookup x = some k → (k = .cell ∨ k = .free) → ∃ c, cl.lookup x = some c := fun x k e hk => by
    have h1 := List.all_eq_true.mp O.has (x, k) (PySem.mem_of_lookup e)
    rcases hk with rfl | rfl
    · exact Option.isSome_iff_exists.mp (by simpa using h1)
    · exact Option.isSome_iff_exists.mp (by simpa using h1)
  have cfree : ∀ x c, cl.lookup x = some c → ∃ o, s.heap.get? c = some o := fun x c e => by
    refine el_2_2 (I.cell x c (clk x c e)) ?_; intro v o ho _
    exact ⟨o, ho⟩
  refine ⟨⟨I.ok.mod, by simp [compCx, compEnvC, relabel, O.kind], I.ok.glob, I.ok.blt, hC, fun x y c h1 h2 => I.ok.inj x y c (clk x c h1) (clk y c h2), fun x hx => ?_, fun x c h => (nomatch h), I.ok.hd, I.ok.frames, .inl rfl, fun b hb => ⟨Nat.ne_of_lt (hfp b hb), fun x c e => (f b hb).2.2.2.2.1 x c (clk x c e)⟩,
      I.bs, Nat.le_trans I.ok.bsz I.sz, fun b o e hb => ?_, fun b hb z => ?_, I.stack, I.stkFree⟩, os, bare, un, ⟨_, hn, fun i x v e1 e2 e3 => ?_⟩, fun x c e => ?_, hfree, fun x c e => ?_, fun p hp => absurd (show p ∈ ([] : List (Addr × Obj)) from hp) (by simp), hok, ?_⟩
  · rcases hx with hx | hx
    · exact kin x _ hx (.inl rfl)
    · exact kin x _ hx (.inr rfl)
  · rcases (f b hb).2.2.2.1 with z | z
    · exact I.ok.noex b o e z
    · exact absurd (Nat.lt_of_lt_of_le (Heap.lt_size e) (Nat.le_trans I.ok.bsz z)) (Nat.lt_irrefl _)
  · rcases List.mem_cons.mp (I.stkSub b z) with z | z
    · exact (f b hb).2.1 z
    · exact (f b hb).2.2.1 z
  · refine el_1_2 (pick_get e2) ?_; intro j ej ev
    refine el_0_4 (O.fr i j x ej e1) ?_; intro hN hk hk' _
    refine el_1_2 (I.loc) ?_; intro m _ hl
    have vis : Vis X.env.scope x := by rcases hk with k | k; exact .inr (.inl k); exact .inr (.inr k)
    refine el_1_2 (hl j x v hN ev vis) ?_; intro u r lk
    refine in_ec u r (.inr ⟨hk', ?_⟩)
    obtain ⟨c, ec⟩ : ∃ c, cl.lookup x = some c := by
      rcases hk' with k | k
      · exact kin x _ k (.inl rfl)
      · exact kin x _ k (.inr rfl)
    refine in_ec c ec ?_
    rcases lk with ⟨kl, _⟩ | ⟨_, c', ec', hc⟩
    · rcases hk with k | k <;> (rw [k] at kl; cases kl)
    · rw [clk x c ec] at ec'
      cases ec'
      refine el_1_2 hc ?_; clear hc; intro o ho hd
      exact in_ec o (old _ o ho) hd
  · refine el_2_2 (I.cell x c (clk x c e)) ?_; intro v o ho hd
    exact in_eec v o (old _ o ho) hd
  · refine el_2_2 (I.cell x c (clk x c e)) ?_; intro v o ho hd
    exact un.free c o ho (I.freeC x c (clk x c e)) fun z => (f c z).2.2.2.2.1 x c (clk x c e) rfl
  · unfold pick
    rw [List.length_map]
    exact O.len
theorem comp_run {use : Option (Value → Sem Unit)} {Qf : Value → Shared → Prop} {pins : List (Addr × Obj)} {s : Shared} {σ : St} {H : Hp} {Q : VK} {ipos : Pos} (O : CompOk X Nc js scope cl) (hc : X.calm = true) (hi : PI X tg iter wi) (hg : ∀ C s H fp, PG (compCx X Nc scope cl C s H fp) tg g) (hif : ∀ C s H fp, PIfs (compCx X Nc scope cl C s H fp) ifs tt) (he : ∀ C s H fp, PE (compCx X Nc scope cl C s H fp) elt te)
    (hs : ∀ x, foldedSetIterable iter X.env x = pure x) (I : Inv X pins σ H s) (h : tComp wi g tt te js σ H Q)
    (fin : ∀ s5 H4 l C m f, Inv X pins σ H4 s5 → FpOk X pins H4 C → s5.heap.Ns C m → Q (.ref l) H4 → compPost (model X.prog X.w) X.A X.xe use Qf (.ref l) C (.ok f) s5) :
    wpAny (model X.prog X.w) X.A (comprehension (.ListComp elt [⟨tg, iter, ifs, 0⟩] scope pos) scope X.env ipos (newList []) false (eval iter X.env) use) Qf X.xe s := by
  refine wpAny_comprehension_free (use := use) rfl hs O.clos O.kind O.names (thn (hi pins s σ H _ I h) fun v s1 h1 => thn h1 fun itv s2 h2 => ?_)
  refine el_5_6 h2 ?_; clear h2; intro it fp tn J H2 e I2 T st2 f2 q
  subst e
  have hl : H2 s2.heap.objs.size = none := I2.hok.fresh (Nat.le_refl _)
  refine el_1_2 (q _ hl) ?_; intro W zq167 turn
  refine el_1_1 zq167 ?_; clear zq167; intro m0 w0
  refine wpAny_newObj_type (wpAny_newFunctionEnv O.nocell (by intro y hy; simp at hy) (fun h₁ hns₁ hsb₁ => ?_) O.kind)
  dsimp only at hns₁ hsb₁ ⊢
  generalize hH2 : s2.heap.push { cls := .type "list", dict := none, data := .seq ([] : List Value).toArray } = G2 at hns₁ hsb₁ ⊢
  have hC : G2.objs.size = s2.heap.objs.size + 1 := by rw [← hH2, Heap.size_push]
  have below : ∀ b, b < s2.heap.objs.size → b ≠ G2.objs.size ∧ b ≠ s2.heap.objs.size := fun b hb => ⟨by rw [hC]; exact Nat.ne_of_lt (Nat.lt_succ_of_lt hb), Nat.ne_of_lt hb⟩
  have old : ∀ b o, s2.heap.get? b = some o → h₁.get? b = some o := fun b o e => hsb₁.extBut b o (below b (Heap.lt_size e)).1 (Heap.get?_push_of_some _ (hH2 ▸ Heap.get?_push_of_some _ e))
  have hDC : s2.heap.objs.size ≠ G2.objs.size := by rw [hC]; exact Nat.ne_of_lt (Nat.lt_succ_self _)
  have hacc : h₁.get? s2.heap.objs.size = some { cls := .type "list", dict := none, data := .seq ([] : List Value).toArray } := hsb₁.extBut _ _ hDC (Heap.get?_push_of_some _ (hH2 ▸ Heap.get?_push_size _ rfl))
  have hfp : ∀ b ∈ fp, b < s2.heap.objs.size := fun b hb => let ⟨o, e, _⟩ := T.obj _ _ st2 b hb; Heap.lt_size e
  have hCn : upd H2 s2.heap.objs.size (.lst []) G2.objs.size = none := by
    rw [upd_ne (Ne.symm hDC)]
    exact I2.hok.fresh (by rw [hC]; exact Nat.le_succ _)
  have I3 : Inv (compCx X Nc scope cl G2.objs.size s2 H2 fp) [] (pick js σ) (upd H2 s2.heap.objs.size (.lst [])) { s2 with heap := h₁, toks := s2.toks + ([] : List (Str × Value)).length } :=
    comp_start O I2 f2 (fun b hb => by rw [hC]; exact Nat.lt_succ_of_lt (hfp b hb)) (by rw [hC]; exact Nat.le_succ _) rfl I2.bare (Un.laid old (Nat.le_refl _) hl) hns₁ hCn (I2.hok.laid old (Nat.le_refl _) ⟨by simp, [], 0, .nil, hacc⟩) old
  have st3 : tn 0 h₁ := T.keep _ _ _ st2 fun b hb o e => old b o e
  have nofp : ∀ b ∈ fp, upd H2 s2.heap.objs.size (.lst []) b = none := fun b hb => by rw [upd_ne (Nat.ne_of_lt (hfp b hb))]; exact (f2 b hb).1
  have stat : ∀ {H' : Hp}, (∀ b ∈ fp, H' b = none) → ∀ b ∈ fp, FpOk (compCx X Nc scope cl G2.objs.size s2 H2 fp) [] H' b := fun hn b hb =>
    ⟨hn b hb, Nat.ne_of_lt (by rw [hC]; exact Nat.lt_succ_of_lt (hfp b hb)), fun z => by
      rcases List.mem_cons.mp (I2.stkSub b z) with z | z
      · exact (f2 b hb).2.1 z
      · exact (f2 b hb).2.2.1 z, .inl hb, fun x c ec => (f2 b hb).2.2.2.2.1 x c (O.sub (x, c) (PySem.mem_of_lookup ec)), fun p hp => absurd (show p ∈ ([] : List (Addr × Obj)) from hp) (by simp)⟩
  have loop : ∀ s₃ : Shared, s₃ = { s2 with heap := h₁, toks := s2.toks + ([] : List (Str × Value)).length } →
      codeAny (model X.prog X.w) X.A (.compLoop (.ListComp elt [⟨tg, iter, ifs, 0⟩] scope pos) 0 (.ref it) (.ref s2.heap.objs.size) (compEnvC scope cl G2.objs.size X.env)) (compPost (model X.prog X.w) X.A X.xe use Qf (.ref s2.heap.objs.size) G2.objs.size) s₃ := by
    rintro s₃ rfl
    refine codeAny_loop rfl (fun n s' => ∃ i σ' H', Inv (compCx X Nc scope cl G2.objs.size s2 H2 fp) [] σ' H' s' ∧ tn i s'.heap ∧ (∀ b ∈ fp, H' b = none) ∧ W i n σ' H') ?_ m0 ⟨0, _, _, I3, st3, nofp, w0⟩
    intro n s4 zr168
    refine el_3_4 zr168 ?_; clear zr168; intro i σ4 H4 I4 st4 fr4 w4
    show wpAny _ X.A ((compTurn (.ListComp elt [⟨tg, iter, ifs, 0⟩] scope pos) 0 (.ref it) (.ref s2.heap.objs.size) (compEnvC scope cl G2.objs.size X.env)).onRaise (fun x => do noteFrame x (compEnvC scope cl G2.objs.size X.env); theTreesLotGoes x)) _ _ s4
    refine wpAny_noted ?_
    rw [compTurn_list]
    refine wpAny_bind (wpAny_standAt (wpAny_bind ?_))
    rcases turn i n σ4 H4 w4 with ⟨stop, qn⟩ | ⟨go, step⟩
    · refine thn (T.done (compCx X Nc scope cl G2.objs.size s2 H2 fp) rfl rfl rfl hc i [] s4 σ4 H4 _ I4 (stat fr4) st4 stop) fun r s5 zz0 => ?_
      refine el_0_2 zz0 ?_; clear zz0; intro hr I5
      subst hr
      refine wpAny_pure ?_
      refine el_1_2 (I5.loc) ?_; intro m hn _
      have J5 : Inv X pins σ H4 s5 := I2.call' I5.os I5.base I5.hok I5.bare fun b hb => ⟨(f2 b hb).2.2.2.1, (f2 b hb).2.1, (f2 b hb).2.2.2.2.1, (f2 b hb).2.2.2.2.2⟩
      exact fin s5 H4 _ _ m _ J5 (I2.fpOk (by rw [hC]; exact Nat.le_succ _) I5.free) hn qn
    · refine thn (T.item (compCx X Nc scope cl G2.objs.size s2 H2 fp) rfl rfl rfl hc i [] s4 σ4 H4 _ I4 (stat fr4) st4 go) fun r s5 zz0 => ?_
      refine el_1_2 zz0 ?_; clear zz0; intro u hr h5
      subst hr
      refine wpAny_bind (thn h5 fun _ s6 zz0 => ?_)
      refine el_2_5 zz0 ?_; clear zz0; intro x H6 I6 r6 y6 st6 fr6
      have I6' := I6.pinned (stat fr6) (T.obj _ _ st6)
      have again' : ∀ {s9 : Shared} {σ9 : St} {H9 : Hp}, Inv (compCx X Nc scope cl G2.objs.size s2 H2 fp) ([] ++ pinsAt fp s6.heap) σ9 H9 s9 → (∃ m', m' < n ∧ W (i + 1) m' σ9 H9) →
          ∃ m, m < n ∧ ∃ i σ' H', Inv (compCx X Nc scope cl G2.objs.size s2 H2 fp) [] σ' H' s9 ∧ tn i s9.heap ∧ (∀ b ∈ fp, H' b = none) ∧ W i m σ' H' := fun {s9 σ9 H9} I9 ⟨m', hm, w9⟩ => by
        refine in_eceeeccc m' hm (i + 1) σ9 H9 I9.unpinned (T.keep _ _ _ st6 fun b hb o e => (I9.pin (b, o) (List.mem_append_right _ (List.mem_append_right _ (mem_pinsAt hb e)))).1) (fun b hb => ?_) w9
        refine el_1_2 (T.obj _ _ st6 b hb) ?_; intro o e d
        exact (I9.pin (b, o) (List.mem_append_right _ (List.mem_append_right _ (mem_pinsAt hb e)))).2.1
      refine wpAny_bind (wpAny_mono (hg G2.objs.size s2 H2 fp _ s6 σ4 H6 x u _ I6' r6 (step x H6 y6)) (fun _ s7 zz0 => ?_) fun _ _ z => z.elim)
      refine el_2_2 zz0 ?_; clear zz0; intro σ7 H7 I7 q7
      have tests : ∀ {R : Bool → Shared → Prop} {E' : Value → Shared → Prop}, (∀ b s8, (∃ H8, Inv (compCx X Nc scope cl G2.objs.size s2 H2 fp) ([] ++ pinsAt fp s6.heap) σ7 H8 s8 ∧ (if b = true then te σ7 H8 fun y H6 => ∃ ys, H6 s2.heap.objs.size = some (.lst ys) ∧ ys.length < sizeLine ∧ ∃ m', m' < n ∧ W (i + 1) m' σ7 (upd H6 s2.heap.objs.size (.lst (ys ++ [y])))
          else ∃ m', m' < n ∧ W (i + 1) m' σ7 H8)) → R b s8) → wpAny (model X.prog X.w) X.A (forIn ifs true fun c r => if r = true then do let ok ← isTrue c (compEnvC scope cl G2.objs.size X.env) (eval c (compEnvC scope cl G2.objs.size X.env)); pure (ForInStep.yield ok) else pure (ForInStep.yield r)) R E' s7 := by
        intro R E' hR
        rcases hif G2.objs.size s2 H2 fp with ⟨e1, e2⟩ | ⟨c, e1, e2⟩
        · subst e1 e2
          exact wpAny_tests_nil (hR true s7 ⟨H7, I7, q7⟩)
        · subst e1
          refine wpAny_tests_one (wpAny_mono (e2 _ s7 σ7 H7 _ I7 q7) (fun b s8 zz0 => ?_) fun _ _ z => z.elim)
          refine el_1_2 zz0 ?_; clear zz0; intro H8 I8 q8
          exact hR b s8 ⟨H8, I8, q8⟩
      refine wpAny_bind (tests fun ok s8 zz0 => ?_)
      refine el_1_2 zz0 ?_; clear zz0; intro H8 I8 q8
      cases ok with
      | false =>
        rw [if_neg Bool.false_ne_true] at q8
        exact wpAny_pure ⟨rfl, again' I8 q8⟩
      | true =>
        rw [if_pos rfl] at q8
        refine wpAny_bind (wpAny_bind (wpAny_mono (he G2.objs.size s2 H2 fp _ s8 σ7 H8 _ I8 q8) (fun xv s9 zz0 => ?_) fun _ _ z => z.elim))
        obtain ⟨y, H9, I9, r9, ys, hy, hlen, q9⟩ := zz0
        refine wpAny_bind (wpAny_mono (mt_append (X := compCx X Nc scope cl G2.objs.size s2 H2 fp) _ s9 σ7 H9 (.ref s2.heap.objs.size) [y] (.ref s2.heap.objs.size) [xv] (fun v H' => ∃ m', m' < n ∧ W (i + 1) m' σ7 H') I9 rfl (.cons r9 .nil) ⟨_, ys, y, rfl, rfl, hy, hlen, q9⟩) (fun _ s10 ⟨v, H10, I10, _, q10⟩ => wpAny_pure (wpAny_pure ⟨rfl, again' I10 q10⟩)) fun _ _ z => z.elim)
  exact codeAny_compStart_list (loop _ rfl) (T.self _ 0 _ _ _ st3 (loop _ rfl))
theorem pe_comp (O : CompOk X Nc js scope cl) (hc : X.calm = true) (hi : PI X tg iter wi) (hg : ∀ C s H fp, PG (compCx X Nc scope cl C s H fp) tg g) (hif : ∀ C s H fp, PIfs (compCx X Nc scope cl C s H fp) ifs tt) (he : ∀ C s H fp, PE (compCx X Nc scope cl C s H fp) elt te)
    (hs : ∀ x, foldedSetIterable iter X.env x = pure x := by intro _; rfl) : PE X (.ListComp elt [⟨tg, iter, ifs, 0⟩] scope pos) (tComp wi g tt te js) := by
  intro pins s σ H Q I h
  rw [eval_ListComp]
  exact comp_run (use := none) O hc hi hg hif he hs I h fun s5 H4 l C m f J5 fp hn q => ⟨m, hn, fun h' hs' => ⟨.ref l, H4, J5.turned (t' := s5.toks) (it := C) (fun b o hb e => hs'.extBut b o hb e) fp.1 fp.2.1 fp.2.2.2.1 fp.2.2.2.2.1 fp.2.2.2.2.2, rfl, q⟩⟩
noncomputable def Fgt (τ0 τ : DSt) : Prop := τ.length = τ0.length ∧ ∀ (i : Nat) d, τ0[i]? = some (some d) → τ[i]? = some (some d)
theorem SAbs.forget {K : PySem.W.Frag} {τ0 τ : DSt} {σ : St} {H : Hp} (h : SAbs K τ σ H) (f : Fgt τ0 τ) : SAbs K τ0 σ H := ⟨f.1.symm.trans h.1, fun i d e => h.2 i d (f.2 i d e)⟩
theorem SAbs.pick {K : PySem.W.Frag} {τ : DSt} {σ : St} {H : Hp} (h : SAbs K τ σ H) (js : List (Option Nat)) : SAbs K (pick js τ) (DL.pick js σ) H := by
  refine ⟨by unfold DL.pick; rw [List.length_map, List.length_map], fun i d e => ?_⟩
  refine el_1_2 (pick_get e) ?_; intro j ej ed
  refine el_1_2 (h.2 j d ed) ?_; intro v ev iv
  refine in_ec v ?_ iv
  unfold DL.pick
  rw [List.getElem?_map, ej]
  simp [ev]
noncomputable def compD (ds : List D) (g : TGd) (tt : TTd) (te : TEd) (js : List (Option Nat)) (τ : DSt) (M : DH) (Q : KD) : Prop := ds.length ≤ 1000000 ∧ ∃ f : D → Option D,
  (∀ d ∈ ds, ∀ p acc, M p = none → g d (pick js τ) (updM M p (.lst acc)) fun τ2 M2 => Fgt (pick js τ) τ2 ∧ tt τ2 M2 fun b M3 => if b = true then te τ2 M3 fun y M4 => M4 = updM M p (.lst acc) ∧ f d = some y else M3 = updM M p (.lst acc) ∧ f d = none) ∧
  ∀ p, M p = none → Q (.ref p) (updM M p (.lst (ds.filterMap f)))
noncomputable def compX (g : TGd) (tt : TTd) (te : TEd) (js : List (Option Nat)) (τ : DSt) : D → DH → KD → Prop
  | .tup ds, M, Q => compD ds g tt te js τ M Q
  | .rol ds, M, Q => compD ds g tt te js τ M Q
  | .str z, M, Q => compD (signs z) g tt te js τ M Q
  | .ref l, M, Q => ∃ ds, M l = some (.lst ds) ∧ compD ds g tt te js τ M Q
  | _, _, _ => False
noncomputable def eComp (ti : TEd) (g : TGd) (tt : TTd) (te : TEd) (js : List (Option Nat)) : TEd := fun τ M Q => ti τ M fun x M1 => compX g tt te js τ x M1 Q
noncomputable def tTrue : TTd := fun _ M Q => Q true M
noncomputable def DIfs (X : Cx) (ifs : List Expr) (t : TTd) : Prop := (ifs = [] ∧ t = tTrue) ∨ ∃ c, ifs = [c] ∧ PT X c (lowT X.K t)
theorem low_comp {K : PySem.W.Frag} {J : It} {ds : List D} {g : TGd} {ttd : TTd} {ted : TEd} {ttv : TT} {τ : DSt} {σ : St} {M : DH} {H H1 : Hp} {Q' : KD} {Q : VK} (hs : SAbs K τ σ H1) (e1 : Ext K H H1) (m1 : HAbs K M H1) (hq : lowQ K H Q' Q)
    (htt : ∀ σ H R, lowT K ttd σ H R → ttv σ H R) (hgv : ∀ l M2 H2, HAbs K M2 H2 → Ext K H1 H2 → (∀ a ds, M a = some (.lst ds) → M2 a = some (.lst ds)) → H1 l = none → Gives K J ds H2) (h : compD ds g ttd ted js τ M Q') :
    ∀ l, H1 l = none → ∃ W : Nat → Nat → St → Hp → Prop, (∃ m, W 0 m (pick js σ) (upd H1 l (.lst []))) ∧ ∀ i m σ2 H2, W i m σ2 H2 →
      (J.stop i H2 ∧ Q (.ref l) H2) ∨ (J.go i H2 ∧ ∀ x H3, J.yld i H2 x H3 → lowG K g x σ2 H3 fun σ4 H4 => ttv σ4 H4 fun b H5 => if b = true then low K ted σ4 H5 fun y H6 => ∃ ys, H6 l = some (.lst ys) ∧ ys.length < sizeLine ∧ ∃ m', m' < m ∧ W (i + 1) m' σ4 (upd H6 l (.lst (ys ++ [y])))
        else ∃ m', m' < m ∧ W (i + 1) m' σ4 H5) := by
  obtain ⟨hz, f, turn, done⟩ := h
  intro l hl
  have hMl : M l = none := m1.free hl
  refine in_ec (fun i m σ2 H2 => m = ds.length - i ∧ i ≤ ds.length ∧ SAbs K (pick js τ) σ2 H2 ∧ HAbs K (updM M l (.lst ((ds.take i).filterMap f))) H2 ∧ Ext K H1 H2) (⟨ds.length, by simp, Nat.zero_le _, (hs.pick js).mono (ext_new hl), m1.newL hl .nil, ext_new hl⟩) ?_
  intro i m σ2 H2 zr169
  refine el_0_5 zr169 ?_; clear zr169; intro zq170 hi s2 m2 e2
  obtain rfl := zq170
  have G := hgv l _ H2 m2 e2 (fun a es ea => by rw [updM_ne (by intro z; subst z; rw [hMl] at ea; cases ea)]; exact ea) hl
  by_cases hlt : i < ds.length
  · refine .inr ⟨G.go i hlt, fun x H3 y => ?_⟩
    obtain ⟨rfl, d, ed, id⟩ := G.yld i x H3 hlt y
    have hd : d ∈ ds := List.mem_of_getElem? ed
    have tk : (ds.take (i + 1)).filterMap f = (ds.take i).filterMap f ++ (match f d with | some y => [y] | none => []) := by
      rw [List.take_add_one, ed, List.filterMap_append]
      congr 1
      cases hfd : f d with
      | none => simp [hfd]
      | some y => simp [hfd]
    have hlen : ((ds.take i).filterMap f).length < sizeLine := by
      have h1 := List.length_filterMap_le f (ds.take i)
      have h2 : (ds.take i).length ≤ ds.length := by simp; (first | lia | omega)
      have h3 : sizeLine = 16777216 := sizeLine_eq
      (first | lia | omega)
    refine in_eeeecccc d _ _ _ id s2 m2 (turn d hd l _ hMl) (fun τ4 M4 σ4 H4 s4 m4 e4 zz0 => ?_)
    refine el_0_2 zz0 ?_; clear zz0; intro fg q4
    refine htt _ _ _ ⟨τ4, M4, _, s4, m4, q4, fun b M5 H5 m5 e5 q5 => ?_⟩
    cases b with
    | true =>
      rw [if_pos rfl] at q5 ⊢
      refine in_eeeccc τ4 M5 _ (s4.mono e5) m5 q5 (fun y M6 v H6 m6 e6 i6 q6 => ?_)
      refine el_0_2 q6 ?_; clear q6; intro zq171 fy
      obtain rfl := zq171
      refine el_1_2 (m6 l _ updM_same) ?_; intro ys hy iy
      refine ⟨ys, hy, by rw [iy.length]; exact hlen, ds.length - (i + 1), by (first | lia | omega), rfl, hlt, ?_⟩
      refine el_0_2 (m6.setL updM_same hy (iy.append (.cons i6 .nil))) ?_; intro m7 e7
      refine ⟨((s4.forget fg).mono (e5.trans e6)).mono e7, ?_, e2.trans (e4.trans (e5.trans (e6.trans e7)))⟩
      rw [tk, fy]
      rw [updM_upd] at m7
      exact m7
    | false =>
      rw [if_neg Bool.false_ne_true] at q5 ⊢
      refine el_0_2 q5 ?_; clear q5; intro zq172 fy
      obtain rfl := zq172
      refine ⟨ds.length - (i + 1), by (first | lia | omega), rfl, hlt, (s4.forget fg).mono e5, ?_, e2.trans (e4.trans e5)⟩
      rw [tk, fy, List.append_nil]
      exact m5
  · have e : i = ds.length := by (first | lia | omega)
    subst e
    refine .inl ⟨G.stop, ?_⟩
    have q := done l hMl
    rw [List.take_length] at m2
    exact hq _ _ _ _ m2 (e1.trans e2) (.ref l) q
theorem d_comp {ti ted : TEd} {gd : TGd} {ttd : TTd} (O : CompOk X Nc js scope cl) (hc : X.calm = true) (hi : PE X iter (low X.K ti)) (hg : ∀ C s H fp, PG (compCx X Nc scope cl C s H fp) tg (lowG X.K gd)) (hif : ∀ C s H fp, DIfs (compCx X Nc scope cl C s H fp) ifs ttd) (he : ∀ C s H fp, PE (compCx X Nc scope cl C s H fp) elt (low X.K ted))
    (hs : ∀ x, foldedSetIterable iter X.env x = pure x := by intro _; rfl) : PE X (.ListComp elt [⟨tg, iter, ifs, 0⟩] scope pos) (low X.K (eComp ti gd ttd ted js)) := by
  intro pins s0 σ0 H0 Q0 I0 hw
  obtain ⟨ttv, hif', htt⟩ : ∃ ttv : TT, (∀ C s H fp, PIfs (compCx X Nc scope cl C s H fp) ifs ttv) ∧ ∀ σ H R, lowT X.K ttd σ H R → ttv σ H R := by
    rcases hif 0 s0 H0 [] with ⟨e1, e2⟩ | ⟨c, e1, _⟩
    · subst e1 e2
      refine in_ec _ (fun _ _ _ _ => .inl ⟨rfl, rfl⟩) (fun σ H R zz0 => ?_)
      refine el_3_4 zz0 ?_; clear zz0; intro τ M Q' _ hm h hq
      exact hq true M H hm (Ext.refl H) h
    · subst e1
      refine in_ec (lowT X.K ttd) (fun C s H fp => ?_) (fun σ H R h => h)
      rcases hif C s H fp with ⟨e1, _⟩ | ⟨c', e1, h⟩
      · cases e1
      · cases e1
        exact .inr ⟨c, rfl, h⟩
  refine ((pe_comp O hc (pi_any hi) hg hif' he hs).imp (t' := low X.K (eComp ti gd ttd ted js)) fun σ H Q zz0 => ?_) pins s0 σ0 H0 Q0 I0 hw
  refine el_3_4 zz0 ?_; clear zz0; intro τ M Q' hs hm h hq
  refine in_eeeccc τ M _ hs hm h (fun x M1 v H1 m1 e1 i1 h1 => ?_)
  cases i1 with
  | @tup a xs ds hx hxs => exact .inl ⟨a, rfl, .inr ⟨⟨xs, hx⟩, low_comp (hs.mono e1) e1 m1 hq htt (fun l M2 H2 m2 e2 _ _ => gives_tup (e2.t _ _ hx) (hxs.mono e2)) h1⟩⟩
  | @rol a xs ds hx hxs => exact .inl ⟨a, rfl, .inl ⟨⟨xs, hx.sq⟩, low_comp (hs.mono e1) e1 m1 hq htt (fun l M2 H2 m2 e2 _ _ => gives_list (e2.f _ _ hx).sq (hxs.mono e2)) h1⟩⟩
  | str z => exact .inr ⟨z, rfl, low_comp (hs.mono e1) e1 m1 hq htt (fun l M2 H2 m2 e2 _ _ => gives_str z) h1⟩
  | ref l0 =>
    refine el_1_2 h1 ?_; clear h1; intro ds hl w
    refine el_1_2 (m1 l0 _ hl) ?_; intro xs hx hxs
    exact .inl ⟨l0, rfl, .inl ⟨⟨xs, SqL.of hx⟩, low_comp (hs.mono e1) e1 m1 hq htt (fun l M2 H2 m2 e2 hk _ => let ⟨ys, hy, iy⟩ := m2.lst (hk l0 ds hl); gives_list hy iy) w⟩⟩
  | _ => exact h1.elim
end
end DL
namespace DL
open PySem PySem.Spec PyProof.Rows L2
section
variable {X : Cx} {e a b c tg : Expr} {pos : Pos} {ta tb te : TEd} {tc : TTd}
noncomputable def eNeg (te : TEd) : TEd := fun τ M Q => te τ M fun x M1 => onInt x fun i => Q (.int (-i)) M1
theorem d_neg (h : PE X a (low X.K ta)) : PE X (.UnaryOp .USub a pos) (low X.K (eNeg ta)) :=
  L2.PE.imp (pe_un un_neg h) fun σ H Q ⟨τ, M, Q', hs, hm, h, hq⟩ => ⟨τ, M, _, hs, hm, h, fun x M1 v H1 m1 e1 i1 h1 => by
    cases i1 with
    | int i => exact ⟨i, rfl, hq _ M1 _ H1 m1 e1 (.int _) h1⟩
    | _ => exact h1.elim⟩
noncomputable def leSD : D → D → DH → KD → Prop
  | .int i, .int j, M, Q => Q (.bl (decide (i ≤ j))) M
  | .str i, .str j, M, Q => Q (.bl (!decide (j.cps.toList < i.cps.toList))) M
  | _, _, _, _ => False
theorem od_le : OpD X (compareOp .LtE) leSD := by
  intro pins s σ H vx vy v u Q I rx ry zr173
  refine el_4_5 zr173 ?_; clear zr173; intro x y M Q' ix iy hm q hq
  cases ix with
  | int i => cases iy with
    | int j => exact op_le pins s σ H _ _ v u Q I rx ry ⟨_, _, rfl, rfl, hq.here hm (.bl _) q⟩
    | _ => exact q.elim
  | str i => cases iy with
    | str j =>
      refine el_1_1 rx ?_; clear rx; intro t zq174
      obtain rfl := zq174
      refine el_1_1 ry ?_; clear ry; intro t' zq175
      obtain rfl := zq175
      exact PySem.P.le_str ⟨.bl _, H, I, rfl, hq.here hm (.bl _) q⟩
    | _ => exact q.elim
  | _ => first | exact q.elim | (cases iy <;> exact q.elim)
theorem one_sign {i : Str} {k : Nat} (h : i.cps.toList = [k]) : i = ⟨#[k]⟩ := by
  cases i with
  | mk cps => have : cps = #[k] := by rw [← Array.toArray_toList (xs := cps), h]
              rw [this]
noncomputable def allD : List D → DH → KD → Prop
  | [.ref l], M, Q => ∃ bs : List Bool, M l = some (.lst (bs.map .bl)) ∧ Q (.bl (bs.all id)) M
  | _, _, _ => False
theorem bools_get {K : PySem.W.Frag} {H : Hp} : ∀ {vs : List V} {us : List Value} {bs : List Bool} {i : Nat} {v : Value}, Iss K H vs (bs.map D.bl) → Vals vs us → us[i]? = some v → ∃ b, bs[i]? = some b ∧ v = .bool b
  | _, _, [], _, _, .nil, .nil, e => by simp at e
  | _, _, b :: bs, 0, v, .cons i t, .cons r t', e => by
    simp at e
    subst e
    (first | cases i.inv | cases i)
    cases r
    exact in_ec b rfl rfl
  | _, _, b :: bs, k + 1, v, .cons i t, .cons r t', e => by
    refine el_1_2 (bools_get (i := k) t t' (by simpa using e)) ?_; intro b' h1 h2
    exact in_ec b' (by simpa using h1) h2
theorem cd_all (hc : X.calm = true) : CallD X (.builtin "all") allD := by
  intro pins s σ H vs us Q I r zr176
  refine el_3_4 zr176 ?_; clear zr176; intro ds M Q' iss hm q hq
  match ds, q, iss with
  | [.ref l], q, iss =>
    refine el_1_2 (iss1 iss) ?_; intro v zq177 i
    obtain rfl := zq177
    cases i with
    | ref =>
      refine el_1_2 q ?_; clear q; intro bs hl q
      refine el_1_2 (vals1 r) ?_; intro u zq178 rx
      obtain rfl := zq178
      cases rx
      refine el_1_2 (hm.lst hl) ?_; intro xs hx hxs
      refine el_1_3 (I.list hx) ?_; intro its r1 p1 _
      have p2 := p1.isList
      have hlt : l < s.heap.objs.size := by obtain ⟨_, e, _⟩ := p2; exact Heap.lt_size e
      have hlen : its.toArray.size = bs.length := by rw [List.size_toArray, ← r1.length, hxs.length, List.length_map]
      refine call_all_walk (wpAny_pyIter_list p2 ?_)
      refine ⟨s.heap.objs.size, [s.heap.objs.size, l], [s.heap.objs.size], its.toArray.size, _, _, fun i => (bs[i]?).getD true, rfl, Walks.list (A := X.A.in1) (I.ok.hd hc) _ l (Nat.ne_of_lt hlt) its.toArray,
        ⟨⟨_, Heap.get?_push_size _ rfl, rfl, rfl⟩, p2.push _⟩, fun i v s' Q' E' hP hQ => ?_, fun h' tk hk => ?_⟩
      · refine el_1_2 (bools_get hxs r1 (by simpa using hP)) ?_; intro b e zq179
        obtain rfl := zq179
        simp only [e, Option.getD_some] at hQ
        exact wpAny_truthy_bool hQ
      · have e : ((List.range its.toArray.size).all fun i => (bs[i]?).getD true) = bs.all id := by
          rw [hlen]
          clear hlen hxs hl q
          induction bs with
          | nil => rfl
          | cons b bs ih =>
            rw [List.length_cons, List.range_succ_eq_map, List.all_cons, List.all_map, List.all_cons]
            have : ((fun i => ((b :: bs)[i]?).getD true) ∘ Nat.succ) = fun i => (bs[i]?).getD true := by funext i; simp
            rw [this, ih]
            rfl
        rw [e]
        exact in_eecc (.bl _) H (I.kept fun b x eb => hk b x (fun hm => by rw [List.mem_singleton.mp hm] at eb; exact Nat.lt_irrefl _ (Heap.lt_size eb)) (Heap.get?_push_of_some _ eb)) rfl (hq.here hm (.bl _) q)
theorem len_2 {i j : Nat} : ∀ ds τ M Q, hCons (hName i) (hCons (hName j) hNil) ds τ M Q → ds.length = 2 := fun ds τ M Q h => by
  match ds, h with
  | [], h => exact h.elim
  | [_], h => exact h.elim
  | [_, _], h => rfl
  | _ :: _ :: _ :: _, h => exact h.elim
theorem bt_len : bootBuiltins "len" = some (.builtin "len") := by decide +kernel
theorem bt_max : bootBuiltins "max" = some (.builtin "max") := by decide +kernel
theorem bt_min : bootBuiltins "min" = some (.builtin "min") := by decide +kernel
theorem bt_all : bootBuiltins "all" = some (.builtin "all") := by decide +kernel
theorem bt_isinstance : bootBuiltins "isinstance" = some (.builtin "isinstance") := by decide +kernel
theorem bt_int : bootBuiltins "int" = some (.type "int") := by decide +kernel
theorem bt_bool : bootBuiltins "bool" = some (.type "bool") := by decide +kernel
theorem bt_str : bootBuiltins "str" = some (.type "str") := by decide +kernel
theorem bt_tuple : bootBuiltins "tuple" = some (.type "tuple") := by decide +kernel
theorem comp_ok0 {Nc : List Str} {js : List (Option Nat)} {scope : Scope} (hf : ∀ x ∈ scope.names, x.2 ≠ .free) (hc : ∀ y ∈ scope.names, y.2 ≠ .cell) (hn : ∀ y ∈ scope.names, y.2 = .local → scope.names.lookup y.1 = some .local)
    (hk : scope.kind = .function) (hj : js = Nc.map fun _ => none) : CompOk X Nc js scope [] := by
  have hr : (relabel scope X.env).names = scope.names := by
    unfold relabel
    show scope.names.map _ = scope.names
    refine map_eq_self fun x hx => ?_
    obtain ⟨n, k⟩ := x
    have h1 : (k == NameKind.free) = false := by simpa using hf _ hx
    simp [h1]
  refine ⟨hk, closureFor_none hf, hc, hn, fun p hp => (nomatch hp), ?_, by rw [hj, List.length_map], fun i j x h => ?_⟩
  · rw [hr, List.all_eq_true]
    intro p hp
    have h1 : (p.2 != NameKind.cell) = true := by simpa using hc p hp
    have h2 : (p.2 != NameKind.free) = true := by simpa using hf p hp
    simp [h1, h2]
  · rw [hj, List.getElem?_map] at h
    cases q : Nc[i]? with
    | none => rw [q] at h; cases h
    | some y => rw [q] at h; cases h
theorem mul_len (x : Str) (n : Int) : (Txt.mul x n).length ≤ x.length * n.toNat + x.length := by
  unfold Txt.mul
  split
  · show (0 : Nat) ≤ _; exact Nat.zero_le _
  · split
    · exact Nat.le_add_left _ _
    · have : ∀ (k : Nat) (a : Array Nat), ((List.replicate k x.cps).foldl (· ++ ·) a).size = a.size + x.cps.size * k := by
        intro k
        induction k with
        | zero => intro a; simp
        | succ k ih => intro a; rw [List.replicate_succ, List.foldl_cons, ih]; simp [Array.size_append, Nat.mul_add]; (first | lia | omega)
      show ((List.replicate n.toNat x.cps).foldl (· ++ ·) #[]).size ≤ _
      rw [this]
      show 0 + x.length * n.toNat ≤ _
      (first | lia | omega)
noncomputable def mulSD : D → D → DH → KD → Prop
  | .int i, .int j, M, Q => CMul i j ∧ Q (.int (i * j)) M
  | .str z, .int n, M, Q => (z.length ≤ 100000 ∧ 0 ≤ n ∧ n ≤ 100) ∧ Q (.str (Txt.mul z n)) M
  | _, _, _, _ => False
theorem od_mulS : OpD X (binaryOp .Mult) mulSD := by
  intro pins s σ H vx vy v u Q I rx ry zr180
  refine el_4_5 zr180 ?_; clear zr180; intro x y M Q' ix iy hm q hq
  cases ix with
  | int i => cases iy with
    | int j => exact op_mul pins s σ H _ _ v u Q I rx ry ⟨_, _, rfl, rfl, q.1, hq.here hm (.int _) q.2⟩
    | _ => exact q.elim
  | str z => cases iy with
    | int n =>
      refine el_0_2 q ?_; clear q; intro zq181 q
      refine el_0_3 zq181 ?_; clear zq181; intro h1 h2 h3
      refine el_1_1 rx ?_; clear rx; intro t zq182
      obtain rfl := zq182
      refine el_1_1 ry ?_; clear ry; intro t' zq183
      obtain rfl := zq183
      have hz : z.length * n.toNat ≤ 100000 * 100 := Nat.mul_le_mul h1 (by (first | lia | omega))
      refine SB.mul ⟨?_, fun h4 _ => ?_, fun _ _ => ?_⟩ fun t2 k => ⟨.str _, H, I.tok k, ⟨_, rfl⟩, hq.here hm (.str _) q⟩
      · have e1 : decide (n < -(2 ^ 63 : Int)) = false := decide_eq_false (by (first | lia | omega))
        have e2 : decide (n ≥ 2 ^ 63) = false := decide_eq_false (by (first | lia | omega))
        rw [e1, e2]; rfl
      · have h5 : (100 : Int) * 92233720368547758 ≤ (2 ^ 63 - 1) := by decide
        have h6 : (92233720368547758 : Int) ≤ (2 ^ 63 - 1) / n := by
          rw [Int.le_ediv_iff_mul_le (by (first | lia | omega))]
          calc (92233720368547758 : Int) * n ≤ 92233720368547758 * 100 := Int.mul_le_mul_of_nonneg_left h3 (by decide)
            _ ≤ _ := by decide
        (first | lia | omega)
      · unfold Builtin.Str.tooLong
        simp only [decide_eq_false_iff_not]
        have h3 : sizeLine = 16777216 := sizeLine_eq
        (first | lia | omega)
    | _ => exact q.elim
  | _ => first | exact q.elim | (cases iy <;> exact q.elim)
end
end DL
namespace DL
open PySem PySem.Spec PyProof.Rows L2
section
variable {X : Cx} {tg : Expr} {g : TGd} {tb : TSd} {pos : Pos}
end
end DL
namespace DL
open PySem PySem.Spec PyProof.Rows L2
noncomputable def cloF (cells : List (Str × Addr)) : List (Str × NameKind) → List (Str × Addr) → List (Str × Addr)
  | [], acc => acc
  | (n, k) :: r, acc => cloF cells r (if k == .free then (n, (cells.lookup n).getD 0) :: acc else acc)
theorem clos_for {env : Env} : ∀ (names : List (Str × NameKind)) (acc : List (Str × Addr)), (∀ y ∈ names, y.2 = .free → ∃ c, env.cells.lookup y.1 = some c) →
    (forIn (m := Sem) names acc fun x cs => if x.2 == NameKind.free then do let c ← cellOf env x.1; pure (ForInStep.yield ((x.1, c) :: cs)) else pure (ForInStep.yield cs)) = pure (cloF env.cells names acc)
  | [], acc, _ => rfl
  | (n, k) :: r, acc, h => by
    rw [List.forIn_cons]
    have ih := fun acc' => clos_for (env := env) r acc' fun y hy => h y (List.mem_cons_of_mem _ hy)
    by_cases hk : (k == NameKind.free) = true
    · refine el_1_1 (h (n, k) List.mem_cons_self (by simpa using hk)) ?_; intro c hc
      have hc' : env.cells.lookup n = some c := hc
      have e1 : cellOf env n = pure c := by unfold cellOf; rw [hc']
      simp only [hk, if_true, e1, pure_bind, ih]
      rw [cloF, if_pos hk, hc']
      rfl
    · have hk' : (k == NameKind.free) = false := by simpa using hk
      simp only [hk', Bool.false_eq_true, if_false, pure_bind, ih]
      rw [cloF, if_neg (by simp [hk'])]
theorem clos_of {env : Env} {scope : Scope} (h : ∀ y ∈ scope.names, y.2 = .free → ∃ c, env.cells.lookup y.1 = some c) : closureFor scope env = pure (cloF env.cells scope.names []) := by
  have z := clos_for (env := env) scope.names [] h
  simp only [closureFor]
  first
    | exact z
    | (simp only [bind_pure]; exact z)
    | (rw [z]; rfl)
theorem cloF_mem {cells : List (Str × Addr)} : ∀ (names : List (Str × NameKind)) (acc : List (Str × Addr)) (p : Str × Addr), (∀ y ∈ names, y.2 = .free → ∃ c, cells.lookup y.1 = some c) → p ∈ cloF cells names acc → p ∈ acc ∨ cells.lookup p.1 = some p.2
  | [], acc, p, _, h => .inl h
  | (n, k) :: r, acc, p, hf, h => by
    rw [cloF] at h
    rcases cloF_mem r _ p (fun y hy => hf y (List.mem_cons_of_mem _ hy)) h with h | h
    · by_cases hk : (k == NameKind.free) = true
      · rw [if_pos hk] at h
        rcases List.mem_cons.mp h with rfl | h
        · refine el_1_1 (hf (n, k) List.mem_cons_self (by simpa using hk)) ?_; intro c hc
          have hc' : cells.lookup n = some c := hc
          exact .inr (by show cells.lookup n = some ((cells.lookup n).getD 0); rw [hc']; rfl)
        · exact .inl h
      · rw [if_neg hk] at h; exact .inl h
    · exact .inr h
theorem cloF_some {cells : List (Str × Addr)} {x : Str} : ∀ (names : List (Str × NameKind)) (acc : List (Str × Addr)), (x, NameKind.free) ∈ names ∨ (acc.lookup x).isSome = true → ((cloF cells names acc).lookup x).isSome = true
  | [], acc, h => h.elim (fun h => (nomatch h)) id
  | (n, k) :: r, acc, h => by
    rw [cloF]
    refine cloF_some r _ ?_
    by_cases hk : (k == NameKind.free) = true
    · rw [if_pos hk]
      by_cases hx : (x == n) = true
      · exact .inr (by rw [List.lookup_cons, hx]; rfl)
      · have hx' : (x == n) = false := by simpa using hx
        rcases h with h | h
        · rcases List.mem_cons.mp h with h | h
          · cases h; simp at hx
          · exact .inl h
        · exact .inr (by rw [List.lookup_cons, hx']; exact h)
    · rw [if_neg hk]
      rcases h with h | h
      · rcases List.mem_cons.mp h with h | h
        · cases h; simp at hk
        · exact .inl h
      · exact .inr h
theorem relabel_free {env : Env} (hk : env.scope.kind = .function) : ∀ {names : List (Str × NameKind)} {x : Str}, names.lookup x = some .free → env.kindOf x = some .cell →
    (names.map fun (n, k) => if (k == NameKind.free && env.scope.kind == .function && env.kindOf n == some .cell) then (n, NameKind.cell) else (n, k)).lookup x = some .cell
  | [], _, h, _ => by simp at h
  | (n, k) :: r, x, h, hx => by
    have ih := @relabel_free env hk r x
    show List.lookup x ((if (k == NameKind.free && env.scope.kind == .function && env.kindOf n == some .cell) = true then (n, NameKind.cell) else (n, k)) :: _) = _
    cases e : x == n with
    | true =>
      simp only [List.lookup_cons, e] at h
      cases h
      have en : x = n := by simpa using e
      subst en
      rw [if_pos (by simp [hk, hx])]
      simp [List.lookup_cons]
    | false =>
      simp only [List.lookup_cons, e] at h
      by_cases hc : (k == NameKind.free && env.scope.kind == .function && env.kindOf n == some .cell) = true
      · rw [if_pos hc]; simp only [List.lookup_cons, e]; exact ih h hx
      · rw [if_neg hc]; simp only [List.lookup_cons, e]; exact ih h hx
noncomputable def frOk (N : List Str) (ns : List (Str × NameKind)) : List (Option Nat) → List Str → Bool
  | none :: js, _ :: Nc => frOk N ns js Nc
  | some j :: js, x :: Nc => decide (N[j]? = some x) && decide (ns.lookup x = some .free) && frOk N ns js Nc
  | [], [] => true
  | _, _ => false
theorem frOk_len {N : List Str} {ns : List (Str × NameKind)} : ∀ {js : List (Option Nat)} {Nc : List Str}, frOk N ns js Nc = true → js.length = Nc.length
  | [], [], _ => rfl
  | [], _ :: _, h => by simp [frOk] at h
  | none :: _, [], h => by simp [frOk] at h
  | some _ :: _, [], h => by simp [frOk] at h
  | none :: js, _ :: Nc, h => by rw [frOk] at h; simp [frOk_len h]
  | some j :: js, x :: Nc, h => by simp only [frOk, Bool.and_eq_true] at h; simp [frOk_len h.2]
theorem frOk_get {N : List Str} {ns : List (Str × NameKind)} : ∀ {js : List (Option Nat)} {Nc : List Str} {i j : Nat} {x : Str}, frOk N ns js Nc = true → js[i]? = some (some j) → Nc[i]? = some x → N[j]? = some x ∧ ns.lookup x = some .free
  | [], _, _, _, _, _, e, _ => by simp at e
  | _ :: _, [], _, _, _, _, _, e => by simp at e
  | none :: js, _ :: Nc, 0, _, _, _, e, _ => by simp at e
  | none :: js, _ :: Nc, i + 1, j, x, h, e1, e2 => by rw [frOk] at h; exact frOk_get (i := i) h (by simpa using e1) (by simpa using e2)
  | some j' :: js, y :: Nc, 0, j, x, h, e1, e2 => by
    simp at e1 e2
    subst e1 e2
    simp only [frOk, Bool.and_eq_true, decide_eq_true_eq] at h
    exact h.1
  | some j' :: js, y :: Nc, i + 1, j, x, h, e1, e2 => by
    simp only [frOk, Bool.and_eq_true] at h
    exact frOk_get (i := i) h.2 (by simpa using e1) (by simpa using e2)
section
variable {X : Cx}
theorem comp_okF {Nc : List Str} {js : List (Option Nat)} {scope : Scope} {n : Nat} (N : List Str) (ns : List (Str × NameKind)) (hN : X.N = N) (hS : X.env.scope.names = ns) (hE : X.env.cells = cellsFrom n X.env.scope.names []) (hK : X.env.scope.kind = .function)
    (hfr : ∀ y ∈ scope.names, y.2 = .free → ns.lookup y.1 = some .cell) (hc : ∀ y ∈ scope.names, y.2 ≠ .cell) (hn : ∀ y ∈ scope.names, y.2 = .local → scope.names.lookup y.1 = some .local)
    (hk : scope.kind = .function) (hj : frOk N scope.names js Nc = true) : CompOk X Nc js scope (cloF X.env.cells scope.names []) := by
  have hcell : ∀ y ∈ scope.names, y.2 = .free → ∃ c, X.env.cells.lookup y.1 = some c := fun y hy hf => by
    rw [hE, hS]; exact L2.cell_has (sc := { X.env.scope with names := ns }) (hfr y hy hf)
  refine ⟨hk, clos_of hcell, hc, hn, fun p hp => ?_, ?_, frOk_len hj, fun i j x e1 e2 => ?_⟩
  · rcases cloF_mem _ _ p hcell hp with h | h
    · cases h
    · exact h
  · unfold relabel
    rw [List.all_map, List.all_eq_true]
    rintro ⟨y, k⟩ hp
    by_cases hf : k = .free
    · subst hf
      have z := cloF_some (cells := X.env.cells) (x := y) scope.names [] (.inl hp)
      simp only [Function.comp]
      split <;> (rw [z]; simp)
    · have h1 : (k == NameKind.free) = false := by simpa using hf
      have h2 : k ≠ .cell := hc _ hp
      simp [h1, h2, hf]
  · refine el_0_2 (frOk_get hj e1 e2) ?_; intro h1 h2
    have hx : X.env.kindOf x = some .cell := by
      show X.env.scope.names.lookup x = _
      rw [hS]; exact hfr (x, .free) (PySem.mem_of_lookup h2) rfl
    exact ⟨by rw [hN]; exact h1, .inl hx, .inl (relabel_free hK h2 hx), rfl⟩
end
end DL
namespace DL
open PySem PySem.Spec PyProof.Rows L2
noncomputable def keyOf : D → Option Key
  | .int i => some (.inl i)
  | .str x => some (.inr x)
  | _ => none
noncomputable def valD (kvs : List (Key × D)) (k : Key) : Option D := (kvs.find? fun kv => decide (kv.1 = k)).map (·.2)
theorem valD_nil {k : Key} : valD [] k = none := rfl
theorem valD_pos {p : Key × D} {r : List (Key × D)} {k : Key} (e : p.1 = k) : valD (p :: r) k = some p.2 := by simp [valD, List.find?_cons, e]
theorem valD_neg {p : Key × D} {r : List (Key × D)} {k : Key} (e : ¬ p.1 = k) : valD (p :: r) k = valD r k := by simp [valD, List.find?_cons, e]
noncomputable abbrev PKD (K : PySem.W.Frag) (H : Hp) : List (Key × V) → List (Key × D) → Prop := Paired fun (p : Key × V) (q : Key × D) => p.1 = q.1 ∧ Is K H p.2 q.2
section
variable {K : PySem.W.Frag} {M : DH} {H H' : Hp} {kx : List (Key × V)} {kvs : List (Key × D)} {k : Key} {p : Addr}
theorem key_is {v : V} {d : D} (i : Is K H v d) (e : keyOf d = some k) : v = kV k := by
  cases i with
  | int j => cases e; rfl
  | str x => cases e; rfl
  | _ => cases e
theorem pkd_some (r : PKD K H kx kvs) {d : D} (e : valD kvs k = some d) : ∃ v, valV kx k = some v ∧ Is K H v d := by
  induction r with
  | nil => rw [valD_nil] at e; cases e
  | @cons a b as bs h t ih =>
    by_cases hk : b.1 = k
    · rw [valD_pos hk] at e
      cases e
      exact in_ec a.2 (valV_pos (h.1.trans hk)) h.2
    · rw [valD_neg hk] at e
      refine el_1_2 (ih e) ?_; intro v h1 h2
      exact in_ec v (by rw [valV_neg fun z => hk (h.1.symm.trans z)]; exact h1) h2
theorem pkd_none (r : PKD K H kx kvs) (e : valD kvs k = none) : valV kx k = none := by
  induction r with
  | nil => rfl
  | @cons a b as bs h t ih =>
    have hk : ¬ b.1 = k := fun z => by rw [valD_pos z] at e; cases e
    rw [valD_neg hk] at e
    rw [valV_neg fun z => hk (h.1.symm.trans z)]
    exact ih e
theorem pkd_isSome (r : PKD K H kx kvs) : (valV kx k).isSome = (valD kvs k).isSome := by
  cases e : valD kvs k with
  | none => rw [pkd_none r e]; rfl
  | some d => obtain ⟨v, h1, _⟩ := pkd_some r e; rw [h1]; rfl
noncomputable abbrev DicAt (M : DH) (a : Addr) (kvs : List (Key × D)) : Prop := M a = some (.dic kvs) ∨ M a = some (.fdc kvs)
theorem HAbs.dic {kvs : List (Key × D)} {a : Addr} (h : HAbs K M H) (e : DicAt M a kvs) : ∃ kx, Rd H a (.dK kx) ∧ PKD K H kx kvs := by
  rcases e with e | e
  · obtain ⟨kx, h1, h2⟩ := h a _ e; exact ⟨kx, .inl h1, h2⟩
  · obtain ⟨o, kx, h1, h2⟩ := h a _ e; exact ⟨kx, .inr ⟨o, h1⟩, h2⟩
end
section
variable {X : Cx} {e a b c o f : Expr} {es : List Expr} {pos apos cpos : Pos} {ta tb tc te td ty tx : TEd} {n : Nat}
noncomputable def D.flat : D → Bool
  | .non => true
  | .bl _ => true
  | .int _ => true
  | .str _ => true
  | _ => false
theorem flat_of {K : PySem.W.Frag} {H : Hp} {v : V} {d : D} (i : Is K H v d) (h : D.flat d = true) : flatV v = true := by
  cases i <;> first | rfl | (cases h; done)
theorem flat_all {K : PySem.W.Frag} {H : Hp} : ∀ {vs : List V} {ds : List D}, Iss K H vs ds → ds.all D.flat = true → vs.all flatV = true
  | _, _, .nil, _ => rfl
  | _, _, .cons i t, h => by
    rw [List.all_cons, Bool.and_eq_true] at h
    rw [List.all_cons, flat_of i h.1, flat_all t h.2]
    rfl
theorem flat_eqV {K : PySem.W.Frag} {H : Hp} {v v' : V} {d d' : D} (i : Is K H v d) (i' : Is K H v' d') (h : D.flat d = true) (h' : D.flat d' = true) : eqV v v' = D.eq d d' :=
  (flat_eq i i' (by cases d <;> cases d' <;> first | rfl | (cases h; done) | (cases h'; done)) (by cases d <;> first | rfl | (cases h; done))).2.2
theorem flat_any {K : PySem.W.Frag} {H : Hp} {v : V} {d : D} (i : Is K H v d) (h : D.flat d = true) : ∀ {vs : List V} {ds : List D}, Iss K H vs ds → ds.all D.flat = true → inV v vs = ds.any fun y => D.eq y d
  | _, _, .nil, _ => rfl
  | _, _, .cons j t, hh => by
    rw [List.all_cons, Bool.and_eq_true] at hh
    have ih := flat_any i h t hh.2
    unfold inV at ih ⊢
    rw [List.any_cons, List.any_cons, ih, flat_eqV j i hh.1 h]
noncomputable def inXD (neg : Bool) : D → D → DH → KD → Prop
  | .str i, .str j, M, Q => ∃ k, i.cps.toList = [k] ∧ Q (.bl (if neg then !decide (k ∈ j.cps.toList) else decide (k ∈ j.cps.toList))) M
  | d, .ref l, M, Q => (∃ k kvs, keyOf d = some k ∧ DicAt M l kvs ∧ Q (.bl (if neg then !(valD kvs k).isSome else (valD kvs k).isSome)) M) ∨
      ∃ xs, M l = some (.lst xs) ∧ D.flat d = true ∧ xs.all D.flat = true ∧ Q (.bl (if neg then !(xs.any fun y => D.eq y d) else xs.any fun y => D.eq y d)) M
  | _, _, _, _ => False
theorem inXD_ref {neg : Bool} {x : D} {l : Addr} {M : DH} {Q : KD} (h : inXD neg x (.ref l) M Q) : (∃ k kvs, keyOf x = some k ∧ DicAt M l kvs ∧ Q (.bl (if neg then !(valD kvs k).isSome else (valD kvs k).isSome)) M) ∨
      ∃ xs, M l = some (.lst xs) ∧ D.flat x = true ∧ xs.all D.flat = true ∧ Q (.bl (if neg then !(xs.any fun y => D.eq y x) else xs.any fun y => D.eq y x)) M := by
  cases x <;> exact h
theorem inXD_str {neg : Bool} {x : D} {j : Str} {M : DH} {Q : KD} (h : inXD neg x (.str j) M Q) : ∃ i k, x = .str i ∧ i.cps.toList = [k] ∧ Q (.bl (if neg then !decide (k ∈ j.cps.toList) else decide (k ∈ j.cps.toList))) M := by
  cases x with
  | str i => obtain ⟨k, h1, h2⟩ := h; exact ⟨i, k, rfl, h1, h2⟩
  | _ => exact h.elim
theorem inXD_no {b : Bool} {x y : D} {M : DH} {Q : KD} (q : inXD b x y M Q) (h1 : ∀ j, y ≠ .str j) (h2 : ∀ l, y ≠ .ref l) : False := by
  cases y with
  | str j => exact h1 _ rfl
  | ref l => exact h2 _ rfl
  | _ => cases x <;> exact q
theorem od_inX (hr : Room n X.A) : OpD X (compareOp .In) (inXD false) := by
  intro pins s σ H vx vy v u Q I rx ry zr185
  refine el_4_5 zr185 ?_; clear zr185; intro x y M Q' ix iy hm q hq
  cases iy with
  | str j =>
    refine el_2_3 (inXD_str q) ?_; (try clear q); intro i k zq186 hk q
    obtain rfl := zq186
    (first | cases ix.inv | cases ix)
    refine op_in_str pins s σ H _ _ v u Q I rx ry ⟨_, _, rfl, rfl, ?_⟩
    rw [one_sign hk, PySem.StrLaws.found_one]
    exact hq.here hm (.bl _) (by simpa using q)
  | ref l =>
    cases ry
    rcases inXD_ref q with ⟨k, kvs, hk, hl, q⟩ | ⟨xs, hl, h1, h2, q⟩
    · refine el_1_2 (hm.dic hl) ?_; intro kx hx hp
      have hv := key_is ix hk
      subst hv
      refine d_in (hu_of hr) I (.inl ⟨kx, k, hx, rfl, rfl⟩) rx fun s' I' => ⟨.bl _, H, I', rfl, ?_⟩
      rw [pkd_isSome hp]
      exact hq.here hm (.bl _) q
    · refine el_1_2 (hm.lst hl) ?_; intro ys hy iy
      refine op_in_seq pins s σ H _ (.ref l) v _ Q I rx rfl ⟨l, ys, rfl, .inl hy, flat_of ix h1, flat_all iy h2, ?_⟩
      rw [flat_any ix h1 iy h2]
      exact hq.here hm (.bl _) q
  | _ => exact (inXD_no q (fun _ z => D.noConfusion z) fun _ z => D.noConfusion z).elim
theorem od_notinX (hr : Room n X.A) : OpD X (compareOp .NotIn) (inXD true) := by
  intro pins s σ H vx vy v u Q I rx ry zr187
  refine el_4_5 zr187 ?_; clear zr187; intro x y M Q' ix iy hm q hq
  cases iy with
  | str j =>
    refine el_2_3 (inXD_str q) ?_; (try clear q); intro i k zq188 hk q
    obtain rfl := zq188
    (first | cases ix.inv | cases ix)
    refine op_notin_str pins s σ H _ _ v u Q I rx ry ⟨_, _, rfl, rfl, ?_⟩
    rw [one_sign hk, PySem.StrLaws.found_one]
    exact hq.here hm (.bl _) (by simpa using q)
  | ref l =>
    cases ry
    rcases inXD_ref q with ⟨k, kvs, hk, hl, q⟩ | ⟨xs, hl, h1, h2, q⟩
    · refine el_1_2 (hm.dic hl) ?_; intro kx hx hp
      have hv := key_is ix hk
      subst hv
      refine d_notIn (hu_of hr) I (.inl ⟨kx, k, hx, rfl, rfl⟩) rx fun s' I' => ⟨.bl _, H, I', rfl, ?_⟩
      rw [pkd_isSome hp]
      exact hq.here hm (.bl _) q
    · refine el_1_2 (hm.lst hl) ?_; intro ys hy iy
      refine op_notIn_seq pins s σ H _ (.ref l) v _ Q I rx rfl ⟨l, ys, rfl, .inl hy, flat_of ix h1, flat_all iy h2, ?_⟩
      rw [flat_any ix h1 iy h2]
      exact hq.here hm (.bl _) q
  | _ => exact (inXD_no q (fun _ z => D.noConfusion z) fun _ z => D.noConfusion z).elim
end
end DL
namespace DL
open PySem PySem.Spec PyProof.Rows L2
section
variable {prog : Program} {w : World} {A : Around} {E : Value → Shared → Prop} {z : Shared}
end
section
variable {X : Cx} {elts : List Expr} {k : Nat} {tpos pos : Pos} {g : TGd} {tb : TSd}
end
end DL
namespace DL
open PySem PySem.Spec PyProof.Rows L2
section
variable {X : Cx} {pins : List (Addr × Obj)} {σ : St} {H : Hp} {s : Shared}
end
section
variable {X : Cx} {tg : Expr} {pos : Pos} {g : TGd} {tb : TSd} {te : TEd}
section
variable {K : PySem.W.Frag} {M : DH} {H : Hp} {l : Addr} {o : Obj} {kx : List (Key × V)} {kvs : List (Key × D)}
end
end
end DL
namespace DL
open PySem PySem.Spec PyProof.Rows L2
section
variable {prog : Program} {w : World} {A : Around} {E : Value → Shared → Prop} {z : Shared}
end
end DL
namespace DL
open PySem PySem.Spec PyProof.Rows L2
section
variable {X : Cx} {elts : List Expr} {k : Nat} {tpos pos : Pos} {g : TGd} {tb : TSd}
end
end DL
namespace DL
open PySem PySem.Spec PyProof.Rows L2
section
variable {X : Cx} {k : Nat}
theorem lists_at {pins : List (Addr × Obj)} {σ : St} {H : Hp} {s : Shared} {us ws : List V} {xs ys : List D} {its its2 : List Value} (I : Inv X pins σ H s) (i1 : Iss X.K H us xs) (i2 : Iss X.K H ws ys) (r1 : Vals us its) (r2 : Vals ws its2) (ok : D.eqOks xs ys = true) (dp : D.deps xs ≤ 150) {A : Around} (hu : A.units + 200 < cLine) :
    ∀ j (h1 : j < its.toArray.size) (h2 : j < its2.toArray.size), SeqAt.EqAt A s its.toArray[j] its2.toArray[j] (pairEq xs ys j) := by
  intro j h1 h2
  have n1 : its.toArray.size = xs.length := by rw [List.size_toArray, ← r1.length, i1.length]
  have n2 : its2.toArray.size = ys.length := by rw [List.size_toArray, ← r2.length, i2.length]
  have q1 : xs[j]? = some xs[j] := List.getElem?_eq_getElem (by (first | lia | omega))
  have q2 : ys[j]? = some ys[j] := List.getElem?_eq_getElem (by (first | lia | omega))
  refine el_1_2 (i1.get q1) ?_; intro x ex ix
  refine el_1_2 (i2.get q2) ?_; intro y ey iy
  refine el_1_2 (r1.get ex) ?_; intro ux eu ru
  refine el_1_2 (r2.get ey) ?_; intro uy ew rw'
  have g1 : its.toArray[j] = ux := by
    have : its[j]? = some its[j] := List.getElem?_eq_getElem (by simpa using h1)
    rw [this] at eu; simpa using eu
  have g2 : its2.toArray[j] = uy := by
    have : its2[j]? = some its2[j] := List.getElem?_eq_getElem (by simpa using h2)
    rw [this] at ew; simpa using ew
  rw [g1, g2]
  have pe : pairEq xs ys j = D.eq xs[j] ys[j] := by unfold pairEq; rw [q1, q2]
  rw [pe]
  have dg := deps_get q1
  exact (eqAt_D I 150 _ _ A x y ux uy (by (first | lia | omega)) (by (first | lia | omega)) (eqOks_get ok q1 q2) ix iy ru rw').1
theorem eqs_len : ∀ {xs ys : List D}, D.eqs xs ys = true → xs.length = ys.length
  | [], [], _ => rfl
  | [], _ :: _, h => nof h
  | _ :: _, [], h => nof h
  | x :: xs, y :: ys, h => by
    rw [List.length_cons, List.length_cons, eqs_len (Bool.and_eq_true_iff.mp h).2]
end
section
variable {X : Cx} {tg elt a : Expr} {ifs : List Expr} {scope : Scope} {pos p cpos : Pos} {js : List (Option Nat)} {Nc : List Str} {cl : List (Str × Addr)}
noncomputable def compR (g : TGd) (tt : TTd) (te : TEd) (js : List (Option Nat)) (τ : DSt) : List D → DH → KD → Prop
  | [.int j], M, Q => (-(2 ^ 62) ≤ j ∧ j < 2 ^ 62) ∧ compD ((List.range j.toNat).map fun i : Nat => D.int (i : Int)) g tt te js τ M Q
  | _, _, _ => False
noncomputable def eCompR (ta : TAd) (g : TGd) (tt : TTd) (te : TEd) (js : List (Option Nat)) : TEd := fun τ M Q => ta τ M fun vs M1 => compR g tt te js τ vs M1 Q
theorem gives_r {K : PySem.W.Frag} {H : Hp} (n : Nat) : Gives K (Itr 0 n) ((List.range n).map fun i : Nat => D.int (i : Int)) H :=
  ⟨fun j hj => by rw [List.length_map, List.length_range] at hj; exact hj, fun j x H' hj ⟨e, y⟩ => by
    rw [List.length_map, List.length_range] at hj
    refine in_cec e (.int (j : Int)) (by rw [List.getElem?_map, List.getElem?_range hj]; rfl) ?_
    rw [y, Int.zero_add]
    exact .int _, by rw [List.length_map, List.length_range]; exact Nat.le_refl n⟩
theorem d_compR {ta : TAd} {ted : TEd} {gd : TGd} {ttd : TTd} (O : CompOk X Nc js scope cl) (hc : X.calm = true) (hmr : X.mg "range" = none) (ha : PA X [a] (lowA X.K ta)) (hg : ∀ C s H fp, PG (compCx X Nc scope cl C s H fp) tg (lowG X.K gd)) (hif : ∀ C s H fp, DIfs (compCx X Nc scope cl C s H fp) ifs ttd) (he : ∀ C s H fp, PE (compCx X Nc scope cl C s H fp) elt (low X.K ted))
    (hgl : Gl X "range" := by rfl) (hst : starEach [a] X.env = [(false, eval a X.env)] := by rfl) (hs : ∀ x, foldedSetIterable (.Call (.Name "range" p) [a] [] cpos) X.env x = pure x := by intro _; rfl) : PE X (.ListComp elt [⟨tg, .Call (.Name "range" p) [a] [] cpos, ifs, 0⟩] scope pos) (low X.K (eCompR ta gd ttd ted js)) := by
  intro pins s0 σ0 H0 Q0 I0 hw
  obtain ⟨ttv, hif', htt⟩ : ∃ ttv : TT, (∀ C s H fp, PIfs (compCx X Nc scope cl C s H fp) ifs ttv) ∧ ∀ σ H R, lowT X.K ttd σ H R → ttv σ H R := by
    rcases hif 0 s0 H0 [] with ⟨e1, e2⟩ | ⟨c, e1, _⟩
    · subst e1 e2
      refine in_ec _ (fun _ _ _ _ => .inl ⟨rfl, rfl⟩) (fun σ H R zz0 => ?_)
      refine el_3_4 zz0 ?_; clear zz0; intro τ M Q' _ hm h hq
      exact hq true M H hm (Ext.refl H) h
    · subst e1
      refine in_ec (lowT X.K ttd) (fun C s H fp => ?_) (fun σ H R h => h)
      rcases hif C s H fp with ⟨e1, _⟩ | ⟨c', e1, h⟩
      · cases e1
      · cases e1
        exact .inr ⟨c, rfl, h⟩
  refine ((pe_comp O hc (pi_range1 hgl hmr ha hst) hg hif' he hs).imp (t' := low X.K (eCompR ta gd ttd ted js)) fun σ H Q zz0 => ?_) pins s0 σ0 H0 Q0 I0 hw
  refine el_3_4 zz0 ?_; clear zz0; intro τ M Q' hs hm h hq
  refine in_eeeccc τ M _ hs hm h (fun ds M1 vs H1 m1 e1 i1 h1 => ?_)
  match ds, h1, i1 with
  | [.int j], h1, i1 =>
    refine el_1_2 (iss1 i1) ?_; intro v zq189 i
    obtain rfl := zq189
    (first | cases i.inv | cases i)
    refine el_0_2 h1 ?_; clear h1; intro zq190 w
    refine el_0_2 zq190 ?_; clear zq190; intro q1 q2
    exact in_eccc j rfl q1 q2 (low_comp (hs.mono e1) e1 m1 hq htt (fun l M2 H2 m2 e2 _ _ => gives_r j.toNat) w)
end
end DL
namespace DL
open PySem PySem.Spec PyProof.Rows L2
section
variable {X : Cx}
end
end DL
namespace DL
open PySem PySem.Spec PyProof.Rows L2
theorem _root_.L2.ObjOk.got {P : Program} {w : World} {H : Hp} {h : Heap} {a : Addr} {o : HO} (x : ObjOk P w H h a o) : ∃ u, h.get? a = some u := by
  cases o with
  | lst xs => obtain ⟨_, _, _, _, e⟩ := x; exact ⟨_, e⟩
  | tup xs => obtain ⟨_, _, _, o, e, _⟩ := x; exact ⟨_, e⟩
  | dK kvs => obtain ⟨_, _, _, _, o, _, _, e, _⟩ := x; exact ⟨_, e⟩
  | dT kvs => obtain ⟨_, _, _, _, o, _, _, e, _⟩ := x; exact ⟨_, e⟩
  | set S n => obtain ⟨o, _, _, _, e, _⟩ := x; exact ⟨_, e⟩
  | ins C dx fs => obtain ⟨_, _, _, e, _⟩ := x; exact ⟨_, e⟩
  | own y => obtain ⟨_, e⟩ := x; exact ⟨_, e⟩
  | xd fs => obtain ⟨_, ⟨_, _, _, e, _⟩, _⟩ := x; exact ⟨_, e⟩
  | rng lo hi => obtain ⟨_, _, _, e⟩ := x; exact ⟨_, e⟩
  | frz ob u => obtain ⟨e, _⟩ := x; exact ⟨_, e⟩
  | tbl ps => exact ⟨_, (show h.get? a = some _ from x)⟩
  | met f y => exact ⟨_, (show h.get? a = some _ from x)⟩
  | ext φ => obtain ⟨_, ⟨_, e⟩, _⟩ := x; exact ⟨_, e⟩
noncomputable def Tr (h : Heap) (a T : Addr) (cls : Value) : Prop :=
  ∃ oe vs a0 oT ts, h.get? a = some oe ∧ (oe.cls = cls ∧ vs[0]? = some a0) ∧ oe.data = .fields vs ∧ vs[1]? = some (.ref T) ∧ T ≠ a ∧ h.get? T = some oT ∧ oT.data = .fields ts ∧ ts[3]? = some .none
noncomputable def CXE (P : Program) (w : World) : CXT := fun outer H s E e s' => ∃ (a T : Addr) (cls : Value) (H' : Hp), e = .ref a ∧ s'.os = s.os ∧ AllBare s'.gens ∧ Un (frs outer) [] H H' s.heap s'.heap ∧ HOk P w H' s'.heap ∧
  s.heap.get? a = none ∧ s.heap.get? T = none ∧ H' a = none ∧ H' T = none ∧ Tr s'.heap a T cls ∧ E cls none H'
theorem cxe_of {X : Cx} {pins : List (Addr × Obj)} {σ : St} {H : Hp} {s : Shared} {E : XK} {h' : Heap} {xs : List Addr} {a : Addr} {cls a0 : Value} {t' : Nat} (I : Inv X pins σ H s) (hex : X.ex = []) (hst : X.stack = X.env :: X.outer)
    (hxs : ∀ b ∈ xs, X.s₀.heap.get? b = none ∧ H b = none) (stay : (PySem.W.hideAll s.heap (xs ++ frs X.stack)).StaysIn h') (up : s.heap.UpToSlots h') (tr : h'.TracedW (PySem.W.hideAll s.heap (xs ++ frs X.stack)) a cls a0)
    (ha : X.s₀.heap.get? a = none ∧ H a = none) (hE : E cls none H) : CXE X.prog X.w X.outer X.H₀ X.s₀ E (.ref a) { s with heap := h', toks := t' } := by
  refine el_5_9 tr ?_; clear tr; intro oe vs T oT ts h1 h2 h3 h4 h5 h6 h7 h8 h9
  have hexb : ∀ b : Addr, b ∉ X.ex := fun b z => by rw [hex] at z; cases z
  have hL : X.s₀.heap.get? X.env.locals = none := Heap.get?_none_of_le I.ok.above
  have kept : ∀ b o, s.heap.get? b = some o → b ∉ xs → b ∉ frs X.stack → h'.get? b = some o := fun b o e n1 n2 => stay b o (PySem.W.hideAll_get _ e fun z => (List.mem_append.mp z).elim n1 n2)
  have nx : ∀ b o, X.s₀.heap.get? b = some o → b ∉ xs := fun b o e z => by rw [(hxs b z).1] at e; cases e
  have ns : ∀ b o, X.s₀.heap.get? b = some o → b ∉ X.fs → b ∉ frs X.stack := fun b o e n z => by
    rcases List.mem_cons.mp (I.stkSub b z) with z | z
    · subst z; rw [hL] at e; cases e
    · exact n z
  have frm : ∀ b ∈ frs X.stack, ∃ o, h'.get? b = some o ∧ ∀ ws, o.data ≠ .fields ws := fun b z => by
    obtain ⟨_, o, e, d⟩ := I.stack.mem z
    refine el_1_1 (up b o e d) ?_; intro sl e'
    exact in_ec _ e' d
  have trk : ∀ b u, H b = some u → b ∉ xs ∧ b ∉ frs X.stack := fun b u e => ⟨fun z => (by rw [(hxs b z).2] at e; cases e), fun z => (by rw [I.stkFree b z] at e; cases e)⟩
  have hT : T ∉ frs X.stack := fun z => by
    refine el_1_2 (frm T z) ?_; intro o e d
    rw [h7] at e; cases e
    exact d ts h8
  have sT : s.heap.get? T = none ∨ T ∈ xs := by
    cases e : s.heap.get? T with
    | none => exact .inl rfl
    | some o =>
      refine .inr (Classical.byContradiction fun n => ?_)
      have z := PySem.W.hideAll_get (xs ++ frs X.stack) e fun z => (List.mem_append.mp z).elim n hT
      rw [h5] at z; cases z
  refine in_eeeecccccccccc a T cls H rfl I.os I.bare (⟨fun b o e n hb _ => ?_, fun b o e n hb _ => ?_, fun b o e n _ => I.base.free b o e n (hexb b), fun b o e _ => ?_, I.base.tups, I.base.frzs, I.base.tbls⟩) (fun b u e => ?_) ha.1 ?_ ha.2 ?_ (⟨oe, vs, a0, oT, ts, h1, h2, h3, h4, h6, h7, h8, h9⟩) hE
  · exact kept b o (I.base.keep b o e n hb (hexb b)) (nx b o e) (ns b o e hb)
  · refine el_1_1 (I.base.slot b o e n hb (hexb b)) ?_; intro sl e1
    obtain ⟨_, o', e2, d⟩ := I.funs.mem hb
    rw [e1] at e2; cases e2
    refine el_1_1 (up b _ e1 d) ?_; intro sl' e3
    exact ⟨sl', e3⟩
  · refine el_1_1 (I.base.there b o e (hexb b)) ?_; intro o' e1
    by_cases hb : b ∈ frs X.stack
    · obtain ⟨o2, e2, _⟩ := frm b hb; exact ⟨o2, e2⟩
    · exact ⟨o', kept b o' e1 (nx b o e) hb⟩
  · refine (I.hok b u e).stay (fun c v hc q => ?_) (fun _ q => q) fun _ _ q => q
    rcases hc with rfl | hc
    · exact kept _ v q (trk _ u e).1 (trk _ u e).2
    · exact kept c v q (trk c _ hc).1 (trk c _ hc).2
  · rcases sT with z | z
    · cases e : X.s₀.heap.get? T with
      | none => rfl
      | some o =>
        refine el_1_1 (I.base.there T o e (hexb T)) ?_; intro o' e1
        rw [z] at e1; cases e1
    · exact (hxs T z).1
  · rcases sT with z | z
    · cases e : H T with
      | none => rfl
      | some u =>
        refine el_1_1 ((I.hok T u e).got) ?_; intro o e1
        rw [z] at e1; cases e1
    · exact (hxs T z).2
structure XCame (X : Cx) (EX : DSt → Value → DH → Prop) : Prop where
  came : ∀ (pins : List (Addr × Obj)) (τ : DSt) (σ : St) (H : Hp) (s : Shared) (E1 : XK) (e : Value) (s' : Shared), Inv X pins σ H s → SAbs X.K τ σ H → CXE X.prog X.w X.stack H s E1 e s' → (∀ cls H1, E1 cls none H1 → ∃ M1, HAbs X.K M1 H1 ∧ EX τ cls M1) → X.xe e s'
structure XOk (X : Cx) (EX : DSt → Value → DH → Prop) : Prop extends XCame X EX where
  made : ∀ (pins : List (Addr × Obj)) (τ : DSt) (σ : St) (H : Hp) (s : Shared) (C a : Addr) (h1 : Heap) (args : List Value) (M : DH), Inv X pins σ H s → SAbs X.K τ σ H → Heap.MadeExcOf s.heap h1 a (.ref C) args → HAbs X.K M H → EX τ (.ref C) M → X.xe (.ref a) { s with heap := h1 }
theorem inv_ext {X : Cx} {pins : List (Addr × Obj)} {σ : St} {H : Hp} {s : Shared} (I : Inv X pins σ H s) : Ext X.K X.H₀ H := ⟨fun a xs h => by
  rcases h with (h | ⟨o, h⟩) | h
  · exact .inl (.inl (I.base.tups a xs h))
  · exact .inl (.inr ⟨o, I.base.frzs a o _ h⟩)
  · exact .inr h, fun a o u h => I.base.frzs a o u h⟩
section
variable {P : Program} {w : World} {K : PySem.W.Frag} {mg : Str → Option Value} {base : Heap} {N : List Str} {qual : Str} {scope : Scope} {f : Addr} {cd : Value} {A : Around} {outer : List Env} {s₀ : Shared} {H₀ : Hp} {E : XK} {EX : Value → DH → Prop}
theorem xok_body (hE : ∀ cls M1 H1, HAbs K M1 H1 → Ext K H₀ H1 → EX cls M1 → E cls none H1) : XOk (cxOf (CXE P w) P w K mg base N qual scope f cd A outer s₀ H₀ E) (fun _ => EX) where
  came := fun pins τ σ H s E1 e s' I _ ⟨a, T, cls, H', he, ho, hb, un, hok, na, nT, ta, tT, tr, hE1⟩ hq => by
    subst he
    refine el_1_2 (hq cls H' hE1) ?_; intro M1 hm q
    have I' : Inv (cxOf (CXE P w) P w K mg base N qual scope f cd A outer s₀ H₀ E) pins σ H' s' := I.call' ho un hok hb fun b z => nomatch z
    have s0n : ∀ b, s.heap.get? b = none → s₀.heap.get? b = none := fun b z => by
      cases e : s₀.heap.get? b with
      | none => rfl
      | some o =>
        refine el_1_1 (I.base.there b o e (fun z => nomatch z)) ?_; intro o' e1
        rw [z] at e1; cases e1
    have hxs : ∀ b ∈ [a, T], s₀.heap.get? b = none ∧ H' b = none := fun b z => by
      simp only [List.mem_cons, List.not_mem_nil, or_false] at z
      rcases z with rfl | rfl
      · exact ⟨s0n _ na, ta⟩
      · exact ⟨s0n _ nT, tT⟩
    refine el_5_8 tr ?_; clear tr; intro oe vs a0 oT ts t1 t2 t3 t4 t5 t6 t7 t8
    have hin : ∀ env ∈ (cxOf (CXE P w) P w K mg base N qual scope f cd A outer s₀ H₀ E).stack, ∀ b, env.frame = some b → b ∈ [a, T] ++ frs (cxOf (CXE P w) P w K mg base N qual scope f cd A outer s₀ H₀ E).stack := fun env he b hb => List.mem_append_right _ (List.mem_filterMap.mpr ⟨env, he, hb⟩)
    refine wpAny_leaving_nextW (base := PySem.W.hideAll s'.heap ([a, T] ++ frs (cxOf (CXE P w) P w K mg base N qual scope f cd A outer s₀ H₀ E).stack)) (cls := cls) (a0 := a0) I'.ok.frames (PySem.W.funFrames_hide I'.stack hin) rfl ?_ (fun b o z => PySem.W.of_hideAll _ z) (PySem.W.hideAll_none _ (by simp)) fun h' hL => ?_
    · exact in_eeeeecccccccc oe vs T oT ts t1 t2 t3 t4 (PySem.W.hideAll_none _ (by simp)) t5 t6 t7 t8
    · refine el_0_4 hL ?_; clear hL; intro k1 _ k3 k4
      exact cxe_of (t' := s'.toks) I' rfl rfl hxs k1 k4 k3 (hxs a (by simp)) (hE cls M1 H' hm (inv_ext I') q)
  made := fun pins τ σ H s C a h1 args M I _ mk hm q => by
    have s0n : ∀ b, s.heap.get? b = none → s₀.heap.get? b = none := fun b z => by
      cases e : s₀.heap.get? b with
      | none => rfl
      | some o =>
        refine el_1_1 (I.base.there b o e (fun z => nomatch z)) ?_; intro o' e1
        rw [z] at e1; cases e1
    have hin : ∀ env ∈ (cxOf (CXE P w) P w K mg base N qual scope f cd A outer s₀ H₀ E).stack, ∀ b, env.frame = some b → b ∈ [] ++ frs (cxOf (CXE P w) P w K mg base N qual scope f cd A outer s₀ H₀ E).stack := fun env he b hb => List.mem_filterMap.mpr ⟨env, he, hb⟩
    refine wpAny_leaves_madeW (base := PySem.W.hideAll s.heap ([] ++ frs (cxOf (CXE P w) P w K mg base N qual scope f cd A outer s₀ H₀ E).stack)) (h := s.heap) I.ok.frames rfl (fun b o z => PySem.W.of_hideAll _ z) (PySem.W.funFrames_hide I.stack hin) mk fun h' t fl _ _ up => ?_
    refine el_0_4 fl ?_; clear fl; intro k1 k2 _ k4
    have hta : H a = none := by
      cases e : H a with
      | none => rfl
      | some u =>
        refine el_1_1 ((I.hok a u e).got) ?_; intro o e1
        rw [mk.new] at e1; cases e1
    exact cxe_of (t' := s.toks) (xs := []) I rfl rfl (fun b z => absurd z (by simp)) k1 ((Heap.UpToSlots.of_keeps mk.keeps).trans up) k4 ⟨s0n a mk.new, hta⟩ (hE _ M H hm (inv_ext I) q)
theorem passes_body : PassesOwn (model P w) (A.deeper (envOfC qual scope s₀.heap.objs.size f cd)) (envOfC qual scope s₀.heap.objs.size f cd) (cxOf (CXE P w) P w K mg base N qual scope f cd A outer s₀ H₀ E).xe := PassesOwn.leaving
end
noncomputable abbrev SpE := List D → DH → KD → (Value → DH → Prop) → Prop
noncomputable def lowSpE (K : PySem.W.Frag) (sp : SpE) : Sp := fun vs H Q E => ∃ ds M Q' E', Iss K H vs ds ∧ HAbs K M H ∧ sp ds M Q' E' ∧ lowQ K H Q' Q ∧ ∀ cls M1 H1, HAbs K M1 H1 → Ext K H H1 → E' cls M1 → E cls none H1
structure FnE (P : Program) (w : World) (K : PySem.W.Frag) (mg : Str → Option Value) (base : Heap) (k : Nat) (x : Str) (ps : List Str) (sp : SpE) : Prop where
  ex : ∃ f fd, FnOk P w K mg base (CXE P w) k f fd ps (lowSpE K sp) ∧ mg x = some (.ref f) ∧ PySem.W.keepIn K (.ref f) = true ∧ Binds K fd ps []
section
variable {P : Program} {w : World} {K : PySem.W.Frag} {mg : Str → Option Value} {base : Heap}
theorem def_okE {x : Str} {st : Stmt} {N ps : List Str} {k : Nat} {sp : SpE} (T : Stands K mg x st ps) (S : FnScope N ps (defScope st)) (len : ∀ ds M Q E, sp ds M Q E → ds.length = ps.length)
    (hbody : ∀ (f : Addr) (cdv : Value) (A : Around) (outer : List Env) (s : Shared) (H : Hp) (E : XK) (EX : Value → DH → Prop), Room k (A.deeper (envOfC x (defScope st) s.heap.objs.size f cdv)) →
      XOk (cxOf (CXE P w) P w K mg base N x (defScope st) f cdv A outer s H E) (fun _ => EX) →
      PassesOwn (model P w) (A.deeper (envOfC x (defScope st) s.heap.objs.size f cdv)) (envOfC x (defScope st) s.heap.objs.size f cdv) (cxOf (CXE P w) P w K mg base N x (defScope st) f cdv A outer s H E).xe →
      ∃ t : TSd, PSs (cxOf (CXE P w) P w K mg base N x (defScope st) f cdv A outer s H E) (defBody st) (lowS K t) ∧ ∀ ds M Q, sp ds M Q EX → t (endsOf Q) (startD N ds) M) : FnE P w K mg base (k + 1) x ps sp := by
  refine el_2_3 T ?_; clear T; intro f fd F hb hm
  refine ⟨f, fd, ?_, hm, F.kp, hb⟩
  refine el_9_3 (F.ex) ?_; intro oc od kV doc pm an cdv ct osl zq191 lk hcd
  obtain rfl := zq191
  refine fn_of lk hcd S (fun vs H Q E h => ?_) fun A outer s H vs Q E hr h => ?_
  · refine el_4_4 h ?_; clear h; intro ds M Q' E' i _ q _
    rw [i.length]
    exact len _ _ _ _ q
  · refine el_4_5 h ?_; clear h; intro ds M Q' E' i hm q hq hE
    refine el_1_2 (hbody f cdv A outer s H E E' hr (xok_body hE) passes_body) ?_; intro t h1 h2
    refine ⟨_, h1, startD N ds, M, endsOf Q', start_abs i, hm, h2 _ _ _ q, ⟨?_, ?_, ?_, ?_⟩⟩
    · intro τ M1 σ H1 s1 m1 e1 zr192
      refine el_1_2 zr192 ?_; clear zr192; intro M0 sub q0
      exact hq _ M0 _ H1 (m1.sub sub) e1 .non q0
    · intro d M1 v H1 m1 e1 i1 zr193
      refine el_1_2 zr193 ?_; clear zr193; intro M0 sub q0
      exact hq d M0 v H1 (m1.sub sub) e1 i1 q0
    · intro τ M1 σ H1 _ _ _ q0; exact q0.elim
    · intro τ M1 σ H1 _ _ _ q0; exact q0.elim
end
section
variable {X : Cx} {e : Expr} {es : List Expr} {pos : Pos} {t : TAd} {EX : DSt → Value → DH → Prop}
noncomputable def eCallE (sp : SpE) (EX : DSt → Value → DH → Prop) (t : TAd) : TEd := fun τ M Q => t τ M fun ds M1 => sp ds M1 Q fun cls M2 => ∃ M0, Sub M0 M2 ∧ EX τ cls M0
theorem d_callE {k : Nat} {x : Str} {ps : List Str} {sp : SpE} {p : Pos} (F : FnE X.prog X.w X.K X.mg X.base k x ps sp) (hx : XCame X EX) (hr : Room k X.A) (ha : PA X (e :: es) (lowA X.K t)) (hg : Gl X x := by rfl) (hdb : (x == ("__debug__" : Str)) = false := by decide)
    (he : starEach (e :: es) X.env = (false, eval e X.env) :: starEach es X.env := by rfl) (hpl : (backTo pos (starEach es X.env)).any (·.1) = false := by rfl) : PE X (.Call (.Name x p) (e :: es) [] pos) (low X.K (eCallE sp EX t)) := by
  refine el_2_4 (F.ex) ?_; (try clear F); intro f fd F hmg hk hb
  intro pins s σ H Q I zr194
  refine el_3_4 zr194 ?_; clear zr194; intro τ M Q' hs hm h hq
  refine wpAny_Call_Name_kw (ld_glob I hg hmg ?_ hdb)
  have hA := ha pos pins s σ H (fun vs H1 => ∃ ds M1, HAbs X.K M1 H1 ∧ Ext X.K H H1 ∧ Iss X.K H1 vs ds ∧ sp ds M1 Q' fun cls M2 => ∃ M0, Sub M0 M2 ∧ EX τ cls M0) I ⟨τ, M, _, hs, hm, h, fun ds M1 vs H1 m1 e1 i1 h1 => ⟨ds, M1, m1, e1, i1, h1⟩⟩
  refine PySem.W.callWith_K (h₀ := X.base) I.ok.mod.kin hk (thn hA fun us s1 zz0 => ?_) he hpl
  refine el_2_3 zz0 ?_; clear zz0; intro vs H1 I1 r zq195
  refine el_2_4 zq195 ?_; clear zq195; intro ds M1 m1 e1 i1 h1
  refine ⟨I1.kIn, ?_⟩
  have h2 : lowSpE X.K sp vs H1 Q fun cls _ H2 => ∃ M2, HAbs X.K M2 H2 ∧ EX τ cls M2 := ⟨ds, M1, Q', _, i1, m1, h1, hq.ext e1, fun cls M2 H2 m2 _ ⟨M0, sub, q⟩ => ⟨M0, m2.sub sub, q⟩⟩
  have hl : us.length = ps.length := by rw [← r.length]; exact F.len _ _ _ _ h2
  have hbn := hb s1 us I1.kIn (by rw [List.append_nil]; exact hl)
  rw [List.append_nil] at hbn
  refine wpAny_call (codeAny_mono (F.run X.A X.stack s1 H1 ⟨us, []⟩ us vs Q _ hr I1.env0 hbn r h2) fun rr s' hq' => ?_)
  cases rr with
  | error e => exact hx.came pins τ σ H1 s1 (fun cls _ H2 => ∃ M2, HAbs X.K M2 H2 ∧ EX τ cls M2) e s' I1 (hs.mono e1) hq' fun cls H2 z => z
  | ok fl =>
    cases fl with
    | ret u => exact I1.after hq'
    | next => exact False.elim hq'
    | brk => exact False.elim hq'
    | cont => exact False.elim hq'
structure XC (K : PySem.W.Frag) (mg : Str → Option Value) (x : Str) (C : Addr) : Prop where
  nm : mg x = some (.ref C)
  ow : PySem.W.excIn K C [.type "ValueError", .type "Exception", .type "BaseException", .type "object"] "ValueError.__new__" = true
theorem exc_obj {K : PySem.W.Frag} {h : Heap} {C : Addr} {bmB : List Value} {newId : String} (X : K.In h) (q : PySem.W.excIn K C bmB newId = true) :
    ∃ (bm : List Value) (N : Addr) (nm qn : Str) (bs : List Value) (hd : Bool) (sn : List Str) (sub : List Value) (ab : Bool) (col : Option Bool) (dd : Option Addr) (k0 k1 k2 k3 k5 : Option Value) (mN : Str → Option Value),
      h.get? C = some (excClassObj nm qn C N bs bm hd sn sub ab col dd k0 k1 k2 k3 k5 newId) ∧ h.Ns N mN ∧ mN "__init__" = none ∧ OwnTail h bmB bm := by
  unfold PySem.W.excIn at q
  split at q
  · rename_i dd cd sl ho
    split at q
    · rename_i C' bm k0 k1 k2 k3 n k5 hm hs
      simp only [Bool.and_eq_true, beq_iff_eq, Bool.not_eq_true'] at q
      refine el_0_2 q ?_; clear q; intro zq196 hni
      refine el_0_2 zq196 ?_; clear zq196; intro zq197 hok
      refine el_0_2 zq197 ?_; clear zq197; intro zq198 ht
      refine el_0_2 zq198 ?_; clear zq198; intro zq199 hdel
      refine el_0_2 zq199 ?_; clear zq199; intro zq200 zq201
      obtain rfl := zq200
      obtain rfl := zq201
      obtain ⟨nm, bs, mro, ns, qn, hd, sn, sub, ab, col, del⟩ := cd
      dsimp only at hm hdel hok hni
      subst hm hdel
      have hsl : sl = #[k0, k1, k2, k3, some (.builtin n), k5] := by
        obtain ⟨l⟩ := sl
        simp only at hs
        rw [hs]
      subst hsl
      exact ⟨bm, ns, nm, qn, bs, hd, sn, sub, ab, col, dd, k0, k1, k2, k3, k5, _, X _ _ ho, .of_isNs (PySem.W.isNs_of_in X hok), PySem.W.nsMap_none_of_in X hok hni, PySem.W.tail_of_in X ht⟩
    · cases q
  · cases q
noncomputable def sRaise (C : Addr) (EX : DSt → Value → DH → Prop) (t : TAd) : TSd := fun _ τ M => t τ M fun ds M1 => ds.length ≤ 1000 ∧ EX τ (.ref C) M1
theorem s_raise {x : Str} {C : Addr} {np cpos : Pos} (hx : XOk X EX) (hc : X.calm = true) (xc : XC X.K X.mg x C) (ha : PA X (e :: es) (lowA X.K t)) (hg : Gl X x := by rfl) (hd : (x == ("__debug__" : Str)) = false := by decide)
    (he : starEach (e :: es) X.env = (false, eval e X.env) :: starEach es X.env := by rfl) (hpl : (backTo cpos (starEach (e :: es) X.env)).any (·.1) = false := by rfl) :
    PS X (.Raise (some (.Call (.Name x np) (e :: es) [] cpos)) none pos) (lowS X.K (sRaise C EX t)) := by
  intro pins s σ H D I zr202
  refine el_3_4 zr202 ?_; clear zr202; intro τ M D' hs hm h hd'
  refine el_17_4 (exc_obj I.mod.kin xc.ow) ?_; intro bm N nm qn bs hdct sn sub ab col dd k0 k1 k2 k3 k5 mN hC hN hni TL
  refine wpAny_Raise_call_subT (C := C) (nm := nm) (q := qn) (N := N) (bs := bs) (bm := bm) (hdct := hdct) (sn := sn) (sub := sub) (ab := ab) (col := col) (dd := dd) (k0 := k0) (k1 := k1) (k2 := k2) (k3 := k3) (k5 := k5) PySem.F.excBase_ValueError (TL.hasType rfl) (I.ok.hd hc) hpl hni (ld_glob I hg xc.nm ⟨rfl, ?_⟩ hd)
  have hsp := ha cpos pins s σ H _ I ⟨τ, M, _, hs, hm, h, fun ds M1 vs H1 m1 e1 i1 h1 => (show ∃ M1 : DH, HAbs X.K M1 H1 ∧ Ext X.K H H1 ∧ vs.length ≤ 1000 ∧ EX τ (.ref C) M1 from ⟨M1, m1, e1, by rw [i1.length]; exact h1.1, h1.2⟩)⟩
  have e0 : backTo cpos (starEach (e :: es) X.env) = (false, eval e X.env) :: backTo cpos (starEach es X.env) := by rw [he]; rfl
  rw [e0] at hsp ⊢
  refine Calls.evalArgs_plain (thn hsp fun us s2 zz0 => ?_)
  obtain ⟨vs, H2, I2, r2, M2, m2, e2, hl, q2⟩ := zz0
  refine ⟨rfl, by rw [← r2.length]; exact line1000 hl, I2.bk _ _ hC, hN.keeps I2.bk, TL.keeps I2.bk, fun h' a mk => ?_⟩
  exact hx.made pins τ σ H2 s2 C a h' us M2 I2 (hs.mono e2) mk m2 q2
end
end DL
namespace DL
open PySem PySem.Spec PyProof.Rows L2
theorem un_ext {K : PySem.W.Frag} {fs ex : List Addr} {H H' : Hp} {h h' : Heap} (u : Un fs ex H H' h h') : Ext K H H' := ⟨fun a xs h => by
  rcases h with (h | ⟨o, h⟩) | h
  · exact .inl (.inl (u.tups a xs h))
  · exact .inl (.inr ⟨o, u.frzs a o _ h⟩)
  · exact .inr h, fun a o v h => u.frzs a o v h⟩
structure Fly (X : Cx) (pins : List (Addr × Obj)) (σ : St) (H : Hp) (s : Shared) (a T : Addr) (cls : Value) : Prop where
  inv : Inv X pins σ H s
  new : ∀ b ∈ [a, T], X.s₀.heap.get? b = none ∧ H b = none ∧ b ≠ X.env.locals ∧ (∀ x c, X.env.cells.lookup x = some c → c ≠ b) ∧ ∀ p ∈ X.pn ++ pins, p.1 ≠ b
  tr : Tr s.heap a T cls
section
variable {X : Cx} {pins : List (Addr × Obj)} {σ : St} {H : Hp} {s : Shared}
theorem Inv.nowhere (I : Inv X pins σ H s) (hex : X.ex = []) {b : Addr} (e : s.heap.get? b = none) : X.s₀.heap.get? b = none ∧ b ≠ X.env.locals ∧ (∀ x c, X.env.cells.lookup x = some c → c ≠ b) ∧ ∀ p ∈ X.pn ++ pins, p.1 ≠ b := by
  refine ⟨?_, ?_, ?_, ?_⟩
  · cases q : X.s₀.heap.get? b with
    | none => rfl
    | some o =>
      obtain ⟨o', e1⟩ := I.base.there b o q (by rw [hex]; simp)
      rw [e] at e1; cases e1
  · intro z
    refine el_1_2 (I.loc) ?_; intro m zq203 _
    refine el_3_2 zq203 ?_; clear zq203; intro o es ep ho _
    rw [← z, e] at ho; cases ho
  · intro x c hc z
    refine el_2_2 (I.cell x c hc) ?_; intro v o ho _
    rw [z, e] at ho; cases ho
  · intro p hp z
    have ho := (I.pin p hp).1
    rw [z, e] at ho; cases ho
theorem fly_of {E1 : XK} {e : Value} {s' : Shared} (I : Inv X pins σ H s) (hex : X.ex = []) (c : CXE X.prog X.w X.stack H s E1 e s') : ∃ a T cls H', e = .ref a ∧ Fly X pins σ H' s' a T cls ∧ Ext X.K H H' ∧ E1 cls none H' := by
  refine el_4_11 c ?_; clear c; intro a T cls H' he ho hb un hok na nT ta tT tr hE1
  refine in_eeeeccc a T cls H' he (⟨I.call' ho un hok hb (fun b z => absurd z (by simp)), fun b z => ?_, tr⟩) (un_ext un) hE1
  simp only [List.mem_cons, List.not_mem_nil, or_false] at z
  rcases z with rfl | rfl
  · have := Inv.nowhere I hex na; exact ⟨this.1, ta, this.2⟩
  · have := Inv.nowhere I hex nT; exact ⟨this.1, tT, this.2⟩
theorem Inv.flown {h' : Heap} {t' : Nat} {xs : List Addr} (I : Inv X pins σ H s) (hex : X.ex = []) (hst : X.stack = X.env :: X.outer) (new : ∀ b ∈ xs, X.s₀.heap.get? b = none ∧ H b = none ∧ b ≠ X.env.locals ∧ (∀ x c, X.env.cells.lookup x = some c → c ≠ b) ∧ ∀ p ∈ X.pn ++ pins, p.1 ≠ b)
    (stay : (PySem.W.hideAll s.heap (xs ++ frs X.stack)).StaysIn h') (up : s.heap.UpToSlots h') : Inv X pins σ H { s with heap := h', toks := t' } := by
  have hexb : ∀ b : Addr, b ∉ X.ex := fun b z => by rw [hex] at z; cases z
  have hL : X.s₀.heap.get? X.env.locals = none := Heap.get?_none_of_le I.ok.above
  have kept : ∀ b o, s.heap.get? b = some o → b ∉ xs → b ∉ frs X.stack → h'.get? b = some o := fun b o e n1 n2 => stay b o (PySem.W.hideAll_get _ e fun z => (List.mem_append.mp z).elim n1 n2)
  have nx : ∀ b o, X.s₀.heap.get? b = some o → b ∉ xs := fun b o e z => by rw [(new b z).1] at e; cases e
  have ns : ∀ b o, X.s₀.heap.get? b = some o → b ∉ X.fs → b ∉ frs X.stack := fun b o e n z => by
    rcases List.mem_cons.mp (I.stkSub b z) with z | z
    · subst z; rw [hL] at e; cases e
    · exact n z
  have frm : ∀ b ∈ frs X.stack, ∃ o, h'.get? b = some o := fun b z => by
    obtain ⟨_, o, e, d⟩ := I.stack.mem z
    refine el_1_1 (up b o e d) ?_; intro sl e'
    exact ⟨_, e'⟩
  have trk : ∀ b u, H b = some u → b ∉ xs ∧ b ∉ frs X.stack := fun b u e => ⟨fun z => (by rw [(new b z).2.1] at e; cases e), fun z => (by rw [I.stkFree b z] at e; cases e)⟩
  have cel : ∀ x c v, X.env.cells.lookup x = some c → s.heap.IsCell c v → h'.IsCell c v := fun x c v hc ⟨o, ho, hd⟩ => by
    obtain ⟨sl, e⟩ := up c o ho (fun ws q => by rw [hd] at q; cases q)
    exact in_ec _ e hd
  refine ⟨I.ok, I.os, I.bare, ⟨fun b o e n hb hx => ?_, fun b o e n hb hx => ?_, I.base.free, fun b o e hx => ?_, I.base.tups, I.base.frzs, I.base.tbls⟩, ?_, fun x c hc => ?_, I.free, I.freeC, fun p hp => ?_, fun b u e => ?_, I.len⟩
  · exact kept b o (I.base.keep b o e n hb hx) (nx b o e) (ns b o e hb)
  · refine el_1_1 (I.base.slot b o e n hb hx) ?_; intro sl e1
    obtain ⟨_, o', e2, d⟩ := I.funs.mem hb
    rw [e1] at e2; cases e2
    refine el_1_1 (up b _ e1 d) ?_; intro sl' e3
    exact ⟨sl', e3⟩
  · refine el_1_1 (I.base.there b o e hx) ?_; intro o' e1
    by_cases hb : b ∈ frs X.stack
    · exact frm b hb
    · exact ⟨o', kept b o' e1 (nx b o e) hb⟩
  · refine el_1_2 (I.loc) ?_; intro m hn hl
    refine in_ec m (up.ns hn) (fun i x v e1 e2 e3 => ?_)
    refine el_1_2 (hl i x v e1 e2 e3) ?_; intro u r l
    refine in_ec u r ?_
    rcases l with l | ⟨k, c, hc, z⟩
    · exact .inl l
    · exact .inr ⟨k, c, hc, cel x c _ hc z⟩
  · refine el_1_1 (I.cell x c hc) ?_; intro v z
    exact ⟨v, cel x c v hc z⟩
  · refine el_0_5 (I.pin p hp) ?_; intro e n ne nf d
    refine ⟨kept p.1 p.2 e (fun z => (new p.1 z).2.2.2.2 p hp rfl) (fun z => ?_), n, ne, nf, d⟩
    rcases List.mem_cons.mp (I.stkSub p.1 z) with z | z
    · exact ne z
    · exact nf z
  · refine (I.hok b u e).stay (fun c v hc q => ?_) (fun _ q => q) fun _ _ q => q
    rcases hc with rfl | hc
    · exact kept _ v q (trk _ u e).1 (trk _ u e).2
    · exact kept c v q (trk c _ hc).1 (trk c _ hc).2
theorem Fly.next {h' : Heap} {t' : Nat} {a T : Addr} {cls a0 : Value} (F : Fly X pins σ H s a T cls) (hex : X.ex = []) (hst : X.stack = X.env :: X.outer)
    (stay : (PySem.W.hideAll s.heap ([a, T] ++ frs X.stack)).StaysIn h') (up : s.heap.UpToSlots h') (tr : h'.TracedW (PySem.W.hideAll s.heap ([a, T] ++ frs X.stack)) a cls a0) : ∃ T', Fly X pins σ H { s with heap := h', toks := t' } a T' cls := by
  refine el_5_9 tr ?_; clear tr; intro oe vs T' oT ts h1 h2 h3 h4 h5 h6 h7 h8 h9
  have I' := Inv.flown (t' := t') F.inv hex hst F.new stay up
  refine ⟨T', I', fun b z => ?_, oe, vs, a0, oT, ts, h1, h2, h3, h4, h6, h7, h8, h9⟩
  simp only [List.mem_cons, List.not_mem_nil, or_false] at z
  rcases z with rfl | rfl
  · exact F.new _ (by simp)
  · cases e : s.heap.get? b with
    | none =>
      have q := Inv.nowhere F.inv hex e
      refine ⟨q.1, ?_, q.2⟩
      cases e2 : H b with
      | none => rfl
      | some u =>
        refine el_1_1 ((F.inv.hok b u e2).got) ?_; intro o e1
        rw [e] at e1; cases e1
    | some o =>
      by_cases hb : b ∈ [a, T]
      · exact F.new b hb
      · by_cases hf : b ∈ frs X.stack
        · obtain ⟨_, o', e', d⟩ := F.inv.stack.mem hf
          refine el_1_1 (up b o' e' d) ?_; intro sl e2
          rw [h7] at e2; cases e2
          exact absurd h8 (d ts)
        · have z := PySem.W.hideAll_get ([a, T] ++ frs X.stack) e fun z => (List.mem_append.mp z).elim hb hf
          rw [h5] at z; cases z
end
noncomputable abbrev _root_.L2.Cx.mark (X : Cx) (a : Addr) : Cx := { X with A := X.A.mark (some (.ref a)), calm := false, xe := fun _ _ => False }
section
variable {X : Cx} {pins : List (Addr × Obj)} {σ : St} {H : Hp} {s : Shared}
theorem Cx.Ok.mark {a : Addr} (ok : X.Ok) : (X.mark a).Ok :=
  ⟨ok.mod, ok.kind, ok.glob, ok.blt, ok.above, ok.inj, ok.has, ok.cab, (fun z => (nomatch z)), ok.frames, ok.stk, ok.exf, ok.bs, ok.bsz, ok.noex, ok.exfs, ok.funs, ok.frf⟩
theorem Cx.Ok.unmark {a : Addr} (hd : X.calm = true → X.A.handled = none) (ok : (X.mark a).Ok) : X.Ok :=
  ⟨ok.mod, ok.kind, ok.glob, ok.blt, ok.above, ok.inj, ok.has, ok.cab, hd, ok.frames, ok.stk, ok.exf, ok.bs, ok.bsz, ok.noex, ok.exfs, ok.funs, ok.frf⟩
theorem Inv.mark (a : Addr) (I : Inv X pins σ H s) : Inv (X.mark a) pins σ H s := ⟨Cx.Ok.mark I.ok, I.os, I.bare, I.base, I.loc, I.cell, I.free, I.freeC, I.pin, I.hok, I.len⟩
theorem Inv.unmark {a : Addr} (hd : X.calm = true → X.A.handled = none) (I : Inv (X.mark a) pins σ H s) : Inv X pins σ H s := ⟨Cx.Ok.unmark hd I.ok, I.os, I.bare, I.base, I.loc, I.cell, I.free, I.freeC, I.pin, I.hok, I.len⟩
end
section
variable {X : Cx} {pins : List (Addr × Obj)} {σ : St} {H : Hp} {s : Shared} {a T : Addr} {cls : Value}
theorem Fly.frames (F : Fly X pins σ H s a T cls) (hst : X.stack = X.env :: X.outer) : s.heap.FunFrames (PySem.W.hideAll s.heap ([a, T] ++ frs X.stack)) (X.env :: X.outer) := by
  have h := PySem.W.funFrames_hide (as := [a, T] ++ frs X.stack) F.inv.stack fun env he b hb => List.mem_append_right _ (List.mem_filterMap.mpr ⟨env, he, hb⟩)
  rw [hst] at h ⊢
  exact h
theorem Fly.traced (F : Fly X pins σ H s a T cls) : ∃ a0, s.heap.TracedW (PySem.W.hideAll s.heap ([a, T] ++ frs X.stack)) a cls a0 := by
  refine el_5_8 (F.tr) ?_; intro oe vs a0 oT ts t1 t2 t3 t4 t5 t6 t7 t8
  exact in_eeeeeecccccccc a0 oe vs T oT ts t1 t2 t3 t4 (PySem.W.hideAll_none _ (by simp)) t5 t6 t7 t8
theorem Fly.look {Q : Flow → Shared → Prop} {E : Value → Shared → Prop} {hs : List ExceptHandler} (F : Fly X pins σ H s a T cls) (hex : X.ex = []) (hst : X.stack = X.env :: X.outer) (hf : X.env.frame = some X.env.locals)
    (k : ∀ h' T', Fly X pins σ H { s with heap := h' } a T' cls → wpAny (model X.prog X.w) X.A (handleBy (.ref a) X.env hs) Q E { s with heap := h' }) :
    wpAny (model X.prog X.w) X.A (noteFrame (.ref a) X.env) (fun _ s₂ => wpAny (model X.prog X.w) X.A (setFlight (.ref a) none) (fun _ s₃ => wpAny (model X.prog X.w) X.A (handleBy (.ref a) X.env hs) Q E s₃) E s₂) E s := by
  refine el_1_1 (F.traced) ?_; intro a0 tr
  refine wpAny_noteFrame_onW (outer := X.outer) (by rw [← hst]; exact F.inv.ok.frames) (F.frames hst) hf tr (fun b o z => PySem.W.of_hideAll _ z) (PySem.W.hideAll_none _ (by simp)) fun h1 hN => ?_
  refine el_0_4 hN ?_; clear hN; intro k1 k2 k3 k4
  refine wpAny_setFlight_noneW (s := { s with heap := h1 }) k1 k2 k3 fun h2 j1 j2 j3 j4 => ?_
  obtain ⟨T', F'⟩ := F.next (t' := s.toks) hex hst j1 (fun b o e d => let ⟨sl, e1⟩ := k4 b o e d; ⟨sl, j4 b _ e1 d⟩) j3
  exact k h2 T' F'
theorem Fly.again {A : Around} {Q : Unit → Shared → Prop} {E : Value → Shared → Prop} (F : Fly X pins σ H s a T cls) (hex : X.ex = []) (hst : X.stack = X.env :: X.outer) (k : ∀ h' T', Fly X pins σ H { s with heap := h' } a T' cls → Q () { s with heap := h' }) :
    wpAny (model X.prog X.w) A (setFlight (.ref a) none) Q E s := by
  refine el_1_1 (F.traced) ?_; intro a0 tr
  refine wpAny_setFlight_noneW (fun b o z => PySem.W.of_hideAll _ z) (F.frames hst) tr.at fun h2 j1 j2 j3 j4 => ?_
  refine el_1_1 (F.next (t' := s.toks) hex hst j1 (fun b o e d => ⟨o.slots, j4 b _ e d⟩) j3) ?_; intro T' F'
  exact k h2 T' F'
noncomputable def isaIn (K : PySem.W.Frag) (C : Addr) (v : Value) : Option Bool := match K.lookup C with
  | some ⟨_, _, .cls cd, _⟩ => some (cd.mro.contains v)
  | _ => none
abbrev bmVE : List Value := [.type "ValueError", .type "Exception", .type "BaseException", .type "object"]
structure IsA (K : PySem.W.Frag) (C F : Addr) (b : Bool) : Prop where
  c : PySem.W.excIn K C bmVE "ValueError.__new__" = true
  f : PySem.W.excIn K F bmVE "ValueError.__new__" = true
  m : isaIn K C (.ref F) = some b
theorem wpAny_excMatches_own {M : Model} {A : Around} {E : Value → Shared → Prop} {h : Heap} {g : Array GenState} {d : Drawn} {t : Nat} {os : OsState} {e C F N N' : Addr} {oe : Obj} {Q : Bool → Shared → Prop} {nm q nm' q' : Str} {bs bm bs' bm' : List Value} {hdct hdct' : Bool} {sn sn' : List Str} {sub sub' : List Value} {ab ab' : Bool} {col col' : Option Bool} {dd dd' : Option Addr} {k0 k1 k2 k3 k5 l0 l1 l2 l3 l5 : Option Value} {newId newId' : String} {b : Bool}
    (hC : h.get? C = some (excClassObj nm q C N bs bm hdct sn sub ab col dd k0 k1 k2 k3 k5 newId)) (hF : h.get? F = some (excClassObj nm' q' F N' bs' bm' hdct' sn' sub' ab' col' dd' l0 l1 l2 l3 l5 newId')) (he : h.get? e = some oe) (hcls : oe.cls = .ref C) (hbase : bm'.contains (.type "BaseException") = true)
    (hb : (Value.ref C :: bm).contains (.ref F) = b) (hq : Q b ⟨h, g, d, t, os⟩) : wpAny M A (excMatches (.ref e) (.ref F)) Q E ⟨h, g, d, t, os⟩ := by
  have hcB : (Value.ref F :: bm').contains (.type "BaseException") = true := by rw [List.contains_cons, hbase, Bool.or_true]
  have f := tc_notTuple
  unfold excMatches
  repeat (first | (with_reducible refine wpAny_loadPart_at he ?_; rw [hcls]) | with_reducible refine wpAny_loadPart_at hF ?_ | with_reducible refine wpAny_loadPart_at hC ?_ | (with_reducible refine wpAny_isSubtype_exc hF ?_; rw [hcB]) | (with_reducible refine wpAny_isSubtype_exc hC ?_; rw [hb]) | wp_step)
  cases b <;> (wp_walk; exact hq)
end
end DL
namespace DL
open PySem PySem.Spec PyProof.Rows L2
section
variable {X : Cx} {pins : List (Addr × Obj)} {σ : St} {H : Hp} {s : Shared}
theorem isa_mro {K : PySem.W.Frag} {h : Heap} {C N : Addr} {v : Value} {b : Bool} {nm q : Str} {bs bm : List Value} {hdct : Bool} {sn : List Str} {sub : List Value} {ab : Bool} {col : Option Bool} {dd : Option Addr} {k0 k1 k2 k3 k5 : Option Value} {newId : String} (X : K.In h) (m : isaIn K C v = some b)
    (hC : h.get? C = some (excClassObj nm q C N bs bm hdct sn sub ab col dd k0 k1 k2 k3 k5 newId)) : (Value.ref C :: bm).contains v = b := by
  unfold isaIn at m
  split at m
  · rename_i ho
    have e := X _ _ ho
    rw [hC] at e
    cases e
    exact Option.some.inj m
  · cases m
theorem Inv.goes {M : Model} {A : Around} {E : Value → Shared → Prop} {Q : Unit → Shared → Prop} {i : Nat} {n : Str} {pos : Pos} (I : Inv X pins σ H s) (hl : X.env.kindOf n = some .local) (hN : X.N.Nodup) (hi : X.N[i]? = some n)
    (k : ∀ s', Inv X pins (σ.set i none) H s' → Q () s') : wpAny M A (do bindName X.env n .none; unbindBehindTheSuite X.env n pos) Q E s := by
  refine el_1_2 (id I.loc) ?_; intro m hn hlk
  have hcls : (X.env.scope.kind == .class || (X.env.scope.kind == .module && X.env.locals != X.env.globals)) = false := by rw [I.ok.kind]; rfl
  have hiσ : i < σ.length := by rw [I.len]; exact (List.getElem?_eq_some_iff.mp hi).1
  have cne := I.cne
  refine wpAny_nameGoes_keeps hl hn hcls fun h' v hn' hs => ?_
  have ne0 : ∀ b o, X.s₀.heap.get? b = some o → b ≠ X.env.locals := fun b o e => Nat.ne_of_lt (Nat.lt_of_lt_of_le (Heap.lt_size e) I.ok.above)
  refine k _ ⟨I.ok, I.os, I.bare, ⟨fun b o e n hb hx => ?_, fun b o e n hb hx => ?_, I.base.free, fun b o e hx => ?_, I.base.tups, I.base.frzs, I.base.tbls⟩, ⟨_, hn', fun j y v' e1 e2 e3 => ?_⟩, fun y c e => ?_, I.free, I.freeC, fun p hp => ?_, fun b u e => ?_, by simpa using I.len⟩
  · exact (hs.2 b (ne0 b o e)).trans (I.base.keep b o e n hb hx)
  · refine el_1_1 (I.base.slot b o e n hb hx) ?_; intro sl e1
    exact ⟨sl, (hs.2 b (ne0 b o e)).trans e1⟩
  · refine el_1_1 (I.base.there b o e hx) ?_; intro o' e1
    exact ⟨o', (hs.2 b (ne0 b o e)).trans e1⟩
  · by_cases hj : j = i
    · subst hj
      rw [List.getElem?_set_self hiσ] at e2
      cases e2
    · rw [List.getElem?_set_ne (Ne.symm hj)] at e2
      refine el_1_2 (hlk j y v' e1 e2 e3) ?_; intro u' r' q
      refine in_ec u' r' ?_
      rcases q with ⟨k, e⟩ | ⟨k, c, e, z⟩
      · refine .inl ⟨k, ?_⟩
        have : y ≠ n := fun e => hj (nodup_ix hN e1 (e ▸ hi))
        simp [this, e]
      · exact .inr ⟨k, c, e, z.sameBut hs (cne y c e)⟩
  · refine el_1_1 (I.cell y c e) ?_; intro w' z
    exact ⟨w', z.sameBut hs (cne y c e)⟩
  · refine el_0_5 (I.pin p hp) ?_; intro e n ne nf d
    exact ⟨(hs.2 p.1 ne).trans e, n, ne, nf, d⟩
  · refine (I.hok b u e).stay (fun c w' hc q => (hs.2 c ?_).trans q) (fun _ q => q) fun _ _ q => q
    rintro rfl
    rcases hc with rfl | hc
    · rw [I.free] at e; cases e
    · rw [I.free] at hc; cases hc
theorem Inv.track {a : Addr} {φ : Heap → Prop} (I : Inv X pins σ H s) (new : X.s₀.heap.get? a = none ∧ H a = none ∧ a ≠ X.env.locals ∧ (∀ x c, X.env.cells.lookup x = some c → c ≠ a) ∧ ∀ p ∈ X.pn ++ pins, p.1 ≠ a) (hφ : φ s.heap) (hob : ∃ o, s.heap.get? a = some o) (hst : ∀ h1 h2 : Heap, φ h1 → (∀ o, h1.get? a = some o → h2.get? a = some o) → φ h2) :
    Inv X pins σ (upd H a (.ext φ)) s := by
  refine el_0_5 new ?_; clear new; intro n0 na nl nc np
  have other : ∀ b u, H b = some u → upd H a (.ext φ) b = some u := fun b u e => by rw [upd_ne (ne_of_none e na)]; exact e
  refine ⟨I.ok, I.os, I.bare, ⟨I.base.keep, I.base.slot, fun b o e n hx => ?_, I.base.there, fun b xs e => other b _ (I.base.tups b xs e), fun b o u e => other b _ (I.base.frzs b o u e), fun b ps e => ?_⟩, I.loc, I.cell, ?_, fun x c e => ?_, fun p hp => ?_, fun b u e => ?_, I.len⟩
  · rw [upd_ne (by intro z; subst z; rw [n0] at e; cases e)]; exact I.base.free b o e n hx
  · refine el_1_1 (I.base.tbls b ps e) ?_; intro more e1
    exact ⟨more, other b _ e1⟩
  · rw [upd_ne (Ne.symm nl)]; exact I.free
  · rw [upd_ne (nc x c e)]; exact I.freeC x c e
  · refine el_0_3 (I.pin p hp) ?_; intro e n r
    exact ⟨e, by rw [upd_ne (np p hp)]; exact n, r⟩
  · by_cases hb : b = a
    · subst hb; rw [upd_same] at e; cases e; exact ⟨hφ, hob, hst⟩
    · rw [upd_ne hb] at e
      exact (I.hok b u e).stay (fun _ _ _ q => q) (fun c q => other c _ q) fun c xs q => other c _ q
theorem SAbs.drop {K : PySem.W.Frag} {τ : DSt} {i : Nat} (h : SAbs K τ σ H) : SAbs K (τ.set i none) (σ.set i none) H := by
  refine ⟨by rw [List.length_set, List.length_set]; exact h.1, fun j e q => ?_⟩
  rw [List.getElem?_set] at q
  by_cases hj : i = j
  · subst hj
    rw [if_pos rfl] at q
    split at q <;> cases q
  · rw [if_neg hj] at q
    refine el_1_2 (h.2 j e q) ?_; intro u h1 h2
    exact in_ec u (by rw [List.getElem?_set, if_neg hj]; exact h1) h2
end
noncomputable def PH (X : Cx) (hs : List ExceptHandler) (th : Value → TSd) : Prop := ∀ (pins : List (Addr × Obj)) (s : Shared) (σ : St) (H : Hp) (D : Ends) (a T : Addr) (cls : Value), Fly X pins σ H s a T cls → lowS X.K (th cls) D σ H → wpAny (model X.prog X.w) X.A (handleBy (.ref a) X.env hs) (SP X pins D) X.xe s
noncomputable def hNone : Value → TSd := fun _ _ _ _ => False
noncomputable def endsAs (i : Nat) (D : EndsD) : EndsD := { nx := fun τ M => D.nx (τ.set i none) M, rt := D.rt, bk := fun τ M => D.bk (τ.set i none) M, ct := fun τ M => D.ct (τ.set i none) M }
noncomputable def hCatchAs (K : PySem.W.Frag) (F : Addr) (i : Nat) (ts : TSd) (tr : Value → TSd) : Value → TSd := fun cls D τ M => ∃ C b, cls = .ref C ∧ IsA K C F b ∧ if b = true then ∀ p, M p = none → ts (endsAs i D) (τ.set i (some (.ref p))) (updM M p (.exc cls)) else tr cls D τ M
section
variable {X : Cx} {y : Str} {F : Addr} {np hpos : Pos} {b₀ : Stmt} {body : List Stmt} {ts : TSd} {rest : List ExceptHandler} {tr : Value → TSd}
theorem h_none : PH X [] hNone := fun _ _ _ _ _ _ _ _ _ ⟨_, _, _, _, _, h, _⟩ => h.elim
theorem h_catchAs {i : Nat} {n : Str} (hex : X.ex = []) (hst : X.stack = X.env :: X.outer) (hc : X.calm = true) (hN : X.N.Nodup) (nm : X.mg y = some (.ref F)) (hsuite : ∀ a, PSs (X.mark a) (b₀ :: body) (lowS X.K ts)) (hrest : PH X rest tr) (hi : X.N[i]? = some n := by rfl) (hl : X.env.scope.names.lookup n = some .local := by rfl) (hl' : X.env.kindOf n = some .local := by rfl) (hg : Gl X y := by rfl) (hdb : (y == ("__debug__" : Str)) = false := by decide) :
    PH X (.ExceptHandler (some (.Name y np)) (some n) (b₀ :: body) hpos :: rest) (hCatchAs X.K F i ts tr) := by
  intro pins s σ H D a T cls FL zr204
  refine el_3_4 zr204 ?_; clear zr204; intro τ M D' hs hm zq205 hd'
  refine el_2_3 zq205 ?_; clear zq205; intro C b hcl isa q
  subst hcl
  have I := FL.inv
  refine el_17_4 (exc_obj I.mod.kin isa.c) ?_; intro bm N nmC qn bs hdct sn sub ab col dd k0 k1 k2 k3 k5 mN hC _ _ _
  refine el_17_4 (exc_obj I.mod.kin isa.f) ?_; intro bm' N' nm' qn' bs' hdct' sn' sub' ab' col' dd' l0 l1 l2 l3 l5 mN' hF _ _ TL'
  refine el_5_3 (id FL.tr) ?_; intro oe vs a0 oT ts' t1 zq206 _
  refine el_0_2 zq206 ?_; clear zq206; intro hcls _
  have hmro := isa_mro I.mod.kin isa.m hC
  refine wpAny_handleBy_cons (codeAny_handlers_test (ld_glob (X := X.mark a) (Inv.mark a I) hg nm ?_ hdb)) (by intro q; cases q)
  refine wpAny_excMatches_own (g := s.gens) (d := s.drawn) (t := s.toks) (os := s.os) (I.bk _ _ hC) (I.bk _ _ hF) t1 hcls (TL'.hasType rfl) hmro ?_
  cases b with
  | false => exact hrest pins _ σ H D a T (.ref C) FL ⟨τ, M, D', hs, hm, q, hd'⟩
  | true =>
    refine codeAny_handlers_suite_as (FL.again hex hst fun h' T' FL' => ?_)
    have hne := FL'.new a (by simp)
    refine store_ok2 (X := X.mark a) (v := .ref a) (Inv.mark a FL'.inv) hN hi (.inl hl) rfl (fun s2 I2 zz0 => ?_) (.inr hl)
    refine el_1_2 zz0 ?_; clear zz0; intro b hsb hb
    have hab : a ≠ b := by
      rcases hb with rfl | hb
      · exact hne.2.2.1
      · exact fun z => hne.2.2.2.1 _ _ hb z.symm
    refine el_5_3 (id FL'.tr) ?_; intro oe2 _ _ _ _ u1 zq207 _
    refine el_0_2 zq207 ?_; clear zq207; intro u2 _
    have hob2 : s2.heap.get? a = some oe2 := (hsb.2 a hab).trans u1
    have I3 := Inv.track (φ := fun h => ∃ ob, h.get? a = some ob ∧ ob.cls = .ref C) I2 hne ⟨oe2, hob2, u2⟩ ⟨oe2, hob2⟩ fun h1 h2 ⟨ob, e1, e2⟩ k => ⟨ob, k ob e1, e2⟩
    have q' : ∀ p, M p = none → ts (endsAs i D') (τ.set i (some (.ref p))) (updM M p (.exc (.ref C))) := q
    have ex : Ext X.K H (upd H a (.ext fun h => ∃ ob, h.get? a = some ob ∧ ob.cls = .ref C)) := ext_new hne.2.1
    have hM3 : HAbs X.K (updM M a (.exc (.ref C))) (upd H a (.ext fun h => ∃ ob, h.get? a = some ob ∧ ob.cls = .ref C)) := hm.newM hne.2.1 (show MOk X.K _ a (.exc (.ref C)) from ⟨_, upd_same, fun h z => z⟩)
    have hs3 : SAbs X.K (τ.set i (some (.ref a))) (σ.set i (some (.ref a))) (upd H a (.ext fun h => ∃ ob, h.get? a = some ob ∧ ob.cls = .ref C)) := (hs.mono ex).set (.ref a)
    have hrun := hsuite a pins s2 _ _ { nx := fun σ' H' => D.nx (σ'.set i none) H', rt := D.rt, bk := fun σ' H' => D.bk (σ'.set i none) H', ct := fun σ' H' => D.ct (σ'.set i none) H' } I3 ⟨_, _, endsAs i D', hs3, hM3, q' a (hm.free hne.2.1), ⟨fun τ1 M1 σ1 H1 a1 a2 a3 a4 => hd'.nx _ M1 _ H1 (SAbs.drop a1) a2 (ex.trans a3) a4, hd'.rt.ext ex, fun τ1 M1 σ1 H1 a1 a2 a3 a4 => hd'.bk _ M1 _ H1 (SAbs.drop a1) a2 (ex.trans a3) a4, fun τ1 M1 σ1 H1 a1 a2 a3 a4 => hd'.ct _ M1 _ H1 (SAbs.drop a1) a2 (ex.trans a3) a4⟩⟩
    refine wpAny_mono hrun (fun f s3 z => ?_) fun _ _ z => False.elim z
    cases f with
    | next => obtain ⟨σ', H', J, z⟩ := z; exact Inv.goes (Inv.unmark I.ok.hd J) hl' hN hi fun s4 J4 => ⟨_, H', J4, z⟩
    | brk => obtain ⟨σ', H', J, z⟩ := z; exact Inv.goes (Inv.unmark I.ok.hd J) hl' hN hi fun s4 J4 => ⟨_, H', J4, z⟩
    | cont => obtain ⟨σ', H', J, z⟩ := z; exact Inv.goes (Inv.unmark I.ok.hd J) hl' hN hi fun s4 J4 => ⟨_, H', J4, z⟩
    | ret u => obtain ⟨v, σ', H', J, r, z⟩ := z; exact Inv.goes (Inv.unmark I.ok.hd J) hl' hN hi fun s4 J4 => ⟨v, _, H', J4, r, z⟩
end
noncomputable def XP (X : Cx) (pins : List (Addr × Obj)) (σ : St) (H : Hp) (EX : Value → DH → Prop) (e : Value) (s' : Shared) : Prop := ∃ a T cls H2 M2, e = .ref a ∧ Fly X pins σ H2 s' a T cls ∧ HAbs X.K M2 H2 ∧ Ext X.K H H2 ∧ EX cls M2
section
variable {X : Cx} {e : Expr} {es : List Expr} {pos : Pos} {t : TAd}
theorem callX {k : Nat} {x : Str} {ps : List Str} {sp : SpE} {p : Pos} {pins : List (Addr × Obj)} {s : Shared} {σ : St} {H : Hp} {Q : VK} {Q' : KD} {τ : DSt} {M : DH} {EX : Value → DH → Prop} (F : FnE X.prog X.w X.K X.mg X.base k x ps sp) (hex : X.ex = []) (hr : Room k X.A) (ha : PA X.nox (e :: es) (lowA X.K t)) (hg : Gl X x) (hdb : (x == ("__debug__" : Str)) = false)
    (he : starEach (e :: es) X.env = (false, eval e X.env) :: starEach es X.env) (hpl : (backTo pos (starEach es X.env)).any (·.1) = false) (I : Inv X pins σ H s) (hs : SAbs X.K τ σ H) (hm : HAbs X.K M H) (h : t τ M fun ds M1 => sp ds M1 Q' EX) (hq : lowQ X.K H Q' Q) :
    wpAny (model X.prog X.w) X.A (eval (.Call (.Name x p) (e :: es) [] pos) X.env) (EP X pins σ Q) (XP X pins σ H EX) s := by
  refine el_2_4 (F.ex) ?_; (try clear F); intro f fd F hmg hk hb
  refine wpAny_Call_Name_kw (ld_glob I hg hmg ?_ hdb)
  have hA := ha pos pins s σ H (fun vs H1 => ∃ ds M1, HAbs X.K M1 H1 ∧ Ext X.K H H1 ∧ Iss X.K H1 vs ds ∧ sp ds M1 Q' EX) (I.wish _) ⟨τ, M, _, hs, hm, h, fun ds M1 vs H1 m1 e1 i1 h1 => ⟨ds, M1, m1, e1, i1, h1⟩⟩
  refine PySem.W.callWith_K (h₀ := X.base) I.ok.mod.kin hk (wpAny_mono hA (fun us s1 zz0 => ?_) fun _ _ z => False.elim z) he hpl
  refine el_2_3 zz0 ?_; clear zz0; intro vs H1 I1 r zq208
  refine el_2_4 zq208 ?_; clear zq208; intro ds M1 m1 e1 i1 h1
  refine ⟨I1.unwish.kIn, ?_⟩
  have J1 := I1.unwish
  have h2 : lowSpE X.K sp vs H1 Q fun cls _ H2 => ∃ M2, HAbs X.K M2 H2 ∧ EX cls M2 := ⟨ds, M1, Q', EX, i1, m1, h1, hq.ext e1, fun cls M2 H2 m2 _ q => ⟨M2, m2, q⟩⟩
  have hl : us.length = ps.length := by rw [← r.length]; exact F.len _ _ _ _ h2
  have hbn := hb s1 us J1.kIn (by rw [List.append_nil]; exact hl)
  rw [List.append_nil] at hbn
  refine wpAny_call (codeAny_mono (F.run X.A X.stack s1 H1 ⟨us, []⟩ us vs Q _ hr J1.env0 hbn r h2) fun rr s' hq' => ?_)
  cases rr with
  | error e =>
    obtain ⟨a, T, cls, H2, ea, FL, ex, M2, m2, q2⟩ := fly_of (E1 := fun cls _ H2 => ∃ M2, HAbs X.K M2 H2 ∧ EX cls M2) J1 hex hq'
    exact in_eeeeecccc a T cls H2 M2 ea FL m2 (e1.trans ex) q2
  | ok fl =>
    cases fl with
    | ret u => exact J1.after hq'
    | next => exact False.elim hq'
    | brk => exact False.elim hq'
    | cont => exact False.elim hq'
noncomputable def sTryE (sp : SpE) (t : TAd) (th : Value → TSd) : TSd := fun D τ M => t τ M fun ds M1 => sp ds M1 (fun _ M2 => D.nx τ M2) fun cls M2 => ∃ M0, Sub M0 M2 ∧ th cls D τ M0
theorem came_in {h₀ : ExceptHandler} {hs : List ExceptHandler} {th : Value → TSd} {pins : List (Addr × Obj)} {σ : St} {H : Hp} {D : Ends} {D' : EndsD} {τ : DSt} {v : Value} {s' : Shared} (hex : X.ex = []) (hst : X.stack = X.env :: X.outer) (hf : X.env.frame = some X.env.locals) (hh : PH X (h₀ :: hs) th) (hS : SAbs X.K τ σ H) (hd : LowD X.K H D' D)
    (h : XP X pins σ H (fun cls M2 => ∃ M0, Sub M0 M2 ∧ th cls D' τ M0) v s') : wpAny (model X.prog X.w) X.A (noteFrame v X.env) (fun _ s₂ => wpAny (model X.prog X.w) X.A (setFlight v none) (fun _ s₃ => wpAny (model X.prog X.w) X.A (handleBy v X.env (h₀ :: hs)) (SP X pins D) X.xe s₃) X.xe s₂) X.xe s' := by
  obtain ⟨a, T, cls, H2, M2, rfl, FL, m2, e2, M0, sub, q⟩ := h
  exact FL.look hex hst hf fun h' T' FL' => hh pins _ σ H2 D a T' cls FL' ⟨τ, M0, D', hS.mono e2, m2.sub sub, q, hd.ext e2⟩
theorem s_tryE {k : Nat} {x : Str} {ps : List Str} {sp : SpE} {p ep tpos : Pos} {h₀ : ExceptHandler} {hs : List ExceptHandler} {th : Value → TSd} (F : FnE X.prog X.w X.K X.mg X.base k x ps sp) (hex : X.ex = []) (hst : X.stack = X.env :: X.outer) (hf : X.env.frame = some X.env.locals) (hr : Room k X.A) (ha : PA X.nox (e :: es) (lowA X.K t)) (hh : PH X (h₀ :: hs) th)
    (hg : Gl X x := by rfl) (hdb : (x == ("__debug__" : Str)) = false := by decide) (he : starEach (e :: es) X.env = (false, eval e X.env) :: starEach es X.env := by rfl) (hpl : (backTo pos (starEach es X.env)).any (·.1) = false := by rfl)
    (hsw : swapsWith (.Call (.Name x p) (e :: es) [] pos) none ep.line X.env = pure false := by rfl) : PS X (.Try [.Expr (.Call (.Name x p) (e :: es) [] pos) ep] (h₀ :: hs) [] [] tpos) (lowS X.K (sTryE sp t th)) := by
  intro pins s σ H D I zr209
  refine el_3_4 zr209 ?_; clear zr209; intro τ M D' hS hm h hd
  refine wpAny_Try_except (wpAny_mono (E := XP X pins σ H fun cls M2 => ∃ M0, Sub M0 M2 ∧ th cls D' τ M0) (Q := fun f s1 => f = .next ∧ ∃ H1, Inv X pins σ H1 s1 ∧ D.nx σ H1) ?_ (fun f s1 z => ?_) fun v s' z => came_in hex hst hf hh hS hd z)
  · have hc := callX (p := p) (pos := pos) (Q := fun _ H1 => D.nx σ H1) (Q' := fun _ M2 => D'.nx τ M2) F hex hr ha hg hdb he hpl I hS hm h (fun d M1 v H1 m1 e1 i1 q => hd.nx τ M1 σ H1 (hS.mono e1) m1 e1 q)
    refine wpAny_execs_cons (wpAny_Expr_any (wpAny_mono hc (fun v s1 zz0 => ?_) fun _ _ z => z) I.quiet hsw)
    refine el_2_3 zz0 ?_; clear zz0; intro y H1 I1 r1 q1
    exact wpAny_execs_nil ⟨rfl, H1, I1, q1⟩
  · obtain ⟨rfl, H1, I1, q1⟩ := z
    exact wpAny_execs_nil ⟨σ, H1, I1, q1⟩
end
end DL
namespace DL
open PySem PySem.Spec PyProof.Rows L2
section
variable {prog : Program} {w : World} {A : Around} {E : Value → Shared → Prop} {h : Heap} {g : Array GenState} {d : Drawn} {t : Nat} {os : OsState} {a : Addr} {o : Obj}
  {nm q : Str} {C N : Addr} {bs bm : List Value} {hdct : Bool} {sn : List Str} {sub : List Value} {ab : Bool} {col : Option Bool} {dd : Option Addr} {k0 k1 k2 k3 k5 : Option Value} {newId : String}
theorem class_get_exc {R : Result → Shared → Prop} (hC : h.get? C = some (excClassObj nm q C N bs bm hdct sn sub ab col dd k0 k1 k2 k3 k5 newId)) (ho : bm.contains (.type "object") = true) (hx : h.get? a = some o) (hc : o.cls = .ref C) (hq : R (.ok (.ret (.ref C))) ⟨h, g, d, t, os⟩) :
    codeAny (model prog w) A (.call (.builtin "getset_descriptor.__get__") ⟨[.builtin "object.__class__", .ref a, .ref C], []⟩) R ⟨h, g, d, t, os⟩ := by
  have hT5 : (⟨h, g, d, t, os⟩ : Shared).TypeIs (.builtin "object.__class__") "getset_descriptor" := F.typeOf_object_class
  have hcB : (Value.ref C :: bm).contains (.type (".".intercalate ("object.__class__".cutAt '.').dropLast)) = true := by
    rw [F.owner_object_class, List.contains_cons, ho]; rfl
  refine codeAny_call_builtin F.slot_gs_get.plain F.entry_gs_get (F.slot_gs_get.check _ _ _ _ _ _ _ _ hT5 (F.args_gs_get _ _ _) ?_)
  repeat (any_goals (first | assumption | (with_reducible refine wpAny_loadPart_at hx ?_; rw [hc]) | (with_reducible refine wpAny_isSubtype_exc hC ?_; rw [hcB]) | wp_step))
  refine ⟨Code.quiet_builtin _ (by decide +kernel), codeAny_builtin F.entry_object_class ?_⟩
  repeat (any_goals (first | assumption | (with_reducible refine wpAny_loadPart_at hx ?_; rw [hc]) | wp_step))
theorem class_entry_exc {tk : Tok} {Q : Fin → Shared → Prop} (hC : h.get? C = some (excClassObj nm q C N bs bm hdct sn sub ab col dd k0 k1 k2 k3 k5 newId)) (ho : bm.contains (.type "object") = true) (L : PySem.W.Looks (model prog w) h (typeLookup (.ref C) "__class__") (some (.builtin "object.__class__")))
    (hx : h.get? a = some o) (hc : o.cls = .ref C) (hq : Q (.done (.ret (.ref C))) ⟨h, g, d, t, os⟩) :
    wpAny (model prog w) A (Builtin.«object.__getattribute__» ⟨[.ref a, .str "__class__" tk], []⟩) Q E ⟨h, g, d, t, os⟩ := by
  have hT5 : (⟨h, g, d, t, os⟩ : Shared).TypeIs (.builtin "object.__class__") "getset_descriptor" := F.typeOf_object_class
  have f5 := F.typeOf_object_class
  have f6 := F.slot_gs_get.lookup
  have f7 := F.slot_gs_set.lookup
  repeat (any_goals (first | assumption | (with_reducible refine wpAny_loadPart_at hx ?_; rw [hc]) | with_reducible refine L.at ?_ | wp_step))
  refine class_get_exc hC ho hx hc ?_
  repeat (any_goals (first | assumption | wp_step))
theorem check_ga_exc {M : Model} {nameV : Value} {Q : Unit → Shared → Prop} (hC : h.get? C = some (excClassObj nm q C N bs bm hdct sn sub ab col dd k0 k1 k2 k3 k5 newId)) (hb : bm.contains (.type "BaseException") = true)
    (hx : h.get? a = some o) (hc : o.cls = .ref C) (hq : Q () ⟨h, g, d, t, os⟩) : wpAny M A (checkBuiltinCall "BaseException.__getattribute__" ⟨[.ref a, nameV], []⟩) Q E ⟨h, g, d, t, os⟩ := by
  have hk : builtinKind "BaseException.__getattribute__" = some .slot := by decide +kernel
  have hsplit : splitId "BaseException.__getattribute__" = some ("BaseException", "__getattribute__") := by decide +kernel
  have hcB : (Value.ref C :: bm).contains (.type "BaseException") = true := by rw [List.contains_cons, hb]; rfl
  have ha := F.args_bexc_ga (.ref a) nameV
  simp only [checkBuiltinCall, hk, hsplit]
  refine wpAny_bind ?_
  · unfold isInstance
    repeat (first | (with_reducible refine wpAny_loadPart_at hx ?_; rw [hc]) | (with_reducible refine wpAny_isSubtype_exc hC ?_; rw [hcB]) | wp_step)
    exact hq
theorem class_by_exc {tk : Tok} {fill expr : Bool} {Q : Value → Shared → Prop} (hC : h.get? C = some (excClassObj nm q C N bs bm hdct sn sub ab col dd k0 k1 k2 k3 k5 newId)) (ho : bm.contains (.type "object") = true) (hb : bm.contains (.type "BaseException") = true)
    (L : PySem.W.Looks (model prog w) h (typeLookup (.ref C) "__class__") (some (.builtin "object.__class__"))) (L1 : PySem.W.Looks (model prog w) h (typeLookup (.ref C) "__getattribute__") (some (.builtin "BaseException.__getattribute__"))) (L2 : PySem.W.Looks (model prog w) h (typeLookup (.ref C) "__getattr__") none)
    (hx : h.get? a = some o) (hc : o.cls = .ref C) (hq : Q (.ref C) ⟨h, g, d, t, os⟩) : wpAny (model prog w) A (getAttrBy (.ref a) (.str "__class__" tk) fill expr) Q E ⟨h, g, d, t, os⟩ := by
  have f3 := F.excAttr_ValueError.ga.bind (.ref a)
  have hx0 : (expr && onTheHeap (Value.builtin "BaseException.__getattribute__")) = false := by cases expr <;> rfl
  have hx2 : (Value.builtin "BaseException.__getattribute__" == Value.builtin "object.__getattribute__") = false := by decide +kernel
  have hx1 : (onTheHeap (Value.ref C) && Value.builtin "BaseException.__getattribute__" == Value.builtin "object.__getattribute__") = false := by rw [hx2]; rfl
  repeat (any_goals (first | assumption | (with_reducible refine wpAny_loadPart_at hx ?_; rw [hc]) | with_reducible refine L1.at ?_ | with_reducible refine L2.at ?_ | wp_step))
  refine codeAny_call_builtin F.excAttr_ValueError.ga.plain F.entry_bexc_ga (check_ga_exc hC hb hx hc (class_entry_exc hC ho L hx hc ?_))
  repeat (any_goals (first | assumption | wp_step))
theorem class_attr_exc {Q : Option Value → Shared → Prop} (hC : h.get? C = some (excClassObj nm q C N bs bm hdct sn sub ab col dd k0 k1 k2 k3 k5 newId)) (ho : bm.contains (.type "object") = true) (hb : bm.contains (.type "BaseException") = true)
    (L : PySem.W.Looks (model prog w) h (typeLookup (.ref C) "__class__") (some (.builtin "object.__class__"))) (L1 : PySem.W.Looks (model prog w) h (typeLookup (.ref C) "__getattribute__") (some (.builtin "BaseException.__getattribute__"))) (L2 : PySem.W.Looks (model prog w) h (typeLookup (.ref C) "__getattr__") none)
    (hx : h.get? a = some o) (hc : o.cls = .ref C) (hq : Q (some (.ref C)) ⟨h, g, d, t + 1, os⟩) : wpAny (model prog w) A (getAttr? (.ref a) "__class__") Q E ⟨h, g, d, t, os⟩ := by
  unfold getAttr? getAttrBy?
  repeat (any_goals (first | assumption | with_reducible apply class_by_exc hC ho hb L L1 L2 hx hc | wp_step))
end
structure XCl (K : PySem.W.Frag) (C : Addr) : Prop where
  ow : PySem.W.excIn K C bmVE "ValueError.__new__" = true
  f1 : PySem.W.findIn K (.ref C) "__class__" = some (some (.builtin "object.__class__"))
  f2 : PySem.W.findIn K (.ref C) "__getattribute__" = some (some (.builtin "BaseException.__getattribute__"))
  f3 : PySem.W.findIn K (.ref C) "__getattr__" = some none
theorem kitx_exc {K : PySem.W.Frag} {C a : Addr} (x : XCl K C) : PySem.W.KitX K (.ref a) (.ref C) (fun h => ∃ ob, h.get? a = some ob ∧ ob.cls = .ref C) where
  ty := fun M h _ ⟨o, h1, h2⟩ => h2 ▸ (PySem.W.Looks.ld h1).andThen .now
  it := fun _ _ X _ => by
    refine el_17_4 (exc_obj X x.ow) ?_; intro bm N nmC qn bs hdct sn sub ab col dd k0 k1 k2 k3 k5 mN hC _ _ _
    intro A' Q' E' s' k q
    unfold isType PySem.loadHead
    exact wpAny_bind (wpAny_loadPart (k _ _ hC) (wpAny_pure q))
  ne := fun h tp dd its n sl X htp => by
    refine el_17_4 (exc_obj X x.ow) ?_; intro bm N nmC qn bs hdct sn sub ab col dd' k0 k1 k2 k3 k5 mN hC _ _ _
    refine Bool.eq_false_iff.mpr fun q => ?_
    have e : C = tp := Value.ref.inj (beq_iff_eq.mp q)
    subst e
    rw [hC] at htp
    have z := congrArg Obj.data (Option.some.inj htp)
    simp at z
  ca := fun {prog w A E Q s} X ⟨o, h1, h2⟩ k => by
    refine el_17_4 (exc_obj X x.ow) ?_; intro bm N nmC qn bs hdct sn sub ab col dd' k0 k1 k2 k3 k5 mN hC _ _ TL
    obtain ⟨h, g, d, t, os⟩ := s
    exact class_attr_exc hC (TL.hasType rfl) (TL.hasType rfl) (PySem.W.looks_findIn X x.f1) (PySem.W.looks_findIn X x.f2) (PySem.W.looks_findIn X x.f3) h1 h2 k
noncomputable def isiED (K : PySem.W.Frag) : List D → DH → KD → Prop
  | [.ref p, .ref F], M, Q => ∃ C b, M p = some (.exc (.ref C)) ∧ XCl K C ∧ PySem.W.kitOne K (.ref C) (.ref F) = some b ∧ Q (.bl b) M
  | [.ref p, .ty T], M, Q => ∃ C b, M p = some (.exc (.ref C)) ∧ XCl K C ∧ PySem.W.kitOne K (.ref C) (.type T) = some b ∧ Q (.bl b) M
  | _, _, _ => False
theorem cd_isiE {X : Cx} {K : PySem.W.Frag} (hK : X.K = K) : CallD X (.builtin "isinstance") (isiED K) := by
  subst hK
  intro pins s σ H vs us Q I r zr210
  refine el_3_4 zr210 ?_; clear zr210; intro ds M Q' iss hm q hq
  match ds, q, iss with
  | [.ref p, .ref F], q, iss =>
    refine el_2_3 (iss2 iss) ?_; intro v v' zq211 h1 h2
    obtain rfl := zq211
    (first | cases h1.inv | cases h1); (first | cases h2.inv | cases h2)
    refine el_2_3 (vals2 r) ?_; intro u w' zq212 r1 r2
    obtain rfl := zq212
    cases r1; cases r2
    refine el_2_4 q ?_; clear q; intro C b hp xc hk q
    refine el_1_2 (hm p _ hp) ?_; intro φ e1 e2
    exact PySem.W.kia_one (kitx_exc xc) I.kIn (e2 _ (I.hok p _ e1).1) hk (fun z => nomatch z) fun tk => ⟨.bl _, H, I.tok tk, rfl, hq.here hm (.bl _) q⟩
  | [.ref p, .ty T], q, iss =>
    refine el_2_3 (iss2 iss) ?_; intro v v' zq213 h1 h2
    obtain rfl := zq213
    (first | cases h1.inv | cases h1); (first | cases h2.inv | cases h2)
    refine el_2_3 (vals2 r) ?_; intro u w' zq214 r1 r2
    obtain rfl := zq214
    cases r1; cases r2
    refine el_2_4 q ?_; clear q; intro C b hp xc hk q
    refine el_1_2 (hm p _ hp) ?_; intro φ e1 e2
    exact PySem.W.kia_one (kitx_exc xc) I.kIn (e2 _ (I.hok p _ e1).1) hk (fun z => nomatch z) fun tk => ⟨.bl _, H, I.tok tk, rfl, hq.here hm (.bl _) q⟩
theorem d_cls {X : Cx} {x : Str} {C : Addr} {pos : Pos} (hg : Gl X x) (hm : X.mg x = some (.ref C)) (hd : (x == ("__debug__" : Str)) = false := by decide) : PE X (.Name x pos) (low X.K (eC (.ref C))) :=
  (pe_glob (v := .ref C) hg hm rfl hd).imp fun _ _ _ h => low_const (fun _ => .ref C) h
theorem bt_ValueError : bootBuiltins "ValueError" = some (.type "ValueError") := by decide +kernel
noncomputable def cl (mg : Str → Option Value) (x : Str) : Addr := match mg x with
  | some (.ref C) => C
  | _ => 0
theorem cl_of {mg : Str → Option Value} {x : Str} {C : Addr} (h : mg x = some (.ref C)) : cl mg x = C := by unfold cl; rw [h]
noncomputable def kitTab (K : PySem.W.Frag) (cs : List Addr) : List (List (Option Bool)) := cs.map fun c => cs.map fun f => PySem.W.kitOne K (.ref c) (.ref f)
noncomputable def isaTab (K : PySem.W.Frag) (cs : List Addr) : List (List (Option Bool)) := cs.map fun c => cs.map fun f => isaIn K c (.ref f)
structure XTab (K : PySem.W.Frag) (cs : List Addr) (tab : List (List Bool)) : Prop where
  ow : ∀ c ∈ cs, PySem.W.excIn K c bmVE "ValueError.__new__" = true
  kt : kitTab K cs = tab.map fun r => r.map some
  ia : isaTab K cs = tab.map fun r => r.map some
  ve : cs.map (fun c => PySem.W.kitOne K (.ref c) (.type "ValueError")) = cs.map fun _ => some true
  f1 : cs.map (fun c => PySem.W.findIn K (.ref c) "__class__") = cs.map fun _ => some (some (.builtin "object.__class__"))
  f2 : cs.map (fun c => PySem.W.findIn K (.ref c) "__getattribute__") = cs.map fun _ => some (some (.builtin "BaseException.__getattribute__"))
  f3 : cs.map (fun c => PySem.W.findIn K (.ref c) "__getattr__") = cs.map fun _ => some none
section
variable {K : PySem.W.Frag} {cs : List Addr} {tab : List (List Bool)} {i j : Nat} {c f : Addr} {r : List Bool} {b : Bool}
theorem map_at {α β : Type} {g g' : α → β} {xs : List α} {i : Nat} {x : α} (h : xs.map g = xs.map g') (e : xs[i]? = some x) : g x = g' x := by
  have h1 := congrArg (fun l => l[i]?) h
  simp only [List.getElem?_map, e, Option.map_some, Option.some.injEq] at h1
  exact h1
theorem tab_at {g : Addr → Addr → Option Bool} (h : (cs.map fun c => cs.map fun f => g c f) = tab.map fun r => r.map some) (hc : cs[i]? = some c) (hf : cs[j]? = some f) (hr : tab[i]? = some r) (hb : r[j]? = some b) : g c f = some b := by
  have h1 := congrArg (fun l => l[i]?) h
  simp only [List.getElem?_map, hc, hr, Option.map_some, Option.some.injEq] at h1
  have h2 := congrArg (fun l => l[j]?) h1
  simp only [List.getElem?_map, hf, hb, Option.map_some, Option.some.injEq] at h2
  exact h2
theorem XTab.kit (X : XTab K cs tab) (i j : Nat) (hc : cs[i]? = some c) (hf : cs[j]? = some f) (hr : tab[i]? = some r) (hb : r[j]? = some b) : PySem.W.kitOne K (.ref c) (.ref f) = some b := tab_at X.kt hc hf hr hb
theorem XTab.isa (X : XTab K cs tab) (i j : Nat) (hc : cs[i]? = some c) (hf : cs[j]? = some f) (hr : tab[i]? = some r) (hb : r[j]? = some b) : IsA K c f b := ⟨X.ow c (List.mem_of_getElem? hc), X.ow f (List.mem_of_getElem? hf), tab_at X.ia hc hf hr hb⟩
theorem XTab.xcl (X : XTab K cs tab) (i : Nat) (hc : cs[i]? = some c) : XCl K c := ⟨X.ow c (List.mem_of_getElem? hc), map_at X.f1 hc, map_at X.f2 hc, map_at X.f3 hc⟩
theorem XTab.vee (X : XTab K cs tab) (i : Nat) (hc : cs[i]? = some c) : PySem.W.kitOne K (.ref c) (.type "ValueError") = some true := map_at X.ve hc
end
end DL
namespace DL
open PySem PySem.Spec PyProof.Rows L2
section
variable {X : Cx} {k : Nat} {e a b : Expr} {pos : Pos} {ta tb te : TEd}
noncomputable def eqXD : D → D → DH → KD → Prop
  | .ref l, .ref r, M, Q => ∃ xs ys, LstAt M l xs ∧ LstAt M r ys ∧ D.eqOks xs ys = true ∧ D.deps xs ≤ 150 ∧ Q (.bl (D.eqs xs ys)) M
  | .tup xs, .tup ys, M, Q => D.eqOks xs ys = true ∧ D.deps xs ≤ 150 ∧ Q (.bl (D.eqs xs ys)) M
  | .int i, .int j, M, Q => Q (.bl (decide (i = j))) M
  | .str i, .str j, M, Q => Q (.bl (decide (i = j))) M
  | .bl i, .bl j, M, Q => Q (.bl (decide (i = j))) M
  | _, _, _, _ => False
theorem od_eqX (hk1 : Room (k + 1) X.A) : OpD X (compareOp .Eq) eqXD := by
  intro pins s σ H vx vy v u Q I rx ry zr215
  refine el_4_5 zr215 ?_; clear zr215; intro x y M Q' ix iy hm q hq
  have hr := hk1.mono (Nat.le_succ k)
  have hu : X.A.units + 200 < cLine := by have := hr.un; (first | lia | omega)
  by_cases hrr : ∃ l r, x = .ref l ∧ y = .ref r
  · refine el_2_2 hrr ?_; clear hrr; intro l r zq216 zq217
    obtain rfl := zq216
    obtain rfl := zq217
    refine el_2_5 q ?_; clear q; intro xs ys hl hr' ok dp q
    (first | cases ix.inv | cases ix)
    (first | cases iy.inv | cases iy)
    cases rx
    cases ry
    refine el_1_2 (hm.lst hl) ?_; intro us hu1 i1
    refine el_1_2 (hm.lst hr') ?_; intro ws hw i2
    refine el_1_3 (I.list hu1) ?_; intro its r1 p1 _
    refine el_1_3 (I.list hw) ?_; intro its2 r2 p2 _
    have n1 : its.toArray.size = xs.length := by rw [List.size_toArray, ← r1.length, i1.length]
    have n2 : its2.toArray.size = ys.length := by rw [List.size_toArray, ← r2.length, i2.length]
    by_cases hlen : xs.length = ys.length
    · have la := lists_at I i1 i2 r1 r2 ok dp (A := X.A.in1) (by rw [in1_units]; have := hk1.un; (first | lia | omega))
      refine SeqAt.eq_listAt (e := pairEq xs ys) p1.isList p2.isList (by rw [n1, n2, hlen]) (by (first | lia | omega)) la ⟨.bl _, H, I, rfl, hq.here hm (.bl _) ?_⟩
      have e := eqs_all xs ys
      rw [show min xs.length ys.length = xs.length by (first | lia | omega), show (xs.length == ys.length) = true by simpa using hlen, Bool.and_true] at e
      rw [n1, e]
      exact q
    · have hf : D.eqs xs ys = false := by
        cases h : D.eqs xs ys with
        | false => rfl
        | true => exact absurd (eqs_len h) hlen
      rw [hf] at q
      exact SeqAt.eq_list_lengthsAt p1.isList p2.isList (by rw [n1, n2]; simpa using hlen) (by (first | lia | omega)) ⟨.bl _, H, I, rfl, hq.here hm (.bl _) q⟩
  · refine od_eq hr pins s σ H vx vy v u Q I rx ry ⟨x, y, M, Q', ix, iy, hm, ?_, hq⟩
    cases x <;> cases y <;> first | exact q | exact q.elim | exact absurd ⟨_, _, rfl, rfl⟩ hrr
end
end DL
namespace DL
open PySem PySem.Spec PyProof.Rows L2
section
variable {X : Cx}
end
end DL
namespace DL
open PySem PySem.Spec PyProof.Rows L2
section
open Builtin
set_option maxRecDepth 100000
end
section
variable {X : Cx}
end
end DL
namespace DL
open PySem PySem.Spec PyProof.Rows L2
section
variable {X : Cx}
end
end DL
namespace DL
open PySem PySem.Spec PyProof.Rows L2
section
variable {X : Cx} {n : Nat} {o e f : Expr} {apos cpos : Pos}
end
end DL
namespace DL
open PySem PySem.Spec PyProof.Rows L2
section
variable {X : Cx}
end
end DL
namespace DL
open PySem PySem.Spec PyProof.Rows L2
section
variable {X : Cx} {e : Expr} {p2 pos : Pos} {lo hi : Option Expr} {se : Expr}
end
end DL
namespace DL
open PySem PySem.Spec PyProof.Rows L2
section
variable {X : Cx} {k : Nat}
end
end DL
namespace DL
open PySem PySem.Spec PyProof.Rows L2
section
variable {K : PySem.W.Frag} {M : DH} {H H' : Hp} {kvs : List (List Key × D)} {xs : List (List Key × Addr × Value)} {k : List Key}
end
section
variable {X : Cx} {pins : List (Addr × Obj)} {σ : St} {H : Hp} {s : Shared} {a b : Addr} {k : List Key} {kvs : List (List Key × D)} {xs : List (List Key × Addr × Value)}
end
section
variable {X : Cx} {a b o : Expr} {pos : Pos} {ta tb : TEd} {n : Nat}
end
end DL
namespace DL
open PySem PySem.Spec PyProof.Rows L2
section
variable {X : Cx} {tg elt iter : Expr} {ifs : List Expr} {scope : Scope} {pos : Pos} {js : List (Option Nat)} {Nc : List Str} {cl : List (Str × Addr)}
end
section
variable {X : Cx} {k : Nat}
end
end DL
namespace DL
open PySem PySem.Spec PyProof.Rows L2
section
variable {X : Cx}
end
section
variable {prog : Program} {w : World} {A : Around} {R : Result → Shared → Prop} {I : Addr} {fp wr : List Addr} {n : Nat} {P : Nat → Value → Prop} {St : Nat → Heap → Prop} {d : Value}
end
section
variable {X : Cx}
end
section
variable {X : Cx} {tg elt iter : Expr} {ifs : List Expr} {scope : Scope} {pos : Pos} {js : List (Option Nat)} {Nc : List Str} {cl : List (Str × Addr)}
end
end DL
namespace DL
open PySem PySem.Spec PyProof.Rows L2
noncomputable def putFD (f : Str) (d : D) : List (Str × D) → List (Str × D)
  | [] => [(f, d)]
  | (g, x) :: r => if g = f then (g, d) :: r else (g, x) :: putFD f d r
noncomputable abbrev PFD (K : PySem.W.Frag) (H : Hp) : List (Str × V) → List (Str × D) → Prop := Paired fun (p : Str × V) (q : Str × D) => p.1 = q.1 ∧ Is K H p.2 q.2
section
variable {K : PySem.W.Frag} {M : DH} {H H' : Hp} {fx : List (Str × V)} {fs : List (Str × D)} {f : Str} {a C dx : Addr}
theorem pfd_some (r : PFD K H fx fs) {d : D} (e : fs.lookup f = some d) : ∃ v, fx.lookup f = some v ∧ Is K H v d := by
  induction r with
  | nil => cases e
  | @cons p q ps qs h t ih =>
    obtain ⟨p1, p2⟩ := p
    obtain ⟨q1, q2⟩ := q
    have h1 : p1 = q1 := h.1
    subst h1
    by_cases z : f = p1
    · subst z
      have e' : List.lookup f ((f, q2) :: qs) = some q2 := by simp [List.lookup]
      rw [e'] at e
      cases e
      exact in_ec p2 (by simp [List.lookup]) h.2
    · have z' : (f == p1) = false := by simpa using z
      have e1 : List.lookup f ((p1, q2) :: qs) = List.lookup f qs := by simp [List.lookup, z']
      have e2 : List.lookup f ((p1, p2) :: ps) = List.lookup f ps := by simp [List.lookup, z']
      rw [e1] at e
      rw [e2]
      exact ih e
theorem pfd_none (r : PFD K H fx fs) (e : fs.lookup f = none) : fx.lookup f = none := by
  induction r with
  | nil => rfl
  | @cons p q ps qs h t ih =>
    obtain ⟨p1, p2⟩ := p
    obtain ⟨q1, q2⟩ := q
    have h1 : p1 = q1 := h.1
    subst h1
    by_cases z : f = p1
    · subst z
      have e' : List.lookup f ((f, q2) :: qs) = some q2 := by simp [List.lookup]
      rw [e'] at e
      cases e
    · have z' : (f == p1) = false := by simpa using z
      have e1 : List.lookup f ((p1, q2) :: qs) = List.lookup f qs := by simp [List.lookup, z']
      have e2 : List.lookup f ((p1, p2) :: ps) = List.lookup f ps := by simp [List.lookup, z']
      rw [e1] at e
      rw [e2]
      exact ih e
theorem pfd_put (r : PFD K H fx fs) {v : V} {d : D} (i : Is K H v d) : PFD K H (putF f v fx) (putFD f d fs) := by
  induction r with
  | nil => exact .cons ⟨rfl, i⟩ .nil
  | @cons p q ps qs h t ih =>
    obtain ⟨p1, p2⟩ := p
    obtain ⟨q1, q2⟩ := q
    have h1 : p1 = q1 := h.1
    subst h1
    show PFD K H (if p1 = f then (p1, v) :: ps else (p1, p2) :: putF f v ps) (if p1 = f then (p1, d) :: qs else (p1, q2) :: putFD f d qs)
    by_cases z : p1 = f
    · rw [if_pos z, if_pos z]; exact .cons ⟨rfl, i⟩ t
    · rw [if_neg z, if_neg z]; exact .cons h ih
theorem pfd_mono0 (e : Ext0 K H H') (r : PFD K H fx fs) : PFD K H' fx fs := r.impP fun _ _ ⟨r1, r2⟩ => ⟨r1, r2.mono0 e⟩
theorem HAbs.setI {v : V} {d : D} (h : HAbs K M H) (hx : H a = some (.ins C dx fx)) (ho : H dx = some (.own a)) (hp : PFD K H fx fs) (i : Is K H v d) :
    HAbs K (updM M a (.ins C dx (putFD f d fs))) (upd H a (.ins C dx (putF f v fx))) ∧ Ext K H (upd H a (.ins C dx (putF f v fx))) := by
  have ex : Ext K H (upd H a (.ins C dx (putF f v fx))) := ext_upd (fun zs s => by rcases s with s | ⟨u, s⟩ <;> rw [hx] at s <;> cases s) (fun u xs s => by rw [hx] at s; cases s)
  refine ⟨fun c o q => ?_, ex⟩
  by_cases z : c = a
  · subst z; rw [updM_same] at q; cases q
    exact in_ecc _ upd_same (by rw [upd_ne (ne_of ho hx (by intro k; cases k))]; exact ho) (pfd_mono0 ex.e0 (pfd_put hp i))
  · rw [updM_ne z] at q
    exact (h c o q).mono ex.e0 (fun v w => by rw [upd_ne z]; exact w) (fun dx w => by rw [upd_ne (ne_of w hx (by intro k; cases k))]; exact w)
theorem HAbs.made {x : Addr} (h : HAbs K M H) (nx : H x = none) (nd : H dx = none) (ne : dx ≠ x) : HAbs K (updM M x (.ins C dx [])) (upd (upd H dx (.own x)) x (.ins C dx [])) ∧ Ext K H (upd (upd H dx (.own x)) x (.ins C dx [])) := by
  have n1 : upd H dx (.own x) x = none := by rw [upd_ne (Ne.symm ne)]; exact nx
  refine ⟨(h.new nd).newM n1 (show MOk K _ x (.ins C dx []) from ⟨[], upd_same, by rw [upd_ne ne, upd_same], .nil⟩), (ext_new nd).trans (ext_new n1)⟩
end
section
variable {X : Cx} {e o value : Expr} {es : List Expr} {f m : Str} {pos pos' apos tpos : Pos} {te to tv : TEd} {t : TAd} {C : Addr} {k : Nat}
noncomputable def eFld (C : Addr) (f : Str) (to : TEd) : TEd := fun τ M Q => to τ M fun x M1 => ∃ a dx fs d, x = .ref a ∧ M1 a = some (.ins C dx fs) ∧ fs.lookup f = some d ∧ Q d M1
theorem d_fld (c : Cls X.K C) (n : NoAttr X.K C f) (he : PE X e (low X.K te)) (hb : attributeBase e f X.env (eval e X.env) = eval e X.env := by rfl) : PE X (.Attribute e f pos) (low X.K (eFld C f te)) :=
  (pe_fld he hb).imp fun σ H Q ⟨τ, M, Q', hs, hm, h, hq⟩ => ⟨τ, M, _, hs, hm, h, fun x M1 v H1 m1 e1 i1 ⟨a, dx, fs, d, ex, ha, hl, q⟩ => by
    subst ex
    (first | cases i1.inv | cases i1)
    refine el_1_3 (m1 a _ ha) ?_; intro fx h1 h2 h3
    refine el_1_2 (pfd_some h3 hl) ?_; intro v hv iv
    exact ⟨a, C, dx, fx, v, rfl, h1, c, n, hv, hq _ _ _ _ m1 e1 iv q⟩⟩
noncomputable def sFldD (C : Addr) (f : Str) (to tv : TEd) : TSd := fun E τ M => tv τ M fun y M1 => to τ M1 fun x M2 => ∃ a dx fs, x = .ref a ∧ M2 a = some (.ins C dx fs) ∧ fs.length < 1000 ∧ E.nx τ (updM M2 a (.ins C dx (putFD f y fs)))
theorem s_fld (c : Cls X.K C) (n : NoAttr X.K C f) (ho : PE X o (low X.K to)) (hv : PE X value (low X.K tv)) (hs : swapsWith value (some (.Attribute o f pos')) pos.line X.env = pure false := by rfl) : PS X (.Assign [.Attribute o f pos'] value pos) (lowS X.K (sFldD C f to tv)) :=
  (ps_fld ho hv hs).imp fun D σ H ⟨τ, M, D', hs, hm, h, hd⟩ => ⟨τ, M, _, hs, hm, h, fun y M1 vy H1 m1 e1 i1 h1 => ⟨τ, M1, _, hs.mono e1, m1, h1, fun x M2 vx H2 m2 e2 i2 ⟨a, dx, fs, ex, ha, hl, q⟩ => by
    subst ex
    (first | cases i2.inv | cases i2)
    refine el_1_3 (m2 a _ ha) ?_; intro fx g1 g2 g3
    refine el_0_2 (m2.setI (f := f) g1 g2 g3 (i1.mono e2)) ?_; intro m3 e3
    have e12 := e1.trans e2
    exact ⟨a, C, dx, fx, rfl, g1, c, n, by rw [Paired.length g3]; exact hl, hd.nx _ _ _ _ (hs.mono (e12.trans e3)) m3 (e12.trans e3) q⟩⟩⟩
noncomputable def sFldAugD (C : Addr) (f : Str) (to tv : TEd) : TSd := fun E τ M => to τ M fun x M1 => ∃ a dx fs i, x = .ref a ∧ M1 a = some (.ins C dx fs) ∧ fs.lookup f = some (.int i) ∧
  tv τ M1 fun y M2 => ∃ j dx' fs', y = .int j ∧ M2 a = some (.ins C dx' fs') ∧ fs'.length < 1000 ∧ E.nx τ (updM M2 a (.ins C dx' (putFD f (.int (i + j)) fs')))
theorem s_fldAug (c : Cls X.K C) (n : NoAttr X.K C f) (ho : PE X o (low X.K to)) (hv : PE X value (low X.K tv)) : PS X (.AugAssign (.Attribute o f tpos) .Add value pos) (lowS X.K (sFldAugD C f to tv)) :=
  (ps_fldaug ho hv in_add).imp fun D σ H ⟨τ, M, D', hs, hm, h, hd⟩ => ⟨τ, M, _, hs, hm, h, fun x M1 vx H1 m1 e1 i1 ⟨a, dx, fs, i, ex, ha, hl, q⟩ => by
    subst ex
    (first | cases i1.inv | cases i1)
    refine el_1_3 (m1 a _ ha) ?_; intro fx g1 g2 g3
    refine el_1_2 (pfd_some g3 hl) ?_; intro v hv iv
    cases iv
    refine in_eeeeeccccceeeccc a C dx fx (.int i) rfl g1 c n hv τ M1 _ (hs.mono e1) m1 q (fun y M2 vy H2 m2 e2 i2 zz0 => ?_)
    refine el_3_4 zz0 ?_; clear zz0; intro j dx' fs' ey ha' hl' q2
    subst ey
    (first | cases i2.inv | cases i2)
    refine el_1_3 (m2 a _ ha') ?_; intro fx' k1 k2 k3
    refine el_0_2 (m2.setI (f := f) k1 k2 k3 (.int (i + j))) ?_; intro m3 e3
    have e12 := e1.trans e2
    exact ⟨i, j, rfl, rfl, dx', fx', k1, by rw [Paired.length k3]; exact hl', hd.nx _ _ _ _ (hs.mono (e12.trans e3)) m3 (e12.trans e3) q2⟩⟩
structure FnM (P : Program) (w : World) (K : PySem.W.Frag) (mg : Str → Option Value) (base : Heap) (C : Addr) (k : Nat) (m : Str) (ps : List Str) (sp : SpD) : Prop where
  ex : ∃ f fd, FnOk P w K mg base CX0 k f fd ps (lowSp K sp) ∧ Meth K C m f ∧ Binds K fd ps []
noncomputable def eMeth0 (C : Addr) (m : Str) (sp : SpD) (to : TEd) : TEd := fun τ M Q => to τ M fun x M1 => ∃ a dx fs, x = .ref a ∧ M1 a = some (.ins C dx fs) ∧ fs.lookup m = none ∧ sp [.ref a] M1 Q
theorem d_meth0 {ps : List Str} {sp : SpD} {pl : Sem Bool} (c : Cls X.K C) (F : FnM X.prog X.w X.K X.mg X.base C k m ps sp) (hr : Room k X.A) (ho : PE X o (low X.K to))
    (ht : eval (.Call (.Attribute o m apos) [] [] pos) X.env = (do
      let ov ← eval o X.env
      standAt apos.atName
      let (f, first) ← holding [ov] (getMethod ov m pl)
      callWith pos f first (backTo pos (starEach [] X.env)) (backToKw pos (keywordEach [] X.env))) := by rfl) :
    PE X (.Call (.Attribute o m apos) [] [] pos) (low X.K (eMeth0 C m sp to)) := by
  refine el_2_3 (F.ex) ?_; (try clear F); intro f fd F hm hb
  refine (pe_meth0 (E := E0) (pl := pl) ho c hm F hr hb .nil pass0 ht).imp fun σ H Q zz0 => ?_
  refine el_3_4 zz0 ?_; clear zz0; intro τ M Q' hs hm h hq
  refine in_eeeccc τ M _ hs hm h (fun x M1 v H1 m1 e1 i1 zz0 => ?_)
  refine el_3_4 zz0 ?_; clear zz0; intro a dx fs ex hx hl q
  subst ex
  (first | cases i1.inv | cases i1)
  refine el_1_3 (m1 a _ hx) ?_; intro fx h1 h2 h3
  refine in_eeeccc a dx fx rfl h1 (pfd_none h3 hl) ?_
  exact in_eeeccc ([.ref a]) M1 Q' (.cons (.ref a) .nil) m1 q (hq.ext e1)
structure FnI (P : Program) (w : World) (K : PySem.W.Frag) (mg : Str → Option Value) (base : Heap) (C : Addr) (k : Nat) (ps : List Str) (sp : SpD) : Prop where
  ex : ∃ f fd, FnOk P w K mg base CX0 k f fd ps (lowSp K sp) ∧ Mk K C f ∧ Binds K fd ps []
noncomputable def eMake (C : Addr) (sp : SpD) (t : TAd) : TEd := fun τ M Q => t τ M fun ds M1 => ∀ x dx, M1 x = none → sp (.ref x :: ds) (updM M1 x (.ins C dx [])) fun d M2 => d = .non ∧ Q (.ref x) M2
theorem d_make {ps : List Str} {sp : SpD} {x : Str} {p : Pos} (F : FnI X.prog X.w X.K X.mg X.base C k ps sp) (hr : Room (k + 1) X.A) (hm : X.mg x = some (.ref C)) (ha : PA X (e :: es) (lowA X.K t)) (hg : Gl X x := by rfl)
    (hdb : (x == ("__debug__" : Str)) = false := by decide) (he : starEach (e :: es) X.env = (false, eval e X.env) :: starEach es X.env := by rfl) (hpl : (backTo pos (starEach es X.env)).any (·.1) = false := by rfl) :
    PE X (.Call (.Name x p) (e :: es) [] pos) (low X.K (eMake C sp t)) := by
  refine el_2_3 (F.ex) ?_; (try clear F); intro f fd F hM hb
  refine (pe_make (E := E0) hM F hr hg hm hb .nil pass0 ha hdb he hpl).imp fun σ H Q zz0 => ?_
  refine el_3_4 zz0 ?_; clear zz0; intro τ M Q' hs hm h hq
  refine in_eeeccc τ M _ hs hm h (fun ds M1 vs H1 m1 e1 i1 h1 y dy ny nd ne => ?_)
  refine el_0_2 (m1.made (C := C) ny nd ne) ?_; intro m2 e2
  show lowSp X.K sp (.ref y :: (vs ++ [])) _ _ E0
  rw [List.append_nil]
  refine in_eeeccc (.ref y :: ds) _ _ (.cons (.ref y) (i1.mono e2)) m2 (h1 y dy (m1.free ny)) (fun d M3 v H3 m3 e3 i3 zz0 => ?_)
  refine el_0_2 zz0 ?_; clear zz0; intro ed q
  subst ed
  (first | cases i3.inv | cases i3)
  exact ⟨rfl, hq _ _ _ _ m3 (e1.trans (e2.trans e3)) (.ref y) q⟩
end
noncomputable def StandsM (K : PySem.W.Frag) (C : Addr) (m qual : Str) (st : Stmt) (ps : List Str) : Prop := ∃ f fd, Fun K m qual st f fd ∧ Binds K fd ps [] ∧ Meth K C m f
noncomputable def StandsI (K : PySem.W.Frag) (C : Addr) (qual : Str) (st : Stmt) (ps : List Str) : Prop := ∃ f fd, Fun K "__init__" qual st f fd ∧ Binds K fd ps [] ∧ Mk K C f
section
variable {P : Program} {w : World} {K : PySem.W.Frag} {mg : Str → Option Value} {base : Heap}
theorem def_okM {C : Addr} {m qual : Str} {st : Stmt} {N ps : List Str} {k : Nat} {sp : SpD} (T : StandsM K C m qual st ps) (S : FnScope N ps (defScope st)) (len : ∀ ds M Q, sp ds M Q → ds.length = ps.length)
    (hbody : ∀ (f : Addr) (cdv : Value) (A : Around) (outer : List Env) (s : Shared) (H : Hp) (E : XK), Room k (A.deeper (envOfC qual (defScope st) s.heap.objs.size f cdv)) →
      ∃ t : TSd, PSs (cxOf CX0 P w K mg base N qual (defScope st) f cdv A outer s H E).nox (defBody st) (lowS K t) ∧ ∀ ds M Q, sp ds M Q → t (endsOf Q) (startD N ds) M) : FnM P w K mg base C (k + 1) m ps sp := by
  refine el_2_3 T ?_; clear T; intro f fd F hb hm
  exact ⟨f, fd, def_fn F S len (hbody f), hm, hb⟩
theorem def_okI {C : Addr} {qual : Str} {st : Stmt} {N ps : List Str} {k : Nat} {sp : SpD} (T : StandsI K C qual st ps) (S : FnScope N ps (defScope st)) (len : ∀ ds M Q, sp ds M Q → ds.length = ps.length)
    (hbody : ∀ (f : Addr) (cdv : Value) (A : Around) (outer : List Env) (s : Shared) (H : Hp) (E : XK), Room k (A.deeper (envOfC qual (defScope st) s.heap.objs.size f cdv)) →
      ∃ t : TSd, PSs (cxOf CX0 P w K mg base N qual (defScope st) f cdv A outer s H E).nox (defBody st) (lowS K t) ∧ ∀ ds M Q, sp ds M Q → t (endsOf Q) (startD N ds) M) : FnI P w K mg base C (k + 1) ps sp := by
  refine el_2_3 T ?_; clear T; intro f fd F hb hm
  exact ⟨f, fd, def_fn F S len (hbody f), hm, hb⟩
end
end DL
namespace DL
open PySem PySem.Spec PyProof.Rows L2
section
variable {X : Cx}
noncomputable def numT (n : Int) : Str := Str.ofString (toString n)
noncomputable def strD : List D → DH → KD → Prop
  | [.int n], M, Q => (0 ≤ n ∧ n < 10 ^ 10) ∧ Q (.str (numT n)) M
  | _, _, _ => False
theorem cd_str : CallD X (.type "str") strD := by
  intro pins s σ H vs us Q I r zr218
  refine el_3_4 zr218 ?_; clear zr218; intro ds M Q' iss hm q hq
  match ds, q, iss with
  | [.int n], q, iss =>
    refine el_1_2 (iss1 iss) ?_; intro v zq219 i
    obtain rfl := zq219
    (first | cases i.inv | cases i)
    obtain ⟨u, rfl, t, rfl⟩ := vals1 r
    refine el_0_2 q ?_; clear q; intro zq220 q
    refine el_0_2 zq220 ?_; clear zq220; intro q0 q1
    refine str_of_int_fit (N := 10 ^ 10) (by rw [if_neg (by (first | lia | omega))]; exact q1) (by decide) fun _ => ?_
    exact in_eecc (.str _) H (I.tok _) (⟨_, rfl⟩) (hq.here hm (.str _) q)
noncomputable def intTD : List D → DH → KD → Prop
  | [.str z], M, Q => ∃ n : Int, z = numT n ∧ (0 ≤ n ∧ n < 10 ^ 10) ∧ Q (.int n) M
  | _, _, _ => False
theorem cd_intT : CallD X (.type "int") intTD := by
  intro pins s σ H vs us Q I r zr221
  refine el_3_4 zr221 ?_; clear zr221; intro ds M Q' iss hm q hq
  match ds, q, iss with
  | [.str z], q, iss =>
    refine el_1_2 (iss1 iss) ?_; intro v zq222 i
    obtain rfl := zq222
    (first | cases i.inv | cases i)
    obtain ⟨u, rfl, t, rfl⟩ := vals1 r
    refine el_1_3 q ?_; clear q; intro n zq223 hn q
    obtain rfl := zq223
    exact PySem.W.KIN.call_num hn.1 hn.2 ⟨.int n, H, I.tok _, ⟨_, rfl⟩, hq.here hm (.int _) q⟩
noncomputable def startsD : D → List D → DH → KD → Prop
  | .str a, [.str b], M, Q => Q (.bl (decide (0 + b.length ≤ a.length) && Builtin.Str.subAt a b 0)) M
  | _, _, _, _ => False
theorem md_startswith : MtD X "str.startswith" startsD := by
  intro pins s σ H vx vs v us Q I rx rs zr224
  refine el_4_5 zr224 ?_; clear zr224; intro x ds M Q' ix iss hm q hq
  match x, ds, q, ix, iss with
  | .str a, [.str b], q, ix, iss =>
    (first | cases ix.inv | cases ix)
    refine el_1_2 (iss1 iss) ?_; intro vy zq225 iy
    obtain rfl := zq225
    (first | cases iy.inv | cases iy)
    refine el_1_1 rx ?_; clear rx; intro t zq226
    obtain rfl := zq226
    refine el_1_2 (vals1 rs) ?_; intro u zq227 ru
    obtain rfl := zq227
    refine el_1_1 ru ?_; clear ru; intro t' zq228
    obtain rfl := zq228
    exact call_gives PySem.F.slot_str_startswith (typeIs_str _ _ _) PySem.F.entry_str_startswith (PySem.F.args_str_startswith_2 _ _) (gives_str_startswith a b t t') ⟨.bl _, H, I, rfl, hq.here hm (.bl _) q⟩
end
noncomputable def tx (cs : List Nat) : Str := ⟨cs.toArray⟩
theorem tx_cps (cs : List Nat) : (tx cs).cps.toList = cs := rfl
theorem tx_len (cs : List Nat) : (tx cs).length = cs.length := by show cs.toArray.size = _; simp
theorem tx_eta (z : Str) : tx z.cps.toList = z := by cases z; simp [tx]
theorem tx_inj {a b : List Nat} (h : tx a = tx b) : a = b := by rw [← tx_cps a, h, tx_cps]
theorem slice_tx (cs : List Nat) {a b : Nat} (hab : a ≤ b) (hb : b ≤ cs.length) : Txt.slice (tx cs) (some (a : Int)) (some (b : Int)) = tx ((cs.drop a).take (b - a)) := by
  have hb' : b ≤ (tx cs).length := by rw [tx_len]; exact hb
  have e := PySem.StrLaws.sliced_plain (tx cs) hab hb'
  rw [tx_cps] at e
  unfold Txt.slice
  rw [e]
  split
  · rename_i h
    have h1 : (Builtin.Str.strSliceIndices (some (a : Int)) (some (b : Int)) 1 (tx cs).length).length = (tx cs).length := by simpa using h
    rw [PySem.StrLaws.strSliceIndices_plain hab hb', tx_len] at h1
    have h2 : b - a = cs.length := by simpa using h1
    have h3 : a = 0 := by (first | lia | omega)
    subst h3
    rw [List.drop_zero, List.take_of_length_le (by (first | lia | omega))]
  · rfl
theorem slice_end (cs : List Nat) : Txt.slice (tx cs) (some (cs.length : Int)) (some ((cs.length : Int) + 1)) = tx [] := by
  have e : Builtin.Str.strSliceIndices (some (cs.length : Int)) (some ((cs.length : Int) + 1)) 1 (tx cs).length = [] := by
    rw [tx_len]
    have h1 : ¬ ((cs.length : Int) < 0) := by (first | lia | omega)
    have h2 : ¬ ((cs.length : Int) + 1 < 0) := by (first | lia | omega)
    have h3 : max (0 : Int) (min (cs.length : Int) (cs.length : Int)) = (cs.length : Int) := by (first | lia | omega)
    have h4 : max (0 : Int) (min ((cs.length : Int) + 1) (cs.length : Int)) = (cs.length : Int) := by (first | lia | omega)
    simp only [Builtin.Str.strSliceIndices, sliceRange, h1, h2, if_false, show (1 : Int) > 0 by decide, if_true, h3, h4, Int.lt_irrefl]
    rfl
  unfold Txt.slice
  rw [e]
  split
  · rename_i h
    have h1 : 0 = (tx cs).length := by simpa using h
    rw [tx_len] at h1
    have : cs = [] := List.length_eq_zero_iff.mp h1.symm
    rw [this]
  · rfl
end DL
namespace DL
open PySem PySem.Spec PyProof.Rows L2
structure FnME (P : Program) (w : World) (K : PySem.W.Frag) (mg : Str → Option Value) (base : Heap) (C : Addr) (k : Nat) (m : Str) (ps : List Str) (sp : SpE) : Prop where
  ex : ∃ f fd, FnOk P w K mg base (CXE P w) k f fd ps (lowSpE K sp) ∧ Meth K C m f ∧ Binds K fd ps []
theorem FnME.mono {P : Program} {w : World} {K : PySem.W.Frag} {mg : Str → Option Value} {base : Heap} {C : Addr} {j k : Nat} {m : Str} {ps : List Str} {sp : SpE} (F : FnME P w K mg base C j m ps sp) (h : j ≤ k) : FnME P w K mg base C k m ps sp :=
  let ⟨f, fd, a, b, c⟩ := F.ex; ⟨f, fd, a.mono h, b, c⟩
section
variable {P : Program} {w : World} {K : PySem.W.Frag} {mg : Str → Option Value} {base : Heap}
theorem fnME_none {C : Addr} {m qual : Str} {ps : List Str} {sp : SpE} {st : Stmt} (T : StandsM K C m qual st ps) (no : ∀ ds M Q E, ¬ sp ds M Q E) : FnME P w K mg base C 0 m ps sp := by
  refine el_2_3 T ?_; clear T; intro f fd F hb hm
  have no' : ∀ vs H Q E, ¬ lowSpE K sp vs H Q E := fun vs H Q E ⟨ds, M, Q', E', _, _, h, _⟩ => no ds M Q' E' h
  exact ⟨f, fd, ⟨fun vs H Q E h => absurd h (no' vs H Q E), fun A outer s H args us vs Q E _ _ _ _ h => absurd h (no' vs H Q E)⟩, hm, hb⟩
theorem def_okME {C : Addr} {m qual : Str} {st : Stmt} {N ps : List Str} {k : Nat} {sp : SpE} (T : StandsM K C m qual st ps) (S : FnScope N ps (defScope st)) (len : ∀ ds M Q E, sp ds M Q E → ds.length = ps.length)
    (hbody : ∀ (f : Addr) (cdv : Value) (A : Around) (outer : List Env) (s : Shared) (H : Hp) (E : XK) (EX : Value → DH → Prop), Room k (A.deeper (envOfC qual (defScope st) s.heap.objs.size f cdv)) →
      XOk (cxOf (CXE P w) P w K mg base N qual (defScope st) f cdv A outer s H E) (fun _ => EX) →
      PassesOwn (model P w) (A.deeper (envOfC qual (defScope st) s.heap.objs.size f cdv)) (envOfC qual (defScope st) s.heap.objs.size f cdv) (cxOf (CXE P w) P w K mg base N qual (defScope st) f cdv A outer s H E).xe →
      ∃ t : TSd, PSs (cxOf (CXE P w) P w K mg base N qual (defScope st) f cdv A outer s H E) (defBody st) (lowS K t) ∧ ∀ ds M Q, sp ds M Q EX → t (endsOf Q) (startD N ds) M) : FnME P w K mg base C (k + 1) m ps sp := by
  refine el_2_3 T ?_; clear T; intro f fd F hb hm
  refine ⟨f, fd, ?_, hm, hb⟩
  refine el_9_3 (F.ex) ?_; intro oc od kV doc pm an cdv ct osl zq229 lk hcd
  obtain rfl := zq229
  refine fn_of lk hcd S (fun vs H Q E h => ?_) fun A outer s H vs Q E hr h => ?_
  · refine el_4_4 h ?_; clear h; intro ds M Q' E' i _ q _
    rw [i.length]
    exact len _ _ _ _ q
  · refine el_4_5 h ?_; clear h; intro ds M Q' E' i hm q hq hE
    refine el_1_2 (hbody f cdv A outer s H E E' hr (xok_body hE) passes_body) ?_; intro t h1 h2
    refine ⟨_, h1, startD N ds, M, endsOf Q', start_abs i, hm, h2 _ _ _ q, ⟨?_, ?_, ?_, ?_⟩⟩
    · intro τ M1 σ H1 s1 m1 e1 zr230
      refine el_1_2 zr230 ?_; clear zr230; intro M0 sub q0
      exact hq _ M0 _ H1 (m1.sub sub) e1 .non q0
    · intro d M1 v H1 m1 e1 i1 zr231
      refine el_1_2 zr231 ?_; clear zr231; intro M0 sub q0
      exact hq d M0 v H1 (m1.sub sub) e1 i1 q0
    · intro τ M1 σ H1 _ _ _ q0; exact q0.elim
    · intro τ M1 σ H1 _ _ _ q0; exact q0.elim
end
section
variable {X : Cx} {e o : Expr} {es : List Expr} {m : Str} {pos apos : Pos} {to : TEd} {t : TAd} {C : Addr} {k : Nat} {EX : DSt → Value → DH → Prop}
noncomputable def eMethE (C : Addr) (m : Str) (sp : SpE) (EX : DSt → Value → DH → Prop) (to : TEd) (t : TAd) : TEd := fun τ M Q => to τ M fun x M1 => ∃ a dx fs, x = .ref a ∧ M1 a = some (.ins C dx fs) ∧ fs.lookup m = none ∧ t τ M1 fun ds M2 => sp (.ref a :: ds) M2 Q fun cls M3 => ∃ M0, Sub M0 M3 ∧ EX τ cls M0
noncomputable def eMeth0E (C : Addr) (m : Str) (sp : SpE) (EX : DSt → Value → DH → Prop) (to : TEd) : TEd := fun τ M Q => to τ M fun x M1 => ∃ a dx fs, x = .ref a ∧ M1 a = some (.ins C dx fs) ∧ fs.lookup m = none ∧ sp [.ref a] M1 Q fun cls M3 => ∃ M0, Sub M0 M3 ∧ EX τ cls M0
theorem run_methE {pins : List (Addr × Obj)} {τ : DSt} {σ : St} {H : Hp} {s : Shared} {Q : VK} {Q' : KD} {f a : Addr} {fd : FuncData} {ps : List Str} {sp : SpE} {us : List Value} {vs : List V} {ds : List D} {M : DH} (F : FnOk X.prog X.w X.K X.mg X.base (CXE X.prog X.w) k f fd ps (lowSpE X.K sp)) (hx : XCame X EX) (hr : Room k X.A) (hb : Binds X.K fd ps [])
    (I : Inv X pins σ H s) (hs : SAbs X.K τ σ H) (hm : HAbs X.K M H) (r : Vals vs us) (i : Iss X.K H vs ds) (hq : lowQ X.K H Q' Q) (h : sp (.ref a :: ds) M Q' fun cls M3 => ∃ M0, Sub M0 M3 ∧ EX τ cls M0) :
    wpAny (model X.prog X.w) X.A (call (.ref f) (.ref a :: us)) (EP X pins σ Q) X.xe s := by
  have h2 : lowSpE X.K sp (.ref a :: vs) H Q fun cls _ H2 => ∃ M2, HAbs X.K M2 H2 ∧ EX τ cls M2 := ⟨.ref a :: ds, M, Q', _, .cons (.ref a) i, hm, h, hq, fun cls M2 H2 m2 _ ⟨M0, sub, q⟩ => ⟨M0, m2.sub sub, q⟩⟩
  have r2 : Vals (V.ref a :: vs) (Value.ref a :: us) := .cons rfl r
  have hl : (Value.ref a :: us).length = ps.length := by rw [← r2.length]; exact F.len _ _ _ _ h2
  have hbn := hb s (Value.ref a :: us) I.kIn (by rw [List.append_nil]; exact hl)
  rw [List.append_nil] at hbn
  refine wpAny_call (codeAny_mono (F.run X.A X.stack s H ⟨Value.ref a :: us, []⟩ (Value.ref a :: us) (V.ref a :: vs) Q _ hr I.env0 hbn r2 h2) fun rr s' hq' => ?_)
  cases rr with
  | error e => exact hx.came pins τ σ H s (fun cls _ H2 => ∃ M2, HAbs X.K M2 H2 ∧ EX τ cls M2) e s' I hs hq' fun cls H2 z => z
  | ok fl =>
    cases fl with
    | ret u => exact I.after hq'
    | next => exact False.elim hq'
    | brk => exact False.elim hq'
    | cont => exact False.elim hq'
theorem d_methE {ps : List Str} {sp : SpE} {pl : Sem Bool} (c : Cls X.K C) (F : FnME X.prog X.w X.K X.mg X.base C k m ps sp) (hx : XCame X EX) (hr : Room k X.A) (ho : PE X o (low X.K to)) (ha : PA X (e :: es) (lowA X.K t))
    (hst : starEach (e :: es) X.env = (false, eval e X.env) :: starEach es X.env := by rfl) (hpl : (backTo pos (starEach es X.env)).any (·.1) = false := by rfl)
    (ht : eval (.Call (.Attribute o m apos) (e :: es) [] pos) X.env = (do
      let ov ← eval o X.env
      standAt apos.atName
      let (f, first) ← holding [ov] (getMethod ov m pl)
      callWith pos f first (backTo pos (starEach (e :: es) X.env)) (backToKw pos (keywordEach [] X.env))) := by rfl) :
    PE X (.Call (.Attribute o m apos) (e :: es) [] pos) (low X.K (eMethE C m sp EX to t)) := by
  refine el_2_3 (F.ex) ?_; (try clear F); intro f fd F hme hb
  intro pins s σ H Q I zr232
  refine el_3_4 zr232 ?_; clear zr232; intro τ M Q' hs hm h hq
  have hO := ho pins s σ H (fun v H1 => ∃ a dx fs M1, v = .ref a ∧ M1 a = some (.ins C dx fs) ∧ fs.lookup m = none ∧ HAbs X.K M1 H1 ∧ Ext X.K H H1 ∧ t τ M1 fun ds M2 => sp (.ref a :: ds) M2 Q' fun cls M3 => ∃ M0, Sub M0 M3 ∧ EX τ cls M0) I
    ⟨τ, M, _, hs, hm, h, fun x M1 v H1 m1 e1 i1 ⟨a, dx, fs, ex, hx, hl, q⟩ => by subst ex; (first | cases i1.inv | cases i1); exact ⟨a, dx, fs, M1, rfl, hx, hl, m1, e1, q⟩⟩
  refine PySem.W.methodCall_KW (pl := pl) (thn hO fun u s1 zz0 => ?_) ht
  obtain ⟨x, H1, I1, rx, a, dx, fs, M1, ex, ea, l, m1, e1, q⟩ := zz0
  subst ex
  obtain rfl : u = Value.ref a := rx
  refine el_1_3 (m1 a _ ea) ?_; intro fx h1 h2 h3
  refine getmeth_ok I1 h1 c hme (pfd_none h3 l) ?_
  have hA := ha pos pins s1 σ H1 (fun vs H2 => ∃ ds M2, HAbs X.K M2 H2 ∧ Ext X.K H1 H2 ∧ Iss X.K H2 vs ds ∧ sp (.ref a :: ds) M2 Q' fun cls M3 => ∃ M0, Sub M0 M3 ∧ EX τ cls M0) I1
    ⟨τ, M1, _, hs.mono e1, m1, q, fun ds M2 vs H2 m2 e2 i2 h2 => ⟨ds, M2, m2, e2, i2, h2⟩⟩
  refine PySem.W.callWith_K (first := [.ref a]) (h₀ := X.base) I.ok.mod.kin hme.kp (thn hA fun us s2 zz0 => ?_) hst hpl
  refine el_2_3 zz0 ?_; clear zz0; intro vs H2 I2 r zq233
  refine el_2_4 zq233 ?_; clear zq233; intro ds M2 m2 e2 i2 h4
  refine ⟨I2.kIn, ?_⟩
  exact run_methE F hx hr hb I2 (hs.mono (e1.trans e2)) m2 r i2 (hq.ext (e1.trans e2)) h4
theorem d_meth0E {ps : List Str} {sp : SpE} {pl : Sem Bool} (c : Cls X.K C) (F : FnME X.prog X.w X.K X.mg X.base C k m ps sp) (hx : XCame X EX) (hr : Room k X.A) (ho : PE X o (low X.K to))
    (ht : eval (.Call (.Attribute o m apos) [] [] pos) X.env = (do
      let ov ← eval o X.env
      standAt apos.atName
      let (f, first) ← holding [ov] (getMethod ov m pl)
      callWith pos f first (backTo pos (starEach [] X.env)) (backToKw pos (keywordEach [] X.env))) := by rfl) :
    PE X (.Call (.Attribute o m apos) [] [] pos) (low X.K (eMeth0E C m sp EX to)) := by
  refine el_2_3 (F.ex) ?_; (try clear F); intro f fd F hme hb
  intro pins s σ H Q I zr234
  refine el_3_4 zr234 ?_; clear zr234; intro τ M Q' hs hm h hq
  have hO := ho pins s σ H (fun v H1 => ∃ a dx fs M1, v = .ref a ∧ M1 a = some (.ins C dx fs) ∧ fs.lookup m = none ∧ HAbs X.K M1 H1 ∧ Ext X.K H H1 ∧ sp [.ref a] M1 Q' fun cls M3 => ∃ M0, Sub M0 M3 ∧ EX τ cls M0) I
    ⟨τ, M, _, hs, hm, h, fun x M1 v H1 m1 e1 i1 ⟨a, dx, fs, ex, hx, hl, q⟩ => by subst ex; (first | cases i1.inv | cases i1); exact ⟨a, dx, fs, M1, rfl, hx, hl, m1, e1, q⟩⟩
  refine PySem.W.methodCall_KW (pl := pl) (thn hO fun u s1 zz0 => ?_) ht
  obtain ⟨x, H1, I1, rx, a, dx, fs, M1, ex, ea, l, m1, e1, q⟩ := zz0
  subst ex
  obtain rfl : u = Value.ref a := rx
  refine el_1_3 (m1 a _ ea) ?_; intro fx h1 h2 h3
  refine getmeth_ok I1 h1 c hme (pfd_none h3 l) ?_
  exact PySem.W.callWith_K0 (first := [.ref a]) I1.kIn hme.kp (run_methE F hx hr hb I1 (hs.mono e1) m1 .nil .nil (hq.ext e1) q)
end
section
variable {X : Cx}
noncomputable def mulBD : D → D → DH → KD → Prop
  | .int i, .int j, M, Q => CMul i j ∧ Q (.int (i * j)) M
  | .str z, .int n, M, Q => (z.length ≤ 10000 ∧ 0 ≤ n ∧ n ≤ 1000) ∧ Q (.str (Txt.mul z n)) M
  | _, _, _, _ => False
theorem od_mulB : OpD X (binaryOp .Mult) mulBD := by
  intro pins s σ H vx vy v u Q I rx ry zr235
  refine el_4_5 zr235 ?_; clear zr235; intro x y M Q' ix iy hm q hq
  cases ix with
  | int i => cases iy with
    | int j => exact op_mul pins s σ H _ _ v u Q I rx ry ⟨_, _, rfl, rfl, q.1, hq.here hm (.int _) q.2⟩
    | _ => exact q.elim
  | str z => cases iy with
    | int n =>
      refine el_0_2 q ?_; clear q; intro zq236 q
      refine el_0_3 zq236 ?_; clear zq236; intro h1 h2 h3
      refine el_1_1 rx ?_; clear rx; intro t zq237
      obtain rfl := zq237
      refine el_1_1 ry ?_; clear ry; intro t' zq238
      obtain rfl := zq238
      have hz : z.length * n.toNat ≤ 10000 * 1000 := Nat.mul_le_mul h1 (by (first | lia | omega))
      refine SB.mul ⟨?_, fun h4 _ => ?_, fun _ _ => ?_⟩ fun t2 k => ⟨.str _, H, I.tok k, ⟨_, rfl⟩, hq.here hm (.str _) q⟩
      · have e1 : decide (n < -(2 ^ 63 : Int)) = false := decide_eq_false (by (first | lia | omega))
        have e2 : decide (n ≥ 2 ^ 63) = false := decide_eq_false (by (first | lia | omega))
        rw [e1, e2]; rfl
      · have h6 : (9223372036854775 : Int) ≤ (2 ^ 63 - 1) / n := by
          rw [Int.le_ediv_iff_mul_le (by (first | lia | omega))]
          calc (9223372036854775 : Int) * n ≤ 9223372036854775 * 1000 := Int.mul_le_mul_of_nonneg_left h3 (by decide)
            _ ≤ _ := by decide
        (first | lia | omega)
      · unfold Builtin.Str.tooLong
        simp only [decide_eq_false_iff_not]
        have h3 : sizeLine = 16777216 := sizeLine_eq
        (first | lia | omega)
    | _ => exact q.elim
  | _ => first | exact q.elim | (cases iy <;> exact q.elim)
end
end DL
namespace DL
open PySem PySem.Spec PyProof.Rows L2
section
variable {X : Cx} {tg elt a : Expr} {scope : Scope} {pos p cpos : Pos} {js : List (Option Nat)} {Nc : List Str} {cl : List (Str × Addr)}
end
end DL
namespace Law
open PySem PySem.Spec PyProof.Rows L2 DL
noncomputable def top (i : Nat) : Stmt := PySem.Challenge.pw_commonform_k11_whole_texts_read_or_refus.main.body.getD i (.Pass ⟨0, 0, 0, 0⟩)
noncomputable abbrev s_is_letter : Stmt := top 13
theorem sc_is_letter : FnScope ["sign"] ["sign"] (defScope s_is_letter) := ⟨rfl, rfl, rfl, by decide +kernel, rfl, by decide +kernel, by decide +kernel⟩
noncomputable abbrev s_is_figure : Stmt := top 14
theorem sc_is_figure : FnScope ["sign"] ["sign"] (defScope s_is_figure) := ⟨rfl, rfl, rfl, by decide +kernel, rfl, by decide +kernel, by decide +kernel⟩
noncomputable abbrev s_is_name : Stmt := top 15
theorem sc_is_name : FnScope ["text"] ["text"] (defScope s_is_name) := ⟨rfl, rfl, rfl, by decide +kernel, rfl, by decide +kernel, by decide +kernel⟩
noncomputable abbrev s_blank_number : Stmt := top 20
theorem sc_blank_number : FnScope ["figures"] ["figures"] (defScope s_blank_number) := ⟨rfl, rfl, rfl, by decide +kernel, rfl, by decide +kernel, by decide +kernel⟩
noncomputable abbrev s_read : Stmt := top 22
theorem sc_read : FnScope ["text", "reader", "tree"] ["text"] (defScope s_read) := ⟨rfl, rfl, rfl, by decide +kernel, rfl, by decide +kernel, by decide +kernel⟩
noncomputable abbrev s__law_cell_at : Stmt := top 24
theorem sc__law_cell_at : FnScope ["script", "k"] ["script", "k"] (defScope s__law_cell_at) := ⟨rfl, rfl, rfl, by decide +kernel, rfl, by decide +kernel, by decide +kernel⟩
noncomputable abbrev s__law_draw : Stmt := top 25
theorem sc__law_draw : FnScope ["cell", "k", "many", "number"] ["cell", "k", "many"] (defScope s__law_draw) := ⟨rfl, rfl, rfl, by decide +kernel, rfl, by decide +kernel, by decide +kernel⟩
noncomputable abbrev s__law_names : Stmt := top 26
theorem sc__law_names : FnScope ["cell", "some", "size", "at", "names", "j", "many", "here", "step", "k", "sign"] ["cell"] (defScope s__law_names) := ⟨rfl, rfl, rfl, by decide +kernel, rfl, by decide +kernel, by decide +kernel⟩
noncomputable abbrev s__law_leaf : Stmt := top 27
theorem sc__law_leaf : FnScope ["cell", "first", "names", "shares", "numbers"] ["cell", "first", "names", "shares"] (defScope s__law_leaf) := ⟨rfl, rfl, rfl, by decide +kernel, rfl, by decide +kernel, by decide +kernel⟩
noncomputable abbrev s__law_tree : Stmt := top 28
theorem sc__law_tree : FnScope ["cells", "first", "shares", "names", "frames", "cell", "way", "top", "parts", "whole", "time"] ["cells", "first", "shares"] (defScope s__law_tree) := ⟨rfl, rfl, rfl, by decide +kernel, rfl, by decide +kernel, by decide +kernel⟩
noncomputable abbrev s__law_great : Stmt := top 29
theorem sc__law_great : FnScope ["cell", "names", "deep", "many", "tree", "left", "level", "leaves", "k"] ["cell", "names", "deep", "many"] (defScope s__law_great) := ⟨rfl, rfl, rfl, by decide +kernel, rfl, by decide +kernel, by decide +kernel⟩
noncomputable abbrev s__law_text : Stmt := top 30
theorem sc__law_text : FnScope ["tree", "text", "k"] ["tree"] (defScope s__law_text) := ⟨rfl, rfl, rfl, by decide +kernel, rfl, by decide +kernel, by decide +kernel⟩
noncomputable abbrev s__law_begun : Stmt := top 31
theorem sc__law_begun : FnScope ["sign", "many", "counts"] ["sign", "many", "counts"] (defScope s__law_begun) := ⟨rfl, rfl, rfl, by decide +kernel, rfl, by decide +kernel, by decide +kernel⟩
noncomputable abbrev s__law_behind : Stmt := top 32
theorem sc__law_behind : FnScope ["sign", "counts"] ["sign", "counts"] (defScope s__law_behind) := ⟨rfl, rfl, rfl, by decide +kernel, rfl, by decide +kernel, by decide +kernel⟩
noncomputable abbrev s__law_scan : Stmt := top 33
theorem sc__law_scan : FnScope ["text", "counts", "state", "size", "many", "sign", "bad"] ["text"] (defScope s__law_scan) := ⟨rfl, rfl, rfl, by decide +kernel, rfl, by decide +kernel, by decide +kernel⟩
noncomputable abbrev s__law_spoiled : Stmt := top 34
theorem sc__law_spoiled : FnScope ["text", "cells", "first", "left", "cell", "some", "sign", "at", "way"] ["text", "cells", "first"] (defScope s__law_spoiled) := ⟨rfl, rfl, rfl, by decide +kernel, rfl, by decide +kernel, by decide +kernel⟩
noncomputable abbrev s__law_odd_leaf : Stmt := top 35
theorem sc__law_odd_leaf : FnScope ["text", "cell", "n", "deep", "some", "spots", "at"] ["text", "cell"] (defScope s__law_odd_leaf) := ⟨rfl, rfl, rfl, by decide +kernel, rfl, by decide +kernel, by decide +kernel⟩
noncomputable abbrev s__law_is_tree : Stmt := top 36
theorem sc__law_is_tree : FnScope ["tree"] ["tree"] (defScope s__law_is_tree) := ⟨rfl, rfl, rfl, by decide +kernel, rfl, by decide +kernel, by decide +kernel⟩
noncomputable abbrev s__law_refusal : Stmt := top 37
theorem sc__law_refusal : FnScope ["text", "which", "e"] ["text"] (defScope s__law_refusal) := ⟨rfl, rfl, rfl, by decide +kernel, rfl, by decide +kernel, by decide +kernel⟩
noncomputable abbrev s_law : Stmt := top 38
theorem sc_law : FnScope ["script", "first", "tree", "text", "due", "which", "found"] ["script"] (defScope s_law) := ⟨rfl, rfl, rfl, by decide +kernel, rfl, by decide +kernel, by decide +kernel⟩
noncomputable abbrev s_Reader___init__ : Stmt := inClass (top 21) 0
theorem sc_Reader___init__ : FnScope ["self", "text"] ["self", "text"] (defScope s_Reader___init__) := ⟨rfl, rfl, rfl, by decide +kernel, rfl, by decide +kernel, by decide +kernel⟩
noncomputable abbrev s_Reader_sign_here : Stmt := inClass (top 21) 1
theorem sc_Reader_sign_here : FnScope ["self"] ["self"] (defScope s_Reader_sign_here) := ⟨rfl, rfl, rfl, by decide +kernel, rfl, by decide +kernel, by decide +kernel⟩
noncomputable abbrev s_Reader_begin_knot : Stmt := inClass (top 21) 2
theorem sc_Reader_begin_knot : FnScope ["self", "depth"] ["self", "depth"] (defScope s_Reader_begin_knot) := ⟨rfl, rfl, rfl, by decide +kernel, rfl, by decide +kernel, by decide +kernel⟩
noncomputable abbrev s_Reader_read_tree : Stmt := inClass (top 21) 3
theorem sc_Reader_read_tree : FnScope ["self", "depth", "sign"] ["self", "depth"] (defScope s_Reader_read_tree) := ⟨rfl, rfl, rfl, by decide +kernel, rfl, by decide +kernel, by decide +kernel⟩
noncomputable abbrev s_Reader_read_blank : Stmt := inClass (top 21) 4
theorem sc_Reader_read_blank : FnScope ["self", "start"] ["self"] (defScope s_Reader_read_blank) := ⟨rfl, rfl, rfl, by decide +kernel, rfl, by decide +kernel, by decide +kernel⟩
noncomputable abbrev s_Reader_read_block : Stmt := inClass (top 21) 5
theorem sc_Reader_read_block : FnScope ["self", "depth", "name"] ["self", "depth"] (defScope s_Reader_read_block) := ⟨rfl, rfl, rfl, by decide +kernel, rfl, by decide +kernel, by decide +kernel⟩
noncomputable abbrev s_Reader_read_name : Stmt := inClass (top 21) 6
theorem sc_Reader_read_name : FnScope ["self", "start", "name"] ["self"] (defScope s_Reader_read_name) := ⟨rfl, rfl, rfl, by decide +kernel, rfl, by decide +kernel, by decide +kernel⟩
noncomputable abbrev s_Reader_read_parts : Stmt := inClass (top 21) 7
theorem sc_Reader_read_parts : FnScope ["self", "depth", "parts"] ["self", "depth"] (defScope s_Reader_read_parts) := ⟨rfl, rfl, rfl, by decide +kernel, rfl, by decide +kernel, by decide +kernel⟩
theorem allZ {C : List Value → Prop} (h : C []) : ∀ us : List Value, us.length = 0 → C us := fun us e => by rw [List.length_eq_zero_iff.mp e]; exact h
theorem allS {C : List Value → Prop} {n : Nat} (h : ∀ a, ∀ us : List Value, us.length = n → C (a :: us)) : ∀ us : List Value, us.length = n + 1 → C us
  | a :: us, e => h a us (Nat.succ.inj e)
theorem allN1 {C : List Value → Prop} (h : ∀ a0, C [a0]) : ∀ us : List Value, us.length = 1 → C us := allS fun a0 => allZ (h a0)
theorem allN2 {C : List Value → Prop} (h : ∀ a0 a1, C [a0, a1]) : ∀ us : List Value, us.length = 2 → C us := allS fun a0 => allS fun a1 => allZ (h a0 a1)
theorem allN3 {C : List Value → Prop} (h : ∀ a0 a1 a2, C [a0, a1, a2]) : ∀ us : List Value, us.length = 3 → C us := allS fun a0 => allS fun a1 => allS fun a2 => allZ (h a0 a1 a2)
theorem allN4 {C : List Value → Prop} (h : ∀ a0 a1 a2 a3, C [a0, a1, a2, a3]) : ∀ us : List Value, us.length = 4 → C us := allS fun a0 => allS fun a1 => allS fun a2 => allS fun a3 => allZ (h a0 a1 a2 a3)
structure Txt (K : PySem.W.Frag) (mg : Str → Option Value) : Prop where
  f_is_letter : Stands K mg "is_letter" s_is_letter ["sign"]
  f_is_figure : Stands K mg "is_figure" s_is_figure ["sign"]
  f_is_name : Stands K mg "is_name" s_is_name ["text"]
  f_blank_number : Stands K mg "blank_number" s_blank_number ["figures"]
  f_read : Stands K mg "read" s_read ["text"]
  f__law_cell_at : Stands K mg "_law_cell_at" s__law_cell_at ["script", "k"]
  f__law_draw : Stands K mg "_law_draw" s__law_draw ["cell", "k", "many"]
  f__law_names : Stands K mg "_law_names" s__law_names ["cell"]
  f__law_leaf : Stands K mg "_law_leaf" s__law_leaf ["cell", "first", "names", "shares"]
  f__law_tree : Stands K mg "_law_tree" s__law_tree ["cells", "first", "shares"]
  f__law_great : Stands K mg "_law_great" s__law_great ["cell", "names", "deep", "many"]
  f__law_text : Stands K mg "_law_text" s__law_text ["tree"]
  f__law_begun : Stands K mg "_law_begun" s__law_begun ["sign", "many", "counts"]
  f__law_behind : Stands K mg "_law_behind" s__law_behind ["sign", "counts"]
  f__law_scan : Stands K mg "_law_scan" s__law_scan ["text"]
  f__law_spoiled : Stands K mg "_law_spoiled" s__law_spoiled ["text", "cells", "first"]
  f__law_odd_leaf : Stands K mg "_law_odd_leaf" s__law_odd_leaf ["text", "cell"]
  f__law_is_tree : Stands K mg "_law_is_tree" s__law_is_tree ["tree"]
  f__law_refusal : Stands K mg "_law_refusal" s__law_refusal ["text"]
  f_Reader___init__ : StandsI K (cl mg "Reader") "Reader.__init__" s_Reader___init__ ["self", "text"]
  f_Reader_sign_here : StandsM K (cl mg "Reader") "sign_here" "Reader.sign_here" s_Reader_sign_here ["self"]
  f_Reader_begin_knot : StandsM K (cl mg "Reader") "begin_knot" "Reader.begin_knot" s_Reader_begin_knot ["self", "depth"]
  f_Reader_read_tree : StandsM K (cl mg "Reader") "read_tree" "Reader.read_tree" s_Reader_read_tree ["self", "depth"]
  f_Reader_read_blank : StandsM K (cl mg "Reader") "read_blank" "Reader.read_blank" s_Reader_read_blank ["self"]
  f_Reader_read_block : StandsM K (cl mg "Reader") "read_block" "Reader.read_block" s_Reader_read_block ["self", "depth"]
  f_Reader_read_name : StandsM K (cl mg "Reader") "read_name" "Reader.read_name" s_Reader_read_name ["self"]
  f_Reader_read_parts : StandsM K (cl mg "Reader") "read_parts" "Reader.read_parts" s_Reader_read_parts ["self", "depth"]
  n_Reader : mg "Reader" = some (.ref (cl mg "Reader"))
  c_Reader : Cls K (cl mg "Reader")
  a_Reader_at : NoAttr K (cl mg "Reader") "at"
  a_Reader_knots : NoAttr K (cl mg "Reader") "knots"
  a_Reader_text : NoAttr K (cl mg "Reader") "text"
  m_ValueError : mg "ValueError" = none
  m_all : mg "all" = none
  m_bool : mg "bool" = none
  m_int : mg "int" = none
  m_isinstance : mg "isinstance" = none
  m_len : mg "len" = none
  m_max : mg "max" = none
  m_min : mg "min" = none
  m_range : mg "range" = none
  m_str : mg "str" = none
  m_tuple : mg "tuple" = none
  g_MOST_BLANK : ∃ t, mg "MOST_BLANK" = some (.int 1000000000 t)
  g_MOST_BLANK_FIGURES : ∃ t, mg "MOST_BLANK_FIGURES" = some (.int 10 t)
  g_MOST_DEPTH : ∃ t, mg "MOST_DEPTH" = some (.int 30 t)
  g_MOST_KNOTS : ∃ t, mg "MOST_KNOTS" = some (.int 200 t)
  g_MOST_NAME_SIGNS : ∃ t, mg "MOST_NAME_SIGNS" = some (.int 12 t)
  g_MOST_PARTS : ∃ t, mg "MOST_PARTS" = some (.int 9 t)
  n_FormError : mg "FormError" = some (.ref (cl mg "FormError"))
  n_NoPlace : mg "NoPlace" = some (.ref (cl mg "NoPlace"))
  n_BadText : mg "BadText" = some (.ref (cl mg "BadText"))
  n_TooLong : mg "TooLong" = some (.ref (cl mg "TooLong"))
  n_BadPaper : mg "BadPaper" = some (.ref (cl mg "BadPaper"))
  n_BadName : mg "BadName" = some (.ref (cl mg "BadName"))
  n_Twice : mg "Twice" = some (.ref (cl mg "Twice"))
  n_NoForm : mg "NoForm" = some (.ref (cl mg "NoForm"))
  xc : XTab K [cl mg "FormError", cl mg "NoPlace", cl mg "BadText", cl mg "TooLong", cl mg "BadPaper", cl mg "BadName", cl mg "Twice", cl mg "NoForm"] [[true, false, false, false, false, false, false, false], [true, true, false, false, false, false, false, false], [true, false, true, false, false, false, false, false], [true, false, false, true, false, false, false, false], [true, false, false, false, true, false, false, false], [true, false, false, false, false, true, false, false], [true, false, false, false, false, false, true, false], [true, false, false, false, false, false, false, true]]
section
variable {K : PySem.W.Frag} {mg : Str → Option Value}
theorem xc_FormError (T : Txt K mg) : XC K mg "FormError" (cl mg "FormError") := ⟨T.n_FormError, T.xc.ow _ (by simp)⟩
theorem xc_NoPlace (T : Txt K mg) : XC K mg "NoPlace" (cl mg "NoPlace") := ⟨T.n_NoPlace, T.xc.ow _ (by simp)⟩
theorem xc_BadText (T : Txt K mg) : XC K mg "BadText" (cl mg "BadText") := ⟨T.n_BadText, T.xc.ow _ (by simp)⟩
theorem xcl_BadText (T : Txt K mg) : XCl K (cl mg "BadText") := T.xc.xcl 2 rfl
theorem vee_BadText (T : Txt K mg) : PySem.W.kitOne K (.ref (cl mg "BadText")) (.type "ValueError") = some true := T.xc.vee 2 rfl
theorem isa_BadText_FormError (T : Txt K mg) : IsA K (cl mg "BadText") (cl mg "FormError") true := T.xc.isa 2 0 rfl rfl rfl rfl
theorem kit_BadText_NoPlace (T : Txt K mg) : PySem.W.kitOne K (.ref (cl mg "BadText")) (.ref (cl mg "NoPlace")) = some false := T.xc.kit 2 1 rfl rfl rfl rfl
theorem kit_BadText_BadText (T : Txt K mg) : PySem.W.kitOne K (.ref (cl mg "BadText")) (.ref (cl mg "BadText")) = some true := T.xc.kit 2 2 rfl rfl rfl rfl
theorem kit_BadText_TooLong (T : Txt K mg) : PySem.W.kitOne K (.ref (cl mg "BadText")) (.ref (cl mg "TooLong")) = some false := T.xc.kit 2 3 rfl rfl rfl rfl
theorem kit_BadText_BadPaper (T : Txt K mg) : PySem.W.kitOne K (.ref (cl mg "BadText")) (.ref (cl mg "BadPaper")) = some false := T.xc.kit 2 4 rfl rfl rfl rfl
theorem kit_BadText_BadName (T : Txt K mg) : PySem.W.kitOne K (.ref (cl mg "BadText")) (.ref (cl mg "BadName")) = some false := T.xc.kit 2 5 rfl rfl rfl rfl
theorem kit_BadText_Twice (T : Txt K mg) : PySem.W.kitOne K (.ref (cl mg "BadText")) (.ref (cl mg "Twice")) = some false := T.xc.kit 2 6 rfl rfl rfl rfl
theorem kit_BadText_NoForm (T : Txt K mg) : PySem.W.kitOne K (.ref (cl mg "BadText")) (.ref (cl mg "NoForm")) = some false := T.xc.kit 2 7 rfl rfl rfl rfl
theorem xc_TooLong (T : Txt K mg) : XC K mg "TooLong" (cl mg "TooLong") := ⟨T.n_TooLong, T.xc.ow _ (by simp)⟩
theorem xcl_TooLong (T : Txt K mg) : XCl K (cl mg "TooLong") := T.xc.xcl 3 rfl
theorem vee_TooLong (T : Txt K mg) : PySem.W.kitOne K (.ref (cl mg "TooLong")) (.type "ValueError") = some true := T.xc.vee 3 rfl
theorem isa_TooLong_FormError (T : Txt K mg) : IsA K (cl mg "TooLong") (cl mg "FormError") true := T.xc.isa 3 0 rfl rfl rfl rfl
theorem kit_TooLong_NoPlace (T : Txt K mg) : PySem.W.kitOne K (.ref (cl mg "TooLong")) (.ref (cl mg "NoPlace")) = some false := T.xc.kit 3 1 rfl rfl rfl rfl
theorem kit_TooLong_BadText (T : Txt K mg) : PySem.W.kitOne K (.ref (cl mg "TooLong")) (.ref (cl mg "BadText")) = some false := T.xc.kit 3 2 rfl rfl rfl rfl
theorem kit_TooLong_TooLong (T : Txt K mg) : PySem.W.kitOne K (.ref (cl mg "TooLong")) (.ref (cl mg "TooLong")) = some true := T.xc.kit 3 3 rfl rfl rfl rfl
theorem kit_TooLong_BadPaper (T : Txt K mg) : PySem.W.kitOne K (.ref (cl mg "TooLong")) (.ref (cl mg "BadPaper")) = some false := T.xc.kit 3 4 rfl rfl rfl rfl
theorem kit_TooLong_BadName (T : Txt K mg) : PySem.W.kitOne K (.ref (cl mg "TooLong")) (.ref (cl mg "BadName")) = some false := T.xc.kit 3 5 rfl rfl rfl rfl
theorem kit_TooLong_Twice (T : Txt K mg) : PySem.W.kitOne K (.ref (cl mg "TooLong")) (.ref (cl mg "Twice")) = some false := T.xc.kit 3 6 rfl rfl rfl rfl
theorem kit_TooLong_NoForm (T : Txt K mg) : PySem.W.kitOne K (.ref (cl mg "TooLong")) (.ref (cl mg "NoForm")) = some false := T.xc.kit 3 7 rfl rfl rfl rfl
theorem xc_BadPaper (T : Txt K mg) : XC K mg "BadPaper" (cl mg "BadPaper") := ⟨T.n_BadPaper, T.xc.ow _ (by simp)⟩
theorem xc_BadName (T : Txt K mg) : XC K mg "BadName" (cl mg "BadName") := ⟨T.n_BadName, T.xc.ow _ (by simp)⟩
theorem xc_Twice (T : Txt K mg) : XC K mg "Twice" (cl mg "Twice") := ⟨T.n_Twice, T.xc.ow _ (by simp)⟩
theorem xc_NoForm (T : Txt K mg) : XC K mg "NoForm" (cl mg "NoForm") := ⟨T.n_NoForm, T.xc.ow _ (by simp)⟩
end
section
variable {P : Program} {w : World} {K : PySem.W.Frag} {mg : Str → Option Value} {base : Heap}
noncomputable def kLaw : Nat := 190
theorem rt_done {Q : KD} {d : D} {M : DH} (q : Q d M) : (endsOf Q).rt d M := ⟨M, Sub.refl M, q⟩
inductive Tree where
  | block (n : Str) (ps : List Tree)
  | blank (k : Int)
mutual
noncomputable def Tree.d : Tree → D
  | .block n ps => .tup [.str "block", .str n, .tup (Tree.ds ps)]
  | .blank k => .tup [.str "blank", .int k]
noncomputable def Tree.ds : List Tree → List D
  | [] => []
  | t :: ts => t.d :: Tree.ds ts
end
mutual
noncomputable def Tree.knots : Tree → Nat
  | .block _ ps => Tree.knotss ps + 1
  | .blank _ => 1
noncomputable def Tree.knotss : List Tree → Nat
  | [] => 0
  | t :: ts => t.knots + Tree.knotss ts
end
mutual
noncomputable def Tree.depth : Tree → Nat
  | .block _ ps => Tree.depths ps + 1
  | .blank _ => 1
noncomputable def Tree.depths : List Tree → Nat
  | [] => 0
  | t :: ts => max t.depth (Tree.depths ts)
end
noncomputable def Tree.parts : Tree → List Tree
  | .block _ ps => ps
  | .blank _ => []
theorem ds_map : ∀ ts : List Tree, Tree.ds ts = ts.map Tree.d
  | [] => rfl
  | t :: ts => by rw [Tree.ds, ds_map ts]; rfl
theorem depth_parts (t : Tree) : t.depth = Tree.depths t.parts + 1 := by cases t <;> rfl
theorem depth_get : ∀ {ts : List Tree} {i : Nat} {t : Tree}, ts[i]? = some t → t.depth ≤ Tree.depths ts
  | [], _, _, e => by simp at e
  | t :: ts, 0, _, e => by simp at e; subst e; simp only [Tree.depths]; (first | lia | omega)
  | t :: ts, i + 1, _, e => by
    have := depth_get (ts := ts) (i := i) (by simpa using e)
    simp only [Tree.depths]; (first | lia | omega)
theorem fn_none {x : Str} {ps : List Str} {sp : SpD} {st : Stmt} (T : Stands K mg x st ps) (no : ∀ ds M Q, ¬ sp ds M Q) : FnD P w K mg base 0 x ps sp := by
  refine el_2_3 T ?_; clear T; intro f fd F hb hm
  have no' : ∀ vs H Q E, ¬ lowSp K sp vs H Q E := fun vs H Q E ⟨ds, M, Q', _, _, h, _⟩ => no ds M Q' h
  exact ⟨f, fd, ⟨fun vs H Q E h => absurd h (no' vs H Q E), fun A outer s H args us vs Q E _ _ _ _ h => absurd h (no' vs H Q E)⟩, hm, F.kp, hb⟩
theorem depth_pos (t : Tree) : 0 < t.depth := by rw [depth_parts]; (first | lia | omega)
mutual
theorem depth_le_knots : ∀ t : Tree, t.depth ≤ t.knots
  | .block n ps => by rw [Tree.depth, Tree.knots]; have := depths_le_knotss ps; (first | lia | omega)
  | .blank k => Nat.le_refl _
theorem depths_le_knotss : ∀ ts : List Tree, Tree.depths ts ≤ Tree.knotss ts
  | [] => Nat.le_refl _
  | t :: ts => by rw [Tree.depths, Tree.knotss]; have := depth_le_knots t; have := depths_le_knotss ts; (first | lia | omega)
end
theorem length_knotss : ∀ ts : List Tree, ts.length ≤ Tree.knotss ts
  | [] => Nat.le_refl _
  | t :: ts => by have h1 := length_knotss ts; have h2 := depth_le_knots t; have h3 := depth_pos t; rw [List.length_cons, Tree.knotss]; (first | lia | omega)
theorem at_some {α : Type} {xs : List α} {i : Int} (h0 : 0 ≤ i) (h1 : i < xs.length) : ∃ k, atI xs i = some k := by
  have e : i = ((i.toNat : Nat) : Int) := by (first | lia | omega)
  have hl : i.toNat < xs.length := by (first | lia | omega)
  have h := atI_nat (xs := xs) (j := i.toNat) (v := xs[i.toNat]) (by rw [List.getElem?_eq_getElem hl])
  rw [← e] at h
  exact ⟨_, h⟩
theorem str_app (a b : Str) : (a ++ b).length = a.length + b.length := by
  show (a.cps ++ b.cps).size = _
  rw [Array.size_append]
  rfl
theorem some_len : (Str.ofString "abcdefghijklmnopqrstuvwxyz0123456789").cps.toList.length = 36 := by decide +kernel
noncomputable def spCell : SpD := fun ds M Q => ∃ (ns : List Int) (k : Int), ds = [.rol (ns.map .int), .int k] ∧ 0 ≤ k ∧ ∀ c : Int, Q (.int c) M
theorem ok_cell (T : Txt K mg) : FnD P w K mg base 1 "_law_cell_at" ["script", "k"] spCell := by
  have m_len := T.m_len
  refine def_ok T.f__law_cell_at sc__law_cell_at (fun ds M Q h => ?_) fun f cdv A outer s H E hr => ⟨_, (ss_cons (s_if (dt_cmp od_lt (d_var 1) (d_callB cd_len rfl m_len bt_len (a_cons (d_var 0) a_nil)) (nomark _)) (ss_one (s_ret (d_ix (d_var 0) (d_var 1)))) ss_nil)
 (ss_one (s_ret d_int))), fun ds M Q h => ?_⟩
  · obtain ⟨ns, k, rfl, _⟩ := h; rfl
  · refine el_2_3 h ?_; clear h; intro ns k zq239 hk q
    obtain rfl := zq239
    show if decide (k < ((ns.map D.int).length : Int)) = true then _ else _
    by_cases h1 : k < ((ns.map D.int).length : Int)
    · first | refine ifT h1 ?_ | rw [decide_eq_true h1, if_pos rfl]
      refine el_1_1 (at_some (xs := ns.map D.int) hk h1) ?_; intro v hv
      refine el_1_3 (atI_get hv) ?_; intro j _ hj _
      refine el_1_2 (List.mem_map.mp (List.mem_of_getElem? hj)) ?_; intro c _ zq240
      obtain rfl := zq240
      show onSome (atI (ns.map D.int) k) _
      rw [hv]
      exact rt_done (q c)
    · first | refine ifF h1 ?_ | rw [decide_eq_false h1, if_neg Bool.false_ne_true]
      exact rt_done (q 0)
theorem upd_none {M : DH} {a b : Addr} {o : MO} (h : updM M a o b = none) : b ≠ a ∧ M b = none := by
  have hne : b ≠ a := by intro z; subst z; rw [updM_same] at h; cases h
  exact ⟨hne, by rw [updM_ne hne] at h; exact h⟩
theorem sub_upd {M0 M : DH} {a : Addr} {o : MO} (s : Sub M0 M) (h : M0 a = none) : Sub M0 (updM M a o) := fun b u e => by
  rw [updM_ne (by intro z; subst z; rw [h] at e; cases e)]; exact s b u e
theorem knots_get : ∀ {ts : List Tree} {i : Nat} {t : Tree}, ts[i]? = some t → t.knots ≤ Tree.knotss ts
  | [], _, _, e => by simp at e
  | t :: ts, 0, _, e => by simp at e; subst e; simp only [Tree.knotss]; (first | lia | omega)
  | t :: ts, i + 1, _, e => by
    have := knots_get (ts := ts) (i := i) (by simpa using e)
    simp only [Tree.knotss]; (first | lia | omega)
noncomputable abbrev PT' := List Int × Tree
mutual
noncomputable def pre (p : List Int) : Tree → List PT'
  | .block n ps => (p, .block n ps) :: pres p 0 ps
  | .blank k => [(p, .blank k)]
noncomputable def pres (p : List Int) (i : Nat) : List Tree → List PT'
  | [] => []
  | t :: ts => pre (p ++ [(i : Int)]) t ++ pres p (i + 1) ts
end
theorem knotss_take_le : ∀ (ts : List Tree) (i : Nat), Tree.knotss (ts.take i) ≤ Tree.knotss ts
  | [], i => by simp
  | t :: ts, 0 => by simp [Tree.knotss]
  | t :: ts, i + 1 => by have := knotss_take_le ts i; simp only [List.take_succ_cons, Tree.knotss]; (first | lia | omega)
theorem updM_self {M : DH} {a : Addr} {o : MO} (h : M a = some o) : updM M a o = M := by
  funext b
  by_cases z : b = a
  · subst z; rw [updM_same, h]
  · rw [updM_ne z]
noncomputable def isL (k : Nat) : Bool := !decide (k < 97) && !decide (122 < k)
noncomputable def isF (k : Nat) : Bool := !decide (k < 48) && !decide (57 < k)
theorem one_lt (a b : Nat) : decide (([a] : List Nat) < [b]) = decide (a < b) := by
  by_cases h : a < b
  · rw [decide_eq_true h, decide_eq_true]; exact List.Lex.rel h
  · rw [decide_eq_false h, decide_eq_false]
    intro z
    cases z with
    | rel z => exact h z
    | cons z => cases z
noncomputable def spSg (p : Nat → Bool) : SpD := fun ds M Q => ∃ cs : List Nat, ds = [.str (tx cs)] ∧ cs.length ≤ 1 ∧ Q (.bl (cs.any p)) M
theorem ok_letter (T : Txt K mg) : FnD P w K mg base 1 "is_letter" ["sign"] (spSg isL) := by
  refine def_ok T.f_is_letter sc_is_letter (fun ds M Q h => ?_) fun f cdv A outer s H E hr => ⟨_, (ss_one (s_ret (d_chain od_le od_le d_str (d_var 0) d_str))), fun ds M Q h => ?_⟩
  · obtain ⟨k, rfl, _⟩ := h; rfl
  · refine el_1_3 h ?_; clear h; intro cs zq241 hl q
    obtain rfl := zq241
    match cs, hl with
    | [], _ => exact rt_done q
    | [k], _ =>
      have e1 : decide (([k] : List Nat) < (Str.ofString "a").cps.toList) = decide (k < 97) := one_lt k 97
      have e2 : decide ((Str.ofString "z").cps.toList < ([k] : List Nat)) = decide (122 < k) := one_lt 122 k
      have q' : Q (.bl (isL k)) M := by simpa using q
      show if (!decide (([k] : List Nat) < (Str.ofString "a").cps.toList)) = true then (endsOf Q).rt (.bl (!decide ((Str.ofString "z").cps.toList < ([k] : List Nat)))) M else (endsOf Q).rt (.bl false) M
      rw [e1, e2]
      unfold isL at q'
      cases h1 : decide (k < 97) with
      | true => rw [h1] at q'; exact rt_done q'
      | false => rw [h1] at q'; exact rt_done q'
theorem ok_figure (T : Txt K mg) : FnD P w K mg base 1 "is_figure" ["sign"] (spSg isF) := by
  refine def_ok T.f_is_figure sc_is_figure (fun ds M Q h => ?_) fun f cdv A outer s H E hr => ⟨_, (ss_one (s_ret (d_chain od_le od_le d_str (d_var 0) d_str))), fun ds M Q h => ?_⟩
  · obtain ⟨k, rfl, _⟩ := h; rfl
  · refine el_1_3 h ?_; clear h; intro cs zq242 hl q
    obtain rfl := zq242
    match cs, hl with
    | [], _ => exact rt_done q
    | [k], _ =>
      have e1 : decide (([k] : List Nat) < (Str.ofString "0").cps.toList) = decide (k < 48) := one_lt k 48
      have e2 : decide ((Str.ofString "9").cps.toList < ([k] : List Nat)) = decide (57 < k) := one_lt 57 k
      have q' : Q (.bl (isF k)) M := by simpa using q
      show if (!decide (([k] : List Nat) < (Str.ofString "0").cps.toList)) = true then (endsOf Q).rt (.bl (!decide ((Str.ofString "9").cps.toList < ([k] : List Nat)))) M else (endsOf Q).rt (.bl false) M
      rw [e1, e2]
      unfold isF at q'
      cases h1 : decide (k < 48) with
      | true => rw [h1] at q'; exact rt_done q'
      | false => rw [h1] at q'; exact rt_done q'
noncomputable def nameL (cs : List Nat) : Bool := match cs with
  | [] => false
  | c :: r => decide (r.length < 12) && isL c && r.all fun k => isL k || isF k
noncomputable def fS : D → Option D
  | .str x => some (.bl (isL (x.cps.getD 0 0) || isF (x.cps.getD 0 0)))
  | _ => none
theorem signs_f (cs : List Nat) : (DL.signs (tx cs)).filterMap fS = (cs.map fun k => isL k || isF k).map D.bl := by
  unfold DL.signs
  rw [tx_cps]
  induction cs with
  | nil => rfl
  | cons c r ih => simp only [List.map_cons, List.filterMap_cons, fS, ih]; rfl
theorem Fgt.set {τ0 : DSt} {i : Nat} {v : Option D} (h : τ0[i]? = some none) : Fgt τ0 (τ0.set i v) := by
  refine ⟨List.length_set, fun j d e => ?_⟩
  rw [List.getElem?_set]
  by_cases hj : i = j
  · subst hj; rw [h] at e; cases e
  · rw [if_neg hj]; exact e
noncomputable def figs (n : Int) : List Nat := (numT n).cps.toList
theorem figs_tx (n : Int) : tx (figs n) = numT n := tx_eta _
theorem figs_nat (m : Nat) : figs (m : Int) = (Nat.toDigits 10 m).map Char.toNat := PySem.W.KIN.signs_num m
theorem figs_len (n : Int) (h0 : 0 ≤ n) (h1 : n ≤ 10 ^ 9) : 1 ≤ (figs n).length ∧ (figs n).length ≤ 10 := by
  refine el_1_1 (Int.eq_ofNat_of_zero_le h0) ?_; intro m zq243
  obtain rfl := zq243
  rw [figs_nat, List.length_map]
  refine ⟨PySem.toDigits_len_ge 10 m, ?_⟩
  have h2 := PySem.W.KT.len_num (n := (m : Int)) h0 (by (first | lia | omega))
  have h3 : (numT (m : Int)).length = (figs (m : Int)).length := by show (numT (m : Int)).cps.size = (numT (m : Int)).cps.toList.length; simp
  rw [figs_nat, List.length_map] at h3
  rw [← h3]; exact h2
noncomputable def rf (cs : List Nat) (i n : Nat) : List (Str × D) := [("text", .str (tx cs)), ("at", .int (i : Nat)), ("knots", .int (n : Nat))]
theorem nta : ¬ (("text" : Str) = "at") := by decide +kernel
theorem ntk : ¬ (("text" : Str) = "knots") := by decide +kernel
theorem nak : ¬ (("at" : Str) = "knots") := by decide +kernel
theorem rf_at (cs : List Nat) (i n j : Nat) : putFD "at" (.int (j : Nat)) (rf cs i n) = rf cs j n := by
  show (if ("text" : Str) = "at" then _ else (("text" : Str), D.str (tx cs)) :: (if ("at" : Str) = "at" then [(("at" : Str), D.int (j : Nat)), ("knots", .int (n : Nat))] else _)) = _
  rw [if_neg nta, if_pos rfl]; rfl
theorem rf_knots (cs : List Nat) (i n j : Nat) : putFD "knots" (.int (j : Nat)) (rf cs i n) = rf cs i j := by
  show (if ("text" : Str) = "knots" then _ else (("text" : Str), D.str (tx cs)) :: (if ("at" : Str) = "knots" then _ else (("at" : Str), D.int (i : Nat)) :: (if ("knots" : Str) = "knots" then [(("knots" : Str), D.int (j : Nat))] else _))) = _
  rw [if_neg ntk, if_neg nak, if_pos rfl]; rfl
theorem bt_t : (("text" : Str) == "text") = true := by decide +kernel
theorem ba_t : (("at" : Str) == "text") = false := by decide +kernel
theorem ba_a : (("at" : Str) == "at") = true := by decide +kernel
theorem bk_t : (("knots" : Str) == "text") = false := by decide +kernel
theorem bk_a : (("knots" : Str) == "at") = false := by decide +kernel
theorem bk_k : (("knots" : Str) == "knots") = true := by decide +kernel
theorem rf_text (cs : List Nat) (i n : Nat) : (rf cs i n).lookup ("text" : Str) = some (D.str (tx cs)) := by simp only [rf, List.lookup, bt_t]
theorem rf_lat (cs : List Nat) (i n : Nat) : (rf cs i n).lookup ("at" : Str) = some (D.int (i : Nat)) := by simp only [rf, List.lookup, ba_t, ba_a]
theorem rf_lkn (cs : List Nat) (i n : Nat) : (rf cs i n).lookup ("knots" : Str) = some (D.int (n : Nat)) := by simp only [rf, List.lookup, bk_t, bk_a, bk_k]
theorem rf_no (cs : List Nat) (i n : Nat) {m : Str} (h1 : (m == "text") = false) (h2 : (m == "at") = false) (h3 : (m == "knots") = false) : (rf cs i n).lookup m = none := by simp only [rf, List.lookup, h1, h2, h3]
theorem putFD_len (f : Str) (d : D) : ∀ fs : List (Str × D), (putFD f d fs).length ≤ fs.length + 1
  | [] => Nat.le_refl _
  | (g, x) :: r => by
    show (if g = f then (g, d) :: r else (g, x) :: putFD f d r).length ≤ _
    have := putFD_len f d r
    split <;> simp only [List.length_cons] <;> (first | lia | omega)
theorem rf_init (cs : List Nat) : putFD "knots" (.int 0) (putFD "at" (.int 0) (putFD "text" (.str (tx cs)) [])) = rf cs 0 0 := by
  have e : putFD "at" (.int 0) (putFD "text" (.str (tx cs)) []) = [(("text" : Str), D.str (tx cs)), (("at" : Str), D.int 0)] := by
    show (if ("text" : Str) = "at" then _ else (("text" : Str), D.str (tx cs)) :: [(("at" : Str), D.int 0)]) = _
    rw [if_neg nta]
  rw [e]
  show (if ("text" : Str) = "knots" then _ else (("text" : Str), D.str (tx cs)) :: (if ("at" : Str) = "knots" then _ else (("at" : Str), D.int 0) :: [(("knots" : Str), D.int 0)])) = _
  rw [if_neg ntk, if_neg nak]; rfl
noncomputable def RD (mg : Str → Option Value) (M : DH) (a dx : Addr) (cs : List Nat) (i n : Nat) : Prop := M a = some (.ins (cl mg "Reader") dx (rf cs i n))
noncomputable def spInit (mg : Str → Option Value) : SpD := fun ds M Q => ∃ (a dx : Addr) (cs : List Nat), ds = [.ref a, .str (tx cs)] ∧ M a = some (.ins (cl mg "Reader") dx []) ∧ Q .non (updM M a (.ins (cl mg "Reader") dx (rf cs 0 0)))
theorem ok_init (T : Txt K mg) : FnI P w K mg base (cl mg "Reader") 1 ["self", "text"] (spInit mg) := by
  refine def_okI T.f_Reader___init__ sc_Reader___init__ (fun ds M Q h => ?_) fun f cdv A outer s H E hr => ⟨_, (ss_cons (s_fld T.c_Reader T.a_Reader_text (d_var 0) (d_var 1))
 (ss_cons (s_fld T.c_Reader T.a_Reader_at (d_var 0) d_int)
 (ss_one (s_fld T.c_Reader T.a_Reader_knots (d_var 0) d_int)))), fun ds M Q h => ?_⟩
  · obtain ⟨a, dx, cs, rfl, _⟩ := h; rfl
  · refine el_3_3 h ?_; clear h; intro a dx cs zq244 ha q
    obtain rfl := zq244
    refine in_eeeccc a dx _ rfl ha (by decide) ?_
    refine in_eeeccc a dx _ rfl updM_same (by show 1 < 1000; decide) ?_
    refine in_eeeccc a dx _ rfl updM_same ?_ ?_
    · have h1 := putFD_len "at" (.int 0) (putFD "text" (.str (tx cs)) [])
      have h2 := putFD_len "text" (.str (tx cs)) []
      simp only [List.length_nil] at h2
      show (putFD "at" (.int 0) (putFD "text" (.str (tx cs)) [])).length < 1000
      (first | lia | omega)
    · refine in_ec _ (Sub.refl _) ?_
      rw [updM_upd, updM_upd]
      have := rf_init cs
      show Q .non (updM M a (.ins (cl mg "Reader") dx (putFD "knots" (.int 0) (putFD "at" (.int 0) (putFD "text" (.str (tx cs)) [])))))
      rw [this]; exact q
noncomputable def spHere (mg : Str → Option Value) : SpD := fun ds M Q => ∃ (a dx : Addr) (cs : List Nat) (i n : Nat), ds = [.ref a] ∧ RD mg M a dx cs i n ∧ i ≤ cs.length ∧ cs.length ≤ 100000 ∧ Q (.str (tx ((cs.drop i).take 1))) M
theorem here_slice {cs : List Nat} {i : Nat} (h : i ≤ cs.length) : Txt.slice (tx cs) (some (i : Int)) (some ((i : Int) + 1)) = tx ((cs.drop i).take 1) := by
  rcases Nat.lt_or_ge i cs.length with h1 | h1
  · have := slice_tx cs (a := i) (b := i + 1) (by (first | lia | omega)) (by (first | lia | omega))
    rw [show i + 1 - i = 1 by (first | lia | omega)] at this
    exact this
  · have : i = cs.length := by (first | lia | omega)
    subst this
    rw [slice_end, List.drop_length]; rfl
theorem ok_here (T : Txt K mg) : FnM P w K mg base (cl mg "Reader") 1 "sign_here" ["self"] (spHere mg) := by
  refine def_okM T.f_Reader_sign_here sc_Reader_sign_here (fun ds M Q h => ?_) fun f cdv A outer s H E hr => ⟨_, (ss_one (s_ret (d_sl sd_sl (d_fld T.c_Reader T.a_Reader_text (d_var 0)) (o_some (d_fld T.c_Reader T.a_Reader_at (d_var 0))) (o_some (d_op od_add (d_fld T.c_Reader T.a_Reader_at (d_var 0)) d_int))))), fun ds M Q h => ?_⟩
  · obtain ⟨a, dx, cs, i, n, rfl, _⟩ := h; rfl
  · refine el_5_5 h ?_; clear h; intro a dx cs i n zq245 ha hi hl q
    obtain rfl := zq245
    refine ⟨a, dx, _, _, rfl, ha, rf_text cs i n, a, dx, _, _, rfl, ha, rf_lat cs i n, a, dx, _, _, rfl, ha, rf_lat cs i n, ?_⟩
    show (tx cs).length ≤ sizeLine ∧ (endsOf Q).rt (.str (Txt.slice (tx cs) (some (i : Int)) (some ((i : Int) + 1)))) M
    rw [here_slice hi]
    exact ⟨by rw [tx_len]; have h3 : sizeLine = 16777216 := sizeLine_eq; (first | lia | omega), rt_done q⟩
theorem num_len (n : Int) : (numT n).length = (figs n).length := by show (numT n).cps.size = (numT n).cps.toList.length; simp
theorem scan {cs u rest : List Nat} {s j : Nat} {p : Nat → Bool} (e : cs.drop s = u ++ rest) (hu : ∀ c ∈ u, p c = true) (hr : ∀ c r, rest = c :: r → p c = false) (h1 : s ≤ j) (h2 : j ≤ s + u.length) : ((cs.drop j).take 1).any p = decide (j < s + u.length) := by
  have e2 : cs.drop j = u.drop (j - s) ++ rest := by
    have : cs.drop j = (cs.drop s).drop (j - s) := by rw [List.drop_drop]; congr 1; (first | lia | omega)
    rw [this, e, List.drop_append_of_le_length (by (first | lia | omega))]
  rw [e2]
  rcases Nat.lt_or_ge j (s + u.length) with h | h
  · rw [decide_eq_true h]
    have hl : j - s < u.length := by (first | lia | omega)
    rw [List.drop_eq_getElem_cons hl, List.cons_append, List.take_succ_cons, List.take_zero]
    have := hu _ (List.getElem_mem hl)
    simp [this]
  · rw [decide_eq_false (by (first | lia | omega))]
    have : u.drop (j - s) = [] := List.drop_eq_nil_of_le (by (first | lia | omega))
    rw [this, List.nil_append]
    cases rest with
    | nil => rfl
    | cons c r => simp [hr c r rfl]
theorem run_slice {cs u rest : List Nat} {s : Nat} (hs : s ≤ cs.length) (e : cs.drop s = u ++ rest) : Txt.slice (tx cs) (some (s : Int)) (some ((s + u.length : Nat) : Int)) = tx u ∧ s + u.length ≤ cs.length := by
  have hl : u.length + rest.length = cs.length - s := by
    have := congrArg List.length e
    rw [List.length_drop, List.length_append] at this
    (first | lia | omega)
  refine ⟨?_, by (first | lia | omega)⟩
  rw [slice_tx cs (by (first | lia | omega)) (by (first | lia | omega)), e, show s + u.length - s = u.length by (first | lia | omega), List.take_left]
theorem len_ok {cs : List Nat} (h : cs.length ≤ 100000) : (tx cs).length ≤ sizeLine := by
  rw [tx_len]; have h3 : sizeLine = 16777216 := sizeLine_eq; (first | lia | omega)
noncomputable def stopF (rest : List Nat) : Prop := ∀ c r, rest = c :: r → isF c = false
noncomputable def isN (c : Nat) : Bool := isL c || isF c
theorem any_or (l : List Nat) : l.any isN = (l.any isL || l.any isF) := by
  induction l with
  | nil => rfl
  | cons c l ih => rw [List.any_cons, List.any_cons, List.any_cons, ih]; show (isL c || isF c || _) = _; cases isL c <;> cases isF c <;> simp
theorem name_head {cs : List Nat} (h : nameL cs = true) : ∃ c r, cs = c :: r ∧ isL c = true := by
  cases cs with
  | nil => cases h
  | cons c r =>
    have h' : (decide (r.length < 12) && isL c && r.all fun k => isL k || isF k) = true := h
    simp only [Bool.and_eq_true] at h'
    exact in_eec c r rfl h'.1.2
noncomputable def stopN (rest : List Nat) : Prop := ∀ c r, rest = c :: r → isN c = false
mutual
noncomputable def enc : Tree → List Nat
  | .block n ps => n.cps.toList ++ encP ps
  | .blank k => 63 :: figs k
noncomputable def encP : List Tree → List Nat
  | [] => []
  | p :: ps => 40 :: (enc p ++ encT ps)
noncomputable def encT : List Tree → List Nat
  | [] => [41]
  | p :: ps => 44 :: (enc p ++ encT ps)
end
mutual
noncomputable def Tree.wf : Tree → Prop
  | .block n ps => nameL n.cps.toList = true ∧ ps.length ≤ 9 ∧ Tree.wfs ps
  | .blank k => 1 ≤ k ∧ k ≤ 10 ^ 9
noncomputable def Tree.wfs : List Tree → Prop
  | [] => True
  | t :: ts => t.wf ∧ Tree.wfs ts
end
theorem drop_step {cs a b : List Nat} {i : Nat} (hi : i ≤ cs.length) (h : cs.drop i = a ++ b) : cs.drop (i + a.length) = b ∧ i + a.length ≤ cs.length := by
  have hl : a.length + b.length = cs.length - i := by
    have := congrArg List.length h
    rw [List.length_drop, List.length_append] at this
    (first | lia | omega)
  refine ⟨?_, by (first | lia | omega)⟩
  rw [← List.drop_drop, h, List.drop_left]
noncomputable def val (u : List Nat) : Nat := u.foldl (fun a c => 10 * a + (c - 48)) 0
theorem val_snoc (u : List Nat) (c : Nat) : val (u ++ [c]) = 10 * val u + (c - 48) := by unfold val; rw [List.foldl_append]; rfl
theorem dig_one : ∀ d : Nat, d < 10 → (Nat.toDigits 10 d).map Char.toNat = [d + 48] := by decide
theorem isF_range {c : Nat} (h : isF c = true) : 48 ≤ c ∧ c ≤ 57 := by
  unfold isF at h
  simp only [Bool.and_eq_true, Bool.not_eq_true', decide_eq_false_iff_not] at h
  (first | lia | omega)
theorem rev_ind {p : List Nat → Prop} (h0 : p []) (h1 : ∀ u c, p u → p (u ++ [c])) (u : List Nat) : p u := by
  have h : ∀ v : List Nat, p v.reverse := fun v => by
    induction v with
    | nil => exact h0
    | cons c v ih => rw [List.reverse_cons]; exact h1 _ _ ih
  have := h u.reverse
  rwa [List.reverse_reverse] at this
theorem val_pos : ∀ (u : List Nat), (∀ c ∈ u, isF c = true) → u ≠ [] → u.head? ≠ some 48 → 1 ≤ val u := by
  intro u
  refine rev_ind (p := fun u => (∀ c ∈ u, isF c = true) → u ≠ [] → u.head? ≠ some 48 → 1 ≤ val u) ?_ ?_ u
  · intro _ h; exact absurd rfl h
  · intro u c ih ha _ hh
    have hc := isF_range (ha c (by simp))
    rw [val_snoc]
    cases u with
    | nil =>
      have : c ≠ 48 := fun z => hh (by rw [z]; rfl)
      (first | lia | omega)
    | cons b r =>
      have := ih (fun x hx => ha x (List.mem_append_left _ hx)) (by simp) (by simpa using hh)
      (first | lia | omega)
theorem figs_val : ∀ (u : List Nat), (∀ c ∈ u, isF c = true) → u ≠ [] → u.head? ≠ some 48 → figs (val u : Nat) = u := by
  intro u
  refine rev_ind (p := fun u => (∀ c ∈ u, isF c = true) → u ≠ [] → u.head? ≠ some 48 → figs (val u : Nat) = u) ?_ ?_ u
  · intro _ h; exact absurd rfl h
  · intro u c ih ha _ hh
    have hc := isF_range (ha c (by simp))
    rw [figs_nat, val_snoc]
    cases u with
    | nil =>
      show (Nat.toDigits 10 (10 * 0 + (c - 48))).map Char.toNat = [c]
      rw [Nat.mul_zero, Nat.zero_add, dig_one _ (by (first | lia | omega))]
      congr 1; (first | lia | omega)
    | cons b r =>
      have ha' : ∀ x ∈ b :: r, isF x = true := fun x hx => ha x (List.mem_append_left _ hx)
      have hh' : (b :: r).head? ≠ some 48 := by simpa using hh
      have h1 := ih ha' (by simp) hh'
      have h2 := val_pos (b :: r) ha' (by simp) hh'
      rw [figs_nat] at h1
      rw [← Nat.toDigits_append_toDigits (b := 10) (by decide) (by (first | lia | omega)) (by (first | lia | omega)), List.map_append, h1, dig_one _ (by (first | lia | omega))]
      congr 2; (first | lia | omega)
noncomputable def badNum (u : List Nat) : Bool := u.isEmpty || decide (u.head? = some 48) || decide (10 < u.length) || decide (1000000000 < val u)
inductive RR where
  | got (t : Tree) (rest : List Nat) (kn : Nat)
  | no (e : Bool)
inductive PR where
  | got (ps : List Tree) (rest : List Nat) (kn : Nat)
  | no (e : Bool)
noncomputable def rdL (f : List Nat → Nat → RR) : Nat → List Nat → Nat → List Tree → PR
  | m, cs, kn, acc => match f cs kn with
    | .no e => .no e
    | .got t rest kn2 => match rest, m with
      | [], _ => .no true
      | c :: r, 0 => if c = 41 then .got (acc ++ [t]) r kn2 else .no true
      | c :: r, m + 1 => if c = 44 then rdL f m r kn2 (acc ++ [t]) else if c = 41 then .got (acc ++ [t]) r kn2 else .no true
noncomputable def isO (rest : List Nat) : Bool := match rest with
  | [] => false
  | c :: _ => decide (c = 40)
noncomputable def rdT : Nat → List Nat → Nat → Nat → RR
  | 0, _, _, _ => .no false
  | _ + 1, [], _, _ => .no true
  | n + 1, c :: r, kn, dep =>
    if c = 63 then
      if 200 ≤ kn ∨ 30 < dep then .no false
      else if badNum (r.takeWhile isF) = true then .no true
      else .got (.blank (val (r.takeWhile isF) : Nat)) (r.dropWhile isF) (kn + 1)
    else if isL c = true then
      if 200 ≤ kn ∨ 30 < dep then .no false
      else if nameL ((c :: r).takeWhile isN) = false then .no true
      else if isO ((c :: r).dropWhile isN) = true then
        match rdL (fun cs k => rdT n cs k (dep + 1)) 8 ((c :: r).dropWhile isN).tail (kn + 1) [] with
        | .no e => .no e
        | .got ps rest kn2 => .got (.block (tx ((c :: r).takeWhile isN)) ps) rest kn2
      else .got (.block (tx ((c :: r).takeWhile isN)) []) ((c :: r).dropWhile isN) (kn + 1)
    else .no true
theorem drop_stop {p : Nat → Bool} : ∀ (u : List Nat) (c : Nat) (r : List Nat), u.dropWhile p = c :: r → p c = false
  | [], _, _, e => by simp at e
  | b :: u, c, r, e => by
    rw [List.dropWhile_cons] at e
    by_cases h : p b = true
    · rw [if_pos h] at e; exact drop_stop u c r e
    · rw [if_neg h] at e; cases e; simpa using h
theorem take_all {p : Nat → Bool} : ∀ (u : List Nat) (c : Nat), c ∈ u.takeWhile p → p c = true
  | [], _, e => by simp at e
  | b :: u, c, e => by
    rw [List.takeWhile_cons] at e
    by_cases h : p b = true
    · rw [if_pos h] at e
      rcases List.mem_cons.mp e with rfl | e
      · exact h
      · exact take_all u c e
    · rw [if_neg h] at e; cases e
theorem badNum_no {u : List Nat} (h : badNum u = false) : u ≠ [] ∧ u.head? ≠ some 48 ∧ u.length ≤ 10 ∧ val u ≤ 1000000000 := by
  unfold badNum at h
  simp only [Bool.or_eq_false_iff, decide_eq_false_iff_not] at h
  refine el_0_2 h ?_; clear h; intro zq246 h4
  refine el_0_2 zq246 ?_; clear zq246; intro zq247 h3
  refine el_0_2 zq247 ?_; clear zq247; intro h1 h2
  exact ⟨fun z => (by rw [z] at h1; cases h1), h2, by (first | lia | omega), by (first | lia | omega)⟩
theorem rdL_enc {f : List Nat → Nat → RR} {b : Nat} (hf : ∀ cs kn t rest kn2, f cs kn = .got t rest kn2 → cs = enc t ++ rest ∧ t.wf ∧ t.depth ≤ b ∧ kn2 = kn + t.knots ∧ (kn ≤ 200 → kn2 ≤ 200)) :
    ∀ (m : Nat) (cs : List Nat) (kn : Nat) (acc ps : List Tree) (rest : List Nat) (kn2 : Nat), rdL f m cs kn acc = .got ps rest kn2 → ∃ p us, ps = acc ++ p :: us ∧ cs = enc p ++ (encT us ++ rest) ∧ us.length ≤ m ∧ Tree.wfs (p :: us) ∧ Tree.depths (p :: us) ≤ b ∧ kn2 = kn + Tree.knotss (p :: us) ∧ (kn ≤ 200 → kn2 ≤ 200) := by
  intro m
  induction m with
  | zero =>
    intro cs kn acc ps rest kn2 e
    rw [rdL] at e
    cases ef : f cs kn with
    | no x => rw [ef] at e; cases e
    | got t r k =>
      rw [ef] at e
      refine el_0_5 (hf _ _ _ _ _ ef) ?_; intro h1 h2 h3 h4 h5
      cases r with
      | nil => cases e
      | cons c r =>
        have e' : (if c = 41 then PR.got (acc ++ [t]) r k else .no true) = .got ps rest kn2 := e
        by_cases hc : c = 41
        · rw [if_pos hc] at e'; cases e'; subst hc
          exact ⟨t, [], rfl, by rw [encT]; exact h1, Nat.zero_le _, ⟨h2, trivial⟩, by show max _ 0 ≤ _; (first | lia | omega), by show _ = _ + (_ + 0); (first | lia | omega), h5⟩
        · rw [if_neg hc] at e'; cases e'
  | succ m ih =>
    intro cs kn acc ps rest kn2 e
    rw [rdL] at e
    cases ef : f cs kn with
    | no x => rw [ef] at e; cases e
    | got t r k =>
      rw [ef] at e
      refine el_0_5 (hf _ _ _ _ _ ef) ?_; intro h1 h2 h3 h4 h5
      cases r with
      | nil => cases e
      | cons c r =>
        have e' : (if c = 44 then rdL f m r k (acc ++ [t]) else if c = 41 then PR.got (acc ++ [t]) r k else .no true) = .got ps rest kn2 := e
        by_cases hd : c = 44
        · rw [if_pos hd] at e'
          refine el_2_7 (ih _ _ _ _ _ _ e') ?_; intro p us g1 g2 g3 g4 g5 g6 g7
          subst hd
          refine ⟨t, p :: us, by rw [g1]; simp, ?_, by rw [List.length_cons]; (first | lia | omega), ⟨h2, g4⟩, by rw [Tree.depths]; (first | lia | omega), by rw [Tree.knotss]; (first | lia | omega), fun z => g7 (h5 z)⟩
          rw [h1, g2, encT]; simp
        · rw [if_neg hd] at e'
          by_cases hc : c = 41
          · rw [if_pos hc] at e'; cases e'; subst hc
            exact ⟨t, [], rfl, by rw [encT]; exact h1, Nat.zero_le _, ⟨h2, trivial⟩, by show max _ 0 ≤ _; (first | lia | omega), by show _ = _ + (_ + 0); (first | lia | omega), h5⟩
          · rw [if_neg hc] at e'; cases e'
theorem rdT_enc : ∀ (n : Nat) (cs : List Nat) (kn dep : Nat) (t : Tree) (rest : List Nat) (kn2 : Nat), rdT n cs kn dep = .got t rest kn2 → cs = enc t ++ rest ∧ t.wf ∧ dep + t.depth ≤ 31 ∧ t.depth ≤ n ∧ kn2 = kn + t.knots ∧ kn2 ≤ 200
  | 0, _, _, _, _, _, _, e => by rw [rdT] at e; cases e
  | n + 1, [], _, _, _, _, _, e => by rw [rdT] at e; cases e
  | n + 1, c :: r, kn, dep, t, rest, kn2, e => by
    rw [rdT] at e
    by_cases hq : c = 63
    · rw [if_pos hq] at e
      by_cases hb : 200 ≤ kn ∨ 30 < dep
      · rw [if_pos hb] at e; cases e
      · rw [if_neg hb] at e
        by_cases hn : badNum (r.takeWhile isF) = true
        · rw [if_pos hn] at e; cases e
        · rw [if_neg hn] at e
          cases e
          refine el_0_4 (badNum_no (by simpa using hn)) ?_; intro b1 b2 b3 b4
          have hv := val_pos _ (fun c hc => take_all r c hc) b1 b2
          refine ⟨?_, ?_, by show dep + 1 ≤ 31; (first | lia | omega), by show 1 ≤ n + 1; (first | lia | omega), rfl, by (first | lia | omega)⟩
          · rw [enc, figs_val _ (fun c hc => take_all r c hc) b1 b2, hq, List.cons_append, List.takeWhile_append_dropWhile]
          · rw [Tree.wf]; exact ⟨by (first | lia | omega), by (first | lia | omega)⟩
    · rw [if_neg hq] at e
      by_cases hL : isL c = true
      · rw [if_pos hL] at e
        by_cases hb : 200 ≤ kn ∨ 30 < dep
        · rw [if_pos hb] at e; cases e
        · rw [if_neg hb] at e
          by_cases hn : nameL ((c :: r).takeWhile isN) = false
          · rw [if_pos hn] at e; cases e
          · rw [if_neg hn] at e
            have hn' : nameL ((c :: r).takeWhile isN) = true := by simpa using hn
            by_cases hO : isO ((c :: r).dropWhile isN) = true
            · rw [if_pos hO] at e
              cases el : rdL (fun cs k => rdT n cs k (dep + 1)) 8 ((c :: r).dropWhile isN).tail (kn + 1) [] with
              | no x => rw [el] at e; cases e
              | got ps rs k =>
                rw [el] at e
                cases e
                obtain ⟨p, us, g1, g2, g3, g4, g5, g6, g7⟩ := rdL_enc (b := min n (30 - dep)) (fun cs kn t rest kn2 z => by
                  have := rdT_enc n cs kn (dep + 1) t rest kn2 z
                  exact ⟨this.1, this.2.1, by (first | lia | omega), this.2.2.2.2.1, fun _ => this.2.2.2.2.2⟩) _ _ _ _ _ _ _ el
                rw [List.nil_append] at g1
                subst g1
                refine ⟨?_, ?_, by rw [Tree.depth]; (first | lia | omega), by rw [Tree.depth]; (first | lia | omega), by rw [Tree.knots]; (first | lia | omega), g7 (by (first | lia | omega))⟩
                · rw [enc, encP]
                  have e0 : (c :: r).dropWhile isN = 40 :: ((c :: r).dropWhile isN).tail := by
                    cases hd : (c :: r).dropWhile isN with
                    | nil => rw [hd] at hO; cases hO
                    | cons x y => rw [hd] at hO; have : x = 40 := by simpa [isO] using hO
                                  rw [this]; rfl
                  have e1 := List.takeWhile_append_dropWhile (p := isN) (l := c :: r)
                  rw [e0, g2] at e1
                  rw [tx_cps]; refine e1.symm.trans ?_; simp
                · rw [Tree.wf, tx_cps]; exact ⟨hn', by rw [List.length_cons]; (first | lia | omega), g4⟩
            · rw [if_neg hO] at e
              cases e
              refine ⟨?_, ?_, by show dep + (0 + 1) ≤ 31; (first | lia | omega), by show 0 + 1 ≤ n + 1; (first | lia | omega), rfl, by (first | lia | omega)⟩
              · rw [enc, encP, tx_cps, List.append_nil, List.takeWhile_append_dropWhile]
              · rw [Tree.wf, tx_cps]; exact ⟨hn', by decide, trivial⟩
      · rw [if_neg hL] at e; cases e
noncomputable def Keep (a : Addr) (M M1 : DH) : Prop := ∀ c o, c ≠ a → M c = some o → M1 c = some o
theorem Keep.upd {a : Addr} {M M1 : DH} {o : MO} (h : Keep a M M1) : Keep a M (updM M1 a o) := fun c x hc e => by rw [updM_ne hc]; exact h c x hc e
theorem Keep.refl (a : Addr) (M : DH) : Keep a M M := fun _ _ _ e => e
theorem Keep.trans {a : Addr} {M M1 M2 : DH} (h : Keep a M M1) (s : Keep a M1 M2) : Keep a M M2 := fun c o hc e => s c o hc (h c o hc e)
theorem Keep.out {a : Addr} {M M1 : DH} {o : MO} (h : Keep a (updM M a o) M1) : Keep a M M1 := fun c x hc e => h c x hc (by rw [updM_ne hc]; exact e)
noncomputable def ecl (mg : Str → Option Value) : Bool → Addr
  | true => cl mg "BadText"
  | false => cl mg "TooLong"
noncomputable def spBeginE (mg : Str → Option Value) : SpE := fun ds M Q EX => ∃ (a dx : Addr) (cs : List Nat) (i n dep : Nat), ds = [.ref a, .int (dep : Nat)] ∧ RD mg M a dx cs i n ∧
  ((200 ≤ n ∨ 30 < dep) → ∀ M1, Keep a M M1 → EX (.ref (ecl mg false)) M1) ∧ (¬ (200 ≤ n ∨ 30 < dep) → Q .non (updM M a (.ins (cl mg "Reader") dx (rf cs i (n + 1)))))
theorem ok_beginE (T : Txt K mg) : FnME P w K mg base (cl mg "Reader") 1 "begin_knot" ["self", "depth"] (spBeginE mg) := by
  refine el_1_1 (T.g_MOST_DEPTH) ?_; intro t_MOST_DEPTH g_MOST_DEPTH
  refine el_1_1 (T.g_MOST_KNOTS) ?_; intro t_MOST_KNOTS g_MOST_KNOTS
  refine def_okME T.f_Reader_begin_knot sc_Reader_begin_knot (fun ds M Q E h => ?_) fun f cdv A outer s H E EX hr hx hp => ⟨_, (ss_cons (s_fldAug T.c_Reader T.a_Reader_knots (d_var 0) d_int)
 (ss_cons (s_if (dt_cmp od_gt (d_fld T.c_Reader T.a_Reader_knots (d_var 0)) (d_glob_int rfl g_MOST_KNOTS ⟨_, rfl⟩) (nomark _)) (ss_one (s_raise hx rfl (xc_TooLong T) (a_cons d_str a_nil))) ss_nil)
 (ss_one (s_if (dt_cmp od_gt (d_var 1) (d_glob_int rfl g_MOST_DEPTH ⟨_, rfl⟩) (nomark _)) (ss_one (s_raise hx rfl (xc_TooLong T) (a_cons d_str a_nil))) ss_nil)))), fun ds M Q h => ?_⟩
  · obtain ⟨a, dx, cs, i, n, dep, rfl, _⟩ := h; rfl
  · refine el_6_4 h ?_; clear h; intro a dx cs i n dep zq248 ha hE q
    obtain rfl := zq248
    refine in_eeeeccceeeccc a dx _ ((n : Int)) rfl ha (rf_lkn cs i n) 1 dx _ rfl ha (by show 3 < 1000; decide) ?_
    have e : putFD "knots" (.int ((n : Int) + 1)) (rf cs i n) = rf cs i (n + 1) := rf_knots cs i n (n + 1)
    rw [e]
    refine in_eeeeccc a dx _ _ rfl updM_same (rf_lkn cs i (n + 1)) ?_
    show if decide ((200 : Int) < ((n + 1 : Nat) : Int)) = true then _ else _
    by_cases h1 : 200 ≤ n
    · first | refine ifT (show (200 : Int) < ((n + 1 : Nat) : Int) by (first | lia | omega)) ?_ | rw [decide_eq_true (show (200 : Int) < ((n + 1 : Nat) : Int) by (first | lia | omega)), if_pos rfl]
      exact ⟨by show 1 ≤ 1000; decide, hE (.inl h1) _ (Keep.refl a M).upd⟩
    · first | refine ifF (show ¬ (200 : Int) < ((n + 1 : Nat) : Int) by (first | lia | omega)) ?_ | rw [decide_eq_false (show ¬ (200 : Int) < ((n + 1 : Nat) : Int) by (first | lia | omega)), if_neg Bool.false_ne_true]
      show if decide ((30 : Int) < (dep : Int)) = true then _ else _
      by_cases h2 : 30 < dep
      · first | refine ifT (show (30 : Int) < (dep : Int) by (first | lia | omega)) ?_ | rw [decide_eq_true (show (30 : Int) < (dep : Int) by (first | lia | omega)), if_pos rfl]
        exact ⟨by show 1 ≤ 1000; decide, hE (.inr h2) _ (Keep.refl a M).upd⟩
      · first | refine ifF (show ¬ (30 : Int) < (dep : Int) by (first | lia | omega)) ?_ | rw [decide_eq_false (show ¬ (30 : Int) < (dep : Int) by (first | lia | omega)), if_neg Bool.false_ne_true]
        exact ⟨_, Sub.refl _, q (by (first | lia | omega))⟩
theorem tx_starts (u : List Nat) : (decide (0 + (Str.ofString "0").length ≤ (tx u).length) && Builtin.Str.subAt (tx u) "0" 0) = decide (u.head? = some 48) := by
  rw [PySem.StrLaws.subAt_eq]
  have e : ((tx u).cps.toList.drop 0).take (Str.ofString "0").length = u.take 1 := rfl
  have e2 : (Str.ofString "0").cps.toList = [48] := rfl
  rw [show (("0" : Str)) = Str.ofString "0" from rfl, e, e2]
  cases u with
  | nil => rfl
  | cons c r =>
    have h1 : decide (0 + (Str.ofString "0").length ≤ (tx (c :: r)).length) = true := decide_eq_true (by rw [tx_len, List.length_cons]; show 0 + 1 ≤ _; (first | lia | omega))
    rw [h1, Bool.true_and]
    show ([c] == [48]) = decide (some c = some 48)
    by_cases hc : c = 48
    · subst hc; rfl
    · rw [decide_eq_false (by simpa using hc)]; simpa using hc
theorem val_lt : ∀ u : List Nat, (∀ c ∈ u, isF c = true) → val u < 10 ^ u.length := by
  intro u
  refine rev_ind (p := fun u => (∀ c ∈ u, isF c = true) → val u < 10 ^ u.length) ?_ ?_ u
  · intro _; decide
  · intro u c ih ha
    have hc := isF_range (ha c (by simp))
    have := ih fun x hx => ha x (List.mem_append_left _ hx)
    rw [val_snoc, List.length_append]
    show _ < 10 ^ (u.length + 1)
    rw [Nat.pow_succ]; (first | lia | omega)
theorem val_big {u : List Nat} (ha : ∀ c ∈ u, isF c = true) (h : u.length ≤ 10) : val u < 10 ^ 10 := Nat.lt_of_lt_of_le (val_lt u ha) (Nat.pow_le_pow_right (by decide) h)
noncomputable def spBNE (mg : Str → Option Value) : SpE := fun ds M Q EX => ∃ u : List Nat, ds = [.str (tx u)] ∧ (∀ c ∈ u, isF c = true) ∧ u.length ≤ 100000 ∧ (badNum u = true → EX (.ref (ecl mg true)) M) ∧ (badNum u = false → Q (.int (val u : Nat)) M)
theorem ok_bnE (T : Txt K mg) : FnE P w K mg base 1 "blank_number" ["figures"] (spBNE mg) := by
  have m_int := T.m_int
  have m_len := T.m_len
  refine el_1_1 (T.g_MOST_BLANK) ?_; intro t_MOST_BLANK g_MOST_BLANK
  refine el_1_1 (T.g_MOST_BLANK_FIGURES) ?_; intro t_MOST_BLANK_FIGURES g_MOST_BLANK_FIGURES
  refine def_okE T.f_blank_number sc_blank_number (fun ds M Q E h => ?_) fun f cdv A outer s H E EX hr hx hp => ⟨_, (ss_cons (s_if (PW.pt (dw_or (dt_cmp (od_eq hr) (d_var 0) d_str (nomark _)) (dw_or1 (dt_val (d_bm PySem.F.plainAttrs_str PySem.F.slot_str_startswith PySem.F.type_str_startswith md_startswith (d_var 0) (a_cons d_str a_nil)))))) (ss_one (s_raise hx rfl (xc_BadText T) (a_cons d_str a_nil))) ss_nil)
 (ss_cons (s_if (PW.pt (dw_or (dt_cmp od_gt (d_callB cd_len rfl m_len bt_len (a_cons (d_var 0) a_nil)) (d_glob_int rfl g_MOST_BLANK_FIGURES ⟨_, rfl⟩) (nomark _)) (dw_or1 (dt_cmp od_gt (d_callTy cd_intT rfl m_int bt_int (a_cons (d_var 0) a_nil)) (d_glob_int rfl g_MOST_BLANK ⟨_, rfl⟩) (nomark _))))) (ss_one (s_raise hx rfl (xc_BadText T) (a_cons d_str a_nil))) ss_nil)
 (ss_one (s_ret (d_callTy cd_intT rfl m_int bt_int (a_cons (d_var 0) a_nil)))))), fun ds M Q h => ?_⟩
  · obtain ⟨n, rfl, _⟩ := h; rfl
  · refine el_1_5 h ?_; clear h; intro u zq249 hF hl hE q
    obtain rfl := zq249
    show if decide (tx u = Str.ofString "") = true then _ else _
    cases u with
    | nil => exact ⟨by show 1 ≤ 1000; decide, hE rfl⟩
    | cons c r =>
      rw [decide_eq_false (fun z => by cases tx_inj (a := c :: r) (b := []) z)]
      refine ⟨rfl, ?_⟩
      show if (decide (0 + (Str.ofString "0").length ≤ (tx (c :: r)).length) && Builtin.Str.subAt (tx (c :: r)) "0" 0) = true then _ else _
      rw [tx_starts]
      by_cases h0 : (c :: r).head? = some 48
      · rw [decide_eq_true h0]
        exact ⟨by show 1 ≤ 1000; decide, hE (by unfold badNum; rw [decide_eq_true h0]; simp)⟩
      · rw [decide_eq_false h0]
        refine ⟨len_ok hl, ?_⟩
        show if decide ((10 : Int) < ((tx (c :: r)).length : Int)) = true then _ else _
        by_cases h1 : 10 < (c :: r).length
        · rw [decide_eq_true (show (10 : Int) < ((tx (c :: r)).length : Int) by rw [tx_len]; (first | lia | omega))]
          exact ⟨by show 1 ≤ 1000; decide, hE (by unfold badNum; rw [decide_eq_true h1]; simp)⟩
        · rw [decide_eq_false (show ¬ (10 : Int) < ((tx (c :: r)).length : Int) by rw [tx_len]; (first | lia | omega))]
          have hv := val_big hF (by (first | lia | omega))
          have en : tx (c :: r) = numT (val (c :: r) : Nat) := by rw [← figs_tx, figs_val _ hF (by simp) h0]
          refine ⟨((val (c :: r) : Nat) : Int), en, ⟨by (first | lia | omega), by (first | lia | omega)⟩, ?_⟩
          show if decide ((1000000000 : Int) < ((val (c :: r) : Nat) : Int)) = true then _ else _
          by_cases h2 : 1000000000 < val (c :: r)
          · rw [decide_eq_true (show (1000000000 : Int) < ((val (c :: r) : Nat) : Int) by (first | lia | omega))]
            exact ⟨by show 1 ≤ 1000; decide, hE (by unfold badNum; rw [decide_eq_true h2]; simp)⟩
          · rw [decide_eq_false (show ¬ (1000000000 : Int) < ((val (c :: r) : Nat) : Int) by (first | lia | omega))]
            exact ⟨((val (c :: r) : Nat) : Int), en, ⟨by (first | lia | omega), by (first | lia | omega)⟩, M, Sub.refl _, q (by unfold badNum; rw [decide_eq_false h0, decide_eq_false h1, decide_eq_false h2]; rfl)⟩
noncomputable def spBlE (mg : Str → Option Value) : SpE := fun ds M Q EX => ∃ (a dx : Addr) (cs : List Nat) (i n : Nat), ds = [.ref a] ∧ RD mg M a dx cs i n ∧ i < cs.length ∧ cs.length ≤ 100000 ∧
  (badNum ((cs.drop (i + 1)).takeWhile isF) = true → ∀ M1, Keep a M M1 → EX (.ref (ecl mg true)) M1) ∧
  (badNum ((cs.drop (i + 1)).takeWhile isF) = false → Q (.tup [.str "blank", .int (val ((cs.drop (i + 1)).takeWhile isF) : Nat)]) (updM M a (.ins (cl mg "Reader") dx (rf cs (i + 1 + ((cs.drop (i + 1)).takeWhile isF).length) n))))
theorem ok_blE (T : Txt K mg) : FnME P w K mg base (cl mg "Reader") 3 "read_blank" ["self"] (spBlE mg) := by
  have F_Reader_sign_here := ok_here (P := P) (w := w) (base := base) T
  have F_is_figure := ok_figure (P := P) (w := w) (base := base) T
  have E_blank_number := ok_bnE (P := P) (w := w) (base := base) T
  refine def_okME T.f_Reader_read_blank sc_Reader_read_blank (fun ds M Q E h => ?_) fun f cdv A outer s H E EX hr hx hp => ⟨_, (ss_cons (s_fldAug T.c_Reader T.a_Reader_at (d_var 0) d_int)
 (ss_cons (s_set (i := 1) sc_Reader_read_blank.nd (d_fld T.c_Reader T.a_Reader_at (d_var 0)))
 (ss_cons (s_while hp (dt_val (d_call F_is_figure (hr.mono (by (first | lia | omega))) (a_cons (d_meth0 T.c_Reader F_Reader_sign_here (hr.mono (by (first | lia | omega))) (d_var 0)) a_nil))) (ss_one (s_fldAug T.c_Reader T.a_Reader_at (d_var 0) d_int)))
 (ss_one (s_ret (d_tup (a_cons d_str (a_cons (d_callE E_blank_number hx.toXCame (hr.mono (by (first | lia | omega))) (a_cons (d_sl sd_sl (d_fld T.c_Reader T.a_Reader_text (d_var 0)) (o_some (d_var 1)) (o_some (d_fld T.c_Reader T.a_Reader_at (d_var 0)))) a_nil)) a_nil)))))))), fun ds M Q h => ?_⟩
  · obtain ⟨a, dx, cs, i, n, rfl, _⟩ := h; rfl
  · refine el_5_6 h ?_; clear h; intro a dx cs i n zq250 ha hi hl hE q
    obtain rfl := zq250
    have he : cs.drop (i + 1) = (cs.drop (i + 1)).takeWhile isF ++ (cs.drop (i + 1)).dropWhile isF := List.takeWhile_append_dropWhile.symm
    have hall : ∀ c ∈ (cs.drop (i + 1)).takeWhile isF, isF c = true := fun c hc => take_all _ c hc
    have hst : stopF ((cs.drop (i + 1)).dropWhile isF) := fun c r e => drop_stop _ c r e
    generalize (cs.drop (i + 1)).takeWhile isF = u at *
    generalize (cs.drop (i + 1)).dropWhile isF = rest at *
    obtain ⟨r1, r2⟩ := run_slice (s := i + 1) (by (first | lia | omega)) he
    refine in_eeeeccceeeccc a dx _ ((i : Int)) rfl ha (rf_lat cs i n) 1 dx _ rfl ha (by show 3 < 1000; decide) ?_
    have e : putFD "at" (.int ((i : Int) + 1)) (rf cs i n) = rf cs (i + 1) n := rf_at cs i n (i + 1)
    rw [e]
    refine in_eeeeccc a dx _ _ rfl updM_same (rf_lat cs (i + 1) n) ?_
    refine ⟨fun m τ M' => ∃ j : Nat, m = i + 1 + u.length - j ∧ i + 1 ≤ j ∧ j ≤ i + 1 + u.length ∧ M' = updM M a (.ins (cl mg "Reader") dx (rf cs j n)) ∧ τ = [some (.ref a), some (.int ((i + 1 : Nat) : Int))], ⟨_, i + 1, rfl, Nat.le_refl _, by (first | lia | omega), rfl, rfl⟩, ?_⟩
    intro m τ M' zr251
    refine el_1_5 zr251 ?_; clear zr251; intro j zq252 h1 h2 zq253 zq254
    obtain rfl := zq252
    obtain rfl := zq253
    obtain rfl := zq254
    refine ⟨a, dx, _, rfl, updM_same, rf_no cs j n (by decide +kernel) (by decide +kernel) (by decide +kernel), a, dx, cs, j, n, rfl, updM_same, by (first | lia | omega), hl, ?_⟩
    refine ⟨_, rfl, by rw [List.length_take]; (first | lia | omega), ?_⟩
    rw [scan he hall hst h1 h2]
    show if decide (j < i + 1 + u.length) = true then _ else _
    by_cases hj : j < i + 1 + u.length
    · first | refine ifT hj ?_ | rw [decide_eq_true hj, if_pos rfl]
      refine in_eeeeccceeeccc a dx _ ((j : Int)) rfl updM_same (rf_lat cs j n) 1 dx _ rfl updM_same (by show 3 < 1000; decide) ?_
      have e : putFD "at" (.int ((j : Int) + 1)) (rf cs j n) = rf cs (j + 1) n := rf_at cs j n (j + 1)
      rw [e, updM_upd]
      exact ⟨i + 1 + u.length - (j + 1), by (first | lia | omega), j + 1, rfl, by (first | lia | omega), by (first | lia | omega), rfl, rfl⟩
    · first | refine ifF hj ?_ | rw [decide_eq_false hj, if_neg Bool.false_ne_true]
      have ej : j = i + 1 + u.length := by (first | lia | omega)
      subst ej
      refine in_eeeeccceeeeccc a dx _ _ rfl updM_same (rf_text cs _ n) a dx _ _ rfl updM_same (rf_lat cs _ n) ?_
      show (tx cs).length ≤ sizeLine ∧ _
      refine ⟨len_ok hl, u, ?_, hall, by (first | lia | omega), fun hb => ⟨_, Sub.refl _, hE hb _ (Keep.refl a M).upd⟩, fun hb => ⟨_, Sub.refl _, q hb⟩⟩
      show [D.str (Txt.slice (tx cs) (some ((i + 1 : Nat) : Int)) (some ((i + 1 + u.length : Nat) : Int)))] = _
      rw [r1]
noncomputable def spNmG : SpD := fun ds M Q => ∃ (c : Nat) (r : List Nat), ds = [.str (tx (c :: r))] ∧ isL c = true ∧ (∀ k ∈ r, isN k = true) ∧ (c :: r).length ≤ 100000 ∧ Q (.bl (nameL (c :: r))) M
theorem ok_nmG (T : Txt K mg) : FnD P w K mg base 2 "is_name" ["text"] spNmG := by
  have m_all := T.m_all
  have m_len := T.m_len
  refine el_1_1 (T.g_MOST_NAME_SIGNS) ?_; intro t_MOST_NAME_SIGNS g_MOST_NAME_SIGNS
  have F_is_letter := ok_letter (P := P) (w := w) (base := base) T
  have F_is_figure := ok_figure (P := P) (w := w) (base := base) T
  refine def_ok T.f_is_name sc_is_name (fun ds M Q h => ?_) fun f cdv A outer s H E hr => ⟨_, (ss_cons (s_if (dt_not (dt_chain od_le od_le d_int (d_callB cd_len rfl m_len bt_len (a_cons (d_var 0) a_nil)) (d_glob_int rfl g_MOST_NAME_SIGNS ⟨_, rfl⟩))) (ss_one (s_ret d_bl)) ss_nil)
 (ss_cons (s_if (dt_not (dt_val (d_call F_is_letter (hr.mono (by (first | lia | omega))) (a_cons (d_ix (d_var 0) d_int) a_nil)))) (ss_one (s_ret d_bl)) ss_nil)
 (ss_one (s_ret (d_callB (cd_all rfl) rfl m_all bt_all (a_cons (d_comp (Nc := ["sign"]) (js := [none]) (comp_ok0 (by decide +kernel) (by decide +kernel) (by decide +kernel) rfl rfl) rfl (d_var 0) (fun C s H fp => (g_name (i := 0) (by show List.Nodup (["sign"] : List Str); decide +kernel))) (fun C s H fp => Or.inl ⟨rfl, rfl⟩) (fun C s H fp => (d_or (d_call F_is_letter (hr.mono (by (first | lia | omega))) (a_cons (d_var 0) a_nil)) (d_one (d_call F_is_figure (hr.mono (by (first | lia | omega))) (a_cons (d_var 0) a_nil)))))) a_nil)))))), fun ds M Q h => ?_⟩
  · obtain ⟨k, r, rfl, _⟩ := h; rfl
  · refine el_2_5 h ?_; clear h; intro c r zq255 hc hr' hl q
    obtain rfl := zq255
    have hlen := tx_len (c :: r)
    have hall : (r.all fun k => isL k || isF k) = true := List.all_eq_true.mpr hr'
    have en : nameL (c :: r) = decide (r.length < 12) := by
      show (decide (r.length < 12) && isL c && r.all fun k => isL k || isF k) = _
      rw [hc, hall, Bool.and_true, Bool.and_true]
    rw [en] at q
    refine ⟨len_ok hl, ?_⟩
    have h1 : (1 : Int) ≤ ((tx (c :: r)).length : Int) := by rw [hlen, List.length_cons]; (first | lia | omega)
    show if decide ((1 : Int) ≤ ((tx (c :: r)).length : Int)) = true then _ else _
    first | refine ifT h1 ?_ | rw [decide_eq_true h1, if_pos rfl]
    show if (!decide (((tx (c :: r)).length : Int) ≤ 12)) = true then _ else _
    by_cases h12 : r.length < 12
    · have h2 : (((tx (c :: r)).length : Int) ≤ 12) := by rw [hlen, List.length_cons]; (first | lia | omega)
      rw [decide_eq_true h2]
      rw [decide_eq_true h12] at q
      refine in_cececc (len_ok hl) c (atI_nat (j := 0) rfl) ([c]) rfl (Nat.le_refl 1) ?_
      have ec : [c].any isL = true := by simpa using hc
      rw [ec]
      refine in_cec ?_ fS ?_ (fun p hp => ?_)
      · rw [DL.signs_length]; show (tx (c :: r)).length ≤ _; (first | lia | omega)
      · intro d hd p acc hp
        refine el_1_2 (List.mem_map.mp hd) ?_; intro k hk zq256
        obtain rfl := zq256
        refine ⟨Fgt.set rfl, ?_⟩
        refine in_ecc ([k]) rfl (Nat.le_refl 1) ?_
        cases hL : isL k with
        | true =>
          have e : [k].any isL = true := by simpa using hL
          rw [e]
          exact ⟨rfl, by simp [fS, hL]⟩
        | false =>
          have e : [k].any isL = false := by simpa using hL
          rw [e]
          refine in_eccc ([k]) rfl (Nat.le_refl 1) rfl ?_
          simp [fS, hL]
      · refine in_ec ((c :: r).map fun k => isL k || isF k) ?_ ?_
        · rw [updM_same, signs_f]
        · have e : ((c :: r).map fun k => isL k || isF k).all id = true := by
            rw [List.all_map]
            simp only [List.all_cons, Function.comp, id, hc, Bool.true_or, Bool.true_and]
            exact hall
          refine in_ec M (Sub.new hp) ?_
          rw [e]
          exact q
    · have h2 : ¬ (((tx (c :: r)).length : Int) ≤ 12) := by rw [hlen, List.length_cons]; (first | lia | omega)
      rw [decide_eq_false h2]
      rw [decide_eq_false h12] at q
      exact rt_done q
noncomputable def spRNE (mg : Str → Option Value) : SpE := fun ds M Q EX => ∃ (a dx : Addr) (cs : List Nat) (i n : Nat) (c : Nat) (r : List Nat), ds = [.ref a] ∧ RD mg M a dx cs i n ∧ i ≤ cs.length ∧ cs.length ≤ 100000 ∧ cs.drop i = c :: r ∧ isL c = true ∧
  (nameL ((cs.drop i).takeWhile isN) = false → ∀ M1, Keep a M M1 → EX (.ref (ecl mg true)) M1) ∧
  (nameL ((cs.drop i).takeWhile isN) = true → Q (.str (tx ((cs.drop i).takeWhile isN))) (updM M a (.ins (cl mg "Reader") dx (rf cs (i + ((cs.drop i).takeWhile isN).length) n))))
theorem ok_rnE (T : Txt K mg) : FnME P w K mg base (cl mg "Reader") 4 "read_name" ["self"] (spRNE mg) := by
  have F_Reader_sign_here := ok_here (P := P) (w := w) (base := base) T
  have F_is_figure := ok_figure (P := P) (w := w) (base := base) T
  have F_is_letter := ok_letter (P := P) (w := w) (base := base) T
  have F_is_name := ok_nmG (P := P) (w := w) (base := base) T
  refine def_okME T.f_Reader_read_name sc_Reader_read_name (fun ds M Q E h => ?_) fun f cdv A outer s H E EX hr hx hp => ⟨_, (ss_cons (s_set (i := 1) sc_Reader_read_name.nd (d_fld T.c_Reader T.a_Reader_at (d_var 0)))
 (ss_cons (s_while hp (PW.pt (dw_or (dt_val (d_call F_is_letter (hr.mono (by (first | lia | omega))) (a_cons (d_meth0 T.c_Reader F_Reader_sign_here (hr.mono (by (first | lia | omega))) (d_var 0)) a_nil))) (dw_or1 (dt_val (d_call F_is_figure (hr.mono (by (first | lia | omega))) (a_cons (d_meth0 T.c_Reader F_Reader_sign_here (hr.mono (by (first | lia | omega))) (d_var 0)) a_nil)))))) (ss_one (s_fldAug T.c_Reader T.a_Reader_at (d_var 0) d_int)))
 (ss_cons (s_set (i := 2) sc_Reader_read_name.nd (d_sl sd_sl (d_fld T.c_Reader T.a_Reader_text (d_var 0)) (o_some (d_var 1)) (o_some (d_fld T.c_Reader T.a_Reader_at (d_var 0)))))
 (ss_cons (s_if (dt_not (dt_val (d_call F_is_name (hr.mono (by (first | lia | omega))) (a_cons (d_var 2) a_nil)))) (ss_one (s_raise hx rfl (xc_BadText T) (a_cons d_str a_nil))) ss_nil)
 (ss_one (s_ret (d_var 2))))))), fun ds M Q h => ?_⟩
  · obtain ⟨a, dx, cs, i, n, c, r, rfl, _⟩ := h; rfl
  · refine el_7_8 h ?_; clear h; intro a dx cs i n c0 r0 zq257 ha hi hl hcr hL0 hE q
    obtain rfl := zq257
    have he : cs.drop i = (cs.drop i).takeWhile isN ++ (cs.drop i).dropWhile isN := List.takeWhile_append_dropWhile.symm
    have hall : ∀ c ∈ (cs.drop i).takeWhile isN, isN c = true := fun c hc => take_all _ c hc
    have hst : stopN ((cs.drop i).dropWhile isN) := fun c r e => drop_stop _ c r e
    obtain ⟨r1, hnm0⟩ : ∃ r1, (cs.drop i).takeWhile isN = c0 :: r1 := ⟨r0.takeWhile isN, by rw [hcr, List.takeWhile_cons, if_pos (by show (isL c0 || isF c0) = true; rw [hL0]; rfl)]⟩
    generalize (cs.drop i).takeWhile isN = nm at *
    generalize (cs.drop i).dropWhile isN = rest at *
    subst hnm0
    generalize hnm : c0 :: r1 = nm at *
    refine el_0_2 (run_slice hi he) ?_; intro rs1 r2
    refine in_eeeeccc a dx _ _ rfl ha (rf_lat cs i n) ?_
    refine ⟨fun m τ M' => ∃ j : Nat, m = i + nm.length - j ∧ i ≤ j ∧ j ≤ i + nm.length ∧ M' = updM M a (.ins (cl mg "Reader") dx (rf cs j n)) ∧ τ = [some (.ref a), some (.int (i : Nat)), none], ⟨_, i, rfl, Nat.le_refl _, by (first | lia | omega), (updM_self ha).symm, rfl⟩, ?_⟩
    intro m τ M' zr258
    refine el_1_5 zr258 ?_; clear zr258; intro j zq259 h1 h2 zq260 zq261
    obtain rfl := zq259
    obtain rfl := zq260
    obtain rfl := zq261
    have hno : (rf cs j n).lookup ("sign_here" : Str) = none := rf_no cs j n (by decide +kernel) (by decide +kernel) (by decide +kernel)
    have hsc := scan he hall hst h1 h2
    rw [any_or] at hsc
    have hgo : j < i + nm.length → ∃ m', m' < i + nm.length - j ∧ ∃ j2 : Nat, m' = i + nm.length - j2 ∧ i ≤ j2 ∧ j2 ≤ i + nm.length ∧ updM (updM M a (.ins (cl mg "Reader") dx (rf cs j n))) a (.ins (cl mg "Reader") dx (putFD "at" (.int ((j : Int) + 1)) (rf cs j n))) = updM M a (.ins (cl mg "Reader") dx (rf cs j2 n)) ∧ [some (D.ref a), some (.int (i : Nat)), none] = [some (D.ref a), some (.int (i : Nat)), none] := fun hj => by
      have e : putFD "at" (.int ((j : Int) + 1)) (rf cs j n) = rf cs (j + 1) n := rf_at cs j n (j + 1)
      exact ⟨i + nm.length - (j + 1), by (first | lia | omega), j + 1, rfl, by (first | lia | omega), by (first | lia | omega), by rw [e, updM_upd], rfl⟩
    refine ⟨a, dx, _, rfl, updM_same, hno, a, dx, cs, j, n, rfl, updM_same, by (first | lia | omega), hl, ?_⟩
    refine ⟨_, rfl, by rw [List.length_take]; (first | lia | omega), ?_⟩
    cases b1 : ((cs.drop j).take 1).any isL with
    | true =>
      rw [b1, Bool.true_or] at hsc
      have hj : j < i + nm.length := by simpa using hsc.symm
      exact in_eeeeccceeeccc a dx _ ((j : Int)) rfl updM_same (rf_lat cs j n) 1 dx _ rfl updM_same (by show 3 < 1000; decide) (hgo hj)
    | false =>
      rw [b1, Bool.false_or] at hsc
      refine ⟨a, dx, _, rfl, updM_same, hno, a, dx, cs, j, n, rfl, updM_same, by (first | lia | omega), hl, ?_⟩
      refine ⟨_, rfl, by rw [List.length_take]; (first | lia | omega), ?_⟩
      rw [hsc]
      show if decide (j < i + nm.length) = true then _ else _
      by_cases hj : j < i + nm.length
      · first | refine ifT hj ?_ | rw [decide_eq_true hj, if_pos rfl]
        exact in_eeeeccceeeccc a dx _ ((j : Int)) rfl updM_same (rf_lat cs j n) 1 dx _ rfl updM_same (by show 3 < 1000; decide) (hgo hj)
      · first | refine ifF hj ?_ | rw [decide_eq_false hj, if_neg Bool.false_ne_true]
        have ej : j = i + nm.length := by (first | lia | omega)
        subst ej
        refine in_eeeeccceeeeccc a dx _ _ rfl updM_same (rf_text cs _ n) a dx _ _ rfl updM_same (rf_lat cs _ n) ?_
        show (tx cs).length ≤ sizeLine ∧ _
        refine ⟨len_ok hl, ?_⟩
        rw [rs1]
        refine ⟨c0, r1, by rw [hnm], hL0, fun k hk => hall k (by rw [← hnm]; exact List.mem_cons_of_mem _ hk), by rw [hnm]; (first | lia | omega), ?_⟩
        rw [hnm]
        cases hn : nameL nm with
        | true => exact ⟨_, Sub.refl _, q hn⟩
        | false => exact ⟨by show 1 ≤ 1000; decide, hE hn _ (Keep.refl a M).upd⟩
noncomputable def rdA (f : List Nat → Nat → RR) (m : Nat) (rest : List Nat) (kn : Nat) (acc : List Tree) : PR := match rest, m with
  | [], _ => .no true
  | c :: r, 0 => if c = 41 then .got acc r kn else .no true
  | c :: r, m + 1 => if c = 44 then rdL f m r kn acc else if c = 41 then .got acc r kn else .no true
theorem rdL_eq (f : List Nat → Nat → RR) (m : Nat) (cs : List Nat) (kn : Nat) (acc : List Tree) : rdL f m cs kn acc = match f cs kn with
    | .no e => .no e
    | .got t rest kn2 => rdA f m rest kn2 (acc ++ [t]) := by
  cases m <;> rw [rdL] <;> rfl
noncomputable def onRR (r : RR) (Q : Tree → List Nat → Nat → Prop) (E : Bool → Prop) : Prop := match r with
  | .got t rest kn => Q t rest kn
  | .no e => E e
noncomputable def onPR (r : PR) (Q : List Tree → List Nat → Nat → Prop) (E : Bool → Prop) : Prop := match r with
  | .got ps rest kn => Q ps rest kn
  | .no e => E e
noncomputable def spRTE (mg : Str → Option Value) (n : Nat) : SpE := fun ds M Q EX => ∃ (a dx : Addr) (cs : List Nat) (i kn dep : Nat), ds = [.ref a, .int (dep : Nat)] ∧ (dep + n = 32 ∧ dep ≤ 31) ∧ RD mg M a dx cs i kn ∧ i ≤ cs.length ∧ cs.length ≤ 100000 ∧
  onRR (rdT n (cs.drop i) kn dep) (fun t rest kn2 => Q t.d (updM M a (.ins (cl mg "Reader") dx (rf cs (cs.length - rest.length) kn2)))) (fun e => ∀ M1, Keep a M M1 → EX (.ref (ecl mg e)) M1)
noncomputable def spRPE (mg : Str → Option Value) (n : Nat) : SpE := fun ds M Q EX => ∃ (a dx : Addr) (cs : List Nat) (i kn dep : Nat), ds = [.ref a, .int (dep : Nat)] ∧ (dep + n = 32 ∧ dep ≤ 31) ∧ RD mg M a dx cs i kn ∧ i ≤ cs.length ∧ cs.length ≤ 100000 ∧
  onPR (rdL (fun cs k => rdT n cs k dep) 8 (cs.drop i) kn []) (fun ps rest kn2 => Q (.tup (ps.map Tree.d)) (updM M a (.ins (cl mg "Reader") dx (rf cs (cs.length - rest.length) kn2)))) (fun e => ∀ M1, Keep a M M1 → EX (.ref (ecl mg e)) M1)
theorem drop_rest {cs u rest : List Nat} {i : Nat} (hi : i ≤ cs.length) (h : cs.drop i = u ++ rest) : cs.drop (cs.length - rest.length) = rest ∧ cs.length - rest.length ≤ cs.length ∧ cs.length - rest.length = i + u.length := by
  refine el_0_2 (drop_step hi h) ?_; intro h1 h2
  have hl : u.length + rest.length = cs.length - i := by
    have := congrArg List.length h
    rw [List.length_drop, List.length_append] at this
    (first | lia | omega)
  have e : cs.length - rest.length = i + u.length := by (first | lia | omega)
  exact ⟨by rw [e]; exact h1, by (first | lia | omega), e⟩
theorem rest_tail {cs r : List Nat} {c j : Nat} (hj : j ≤ cs.length) (h : cs.drop j = c :: r) : cs.length - r.length = j + 1 ∧ j + 1 ≤ cs.length ∧ cs.drop (j + 1) = r := by
  refine el_0_3 (drop_rest (u := [c]) hj h) ?_; intro h1 h2 h3
  exact ⟨h3, by have : j + [c].length = j + 1 := rfl; (first | lia | omega), by rw [show j + 1 = j + [c].length from rfl, ← h3]; exact h1⟩
theorem sign_ne {c k : Nat} {z : Str} (hz : z = tx [k]) (h : c ≠ k) : ¬ tx [c] = z := fun e => by
  rw [hz] at e
  exact h (List.cons.inj (tx_inj e)).1
theorem s_comma : Str.ofString "," = tx [44] := by decide +kernel
theorem s_close : Str.ofString ")" = tx [41] := by decide +kernel
theorem s_open : Str.ofString "(" = tx [40] := by decide +kernel
theorem s_ask : Str.ofString "?" = tx [63] := by decide +kernel
theorem s_none (k : Nat) : ¬ tx [] = tx [k] := fun e => by cases tx_inj e
theorem ok_rpE (T : Txt K mg) {k n : Nat} (hk : 1 ≤ k) (E_Reader_read_tree : FnME P w K mg base (cl mg "Reader") k "read_tree" ["self", "depth"] (spRTE mg n)) : FnME P w K mg base (cl mg "Reader") (k + 1) "read_parts" ["self", "depth"] (spRPE mg n) := by
  have m_len := T.m_len
  have m_tuple := T.m_tuple
  refine el_1_1 (T.g_MOST_PARTS) ?_; intro t_MOST_PARTS g_MOST_PARTS
  have F_Reader_sign_here := ok_here (P := P) (w := w) (base := base) T
  refine def_okME T.f_Reader_read_parts sc_Reader_read_parts (fun ds M Q E h => ?_) fun f cdv A outer s H E EX hr hx hp => ⟨_, (ss_cons (s_set (i := 2) sc_Reader_read_parts.nd (d_lst (a_cons (d_methE T.c_Reader E_Reader_read_tree hx.toXCame (hr.mono (by (first | lia | omega))) (d_var 0) (a_cons (d_var 1) a_nil)) a_nil)))
 (ss_cons (s_while hp (PW.pt (dw_and (dt_cmp (od_eq hr) (d_meth0 T.c_Reader F_Reader_sign_here (hr.mono (by (first | lia | omega))) (d_var 0)) d_str (nomark _)) (dw_and1 (dt_cmp od_lt (d_callB cd_len rfl m_len bt_len (a_cons (d_var 2) a_nil)) (d_glob_int rfl g_MOST_PARTS ⟨_, rfl⟩) (nomark _))))) (ss_cons (s_fldAug T.c_Reader T.a_Reader_at (d_var 0) d_int)
 (ss_one (s_expr (d_bm PySem.F.plainAttrs_list PySem.F.slot_list_append PySem.F.type_list_append md_append (d_var 2) (a_cons (d_methE T.c_Reader E_Reader_read_tree hx.toXCame (hr.mono (by (first | lia | omega))) (d_var 0) (a_cons (d_var 1) a_nil)) a_nil))))))
 (ss_cons (s_if (dt_cmp (od_ne hr) (d_meth0 T.c_Reader F_Reader_sign_here (hr.mono (by (first | lia | omega))) (d_var 0)) d_str (nomark _)) (ss_one (s_raise hx rfl (xc_BadText T) (a_cons d_str a_nil))) ss_nil)
 (ss_cons (s_fldAug T.c_Reader T.a_Reader_at (d_var 0) d_int)
 (ss_one (s_ret (d_callTy cd_tuple rfl m_tuple bt_tuple (a_cons (d_var 2) a_nil)))))))), fun ds M Q h => ?_⟩
  · obtain ⟨a, dx, cs, i, kn, dep, rfl, _⟩ := h; rfl
  · refine el_6_6 h ?_; clear h; intro a dx cs i kn dep zq262 hd ha hi hl q
    obtain rfl := zq262
    have hrt : ∀ j m : Nat, (rf cs j m).lookup ("read_tree" : Str) = none := fun j m => rf_no cs j m (by decide +kernel) (by decide +kernel) (by decide +kernel)
    have hsh : ∀ j m : Nat, (rf cs j m).lookup ("sign_here" : Str) = none := fun j m => rf_no cs j m (by decide +kernel) (by decide +kernel) (by decide +kernel)
    refine in_eeeccceeeeeeccccc a dx _ rfl ha (hrt i kn) a dx cs i kn dep rfl hd ha hi hl ?_
    rw [rdL_eq] at q
    cases e1 : rdT n (cs.drop i) kn dep with
    | no x =>
      rw [e1] at q
      exact fun M1 hM1 => ⟨M1, Sub.refl _, q M1 hM1⟩
    | got t rest kn2 =>
      rw [e1] at q
      refine el_0_6 (rdT_enc _ _ _ _ _ _ _ e1) ?_; intro ee _ _ _ _ _
      refine el_0_3 (drop_rest hi ee) ?_; intro d1 d2 _
      rw [← d1] at q
      show ∀ lp, _ → _
      intro lp hlp
      refine el_0_2 (upd_none hlp) ?_; intro lpa hlp0
      dsimp only [DL.hName]
      have q' : onPR (rdA (fun cs k => rdT n cs k dep) 8 (cs.drop (cs.length - rest.length)) kn2 [t]) (fun ps rest kn2 => Q (.tup (ps.map Tree.d)) (updM M a (.ins (cl mg "Reader") dx (rf cs (cs.length - rest.length) kn2)))) (fun e => ∀ M1, Keep a M M1 → EX (.ref (ecl mg e)) M1) := q
      refine ⟨fun m τ M' => ∃ (done : List Tree) (j k2 : Nat), done.length + m = 9 ∧ M' lp = some (.lst (done.map Tree.d)) ∧ RD mg M' a dx cs j k2 ∧ Keep a M M' ∧ j ≤ cs.length ∧
        onPR (rdA (fun cs k => rdT n cs k dep) m (cs.drop j) k2 done) (fun ps rest kn2 => Q (.tup (ps.map Tree.d)) (updM M a (.ins (cl mg "Reader") dx (rf cs (cs.length - rest.length) kn2)))) (fun e => ∀ M1, Keep a M M1 → EX (.ref (ecl mg e)) M1) ∧
        τ = [some (.ref a), some (.int (dep : Nat)), some (.ref lp)],
        ⟨8, [t], cs.length - rest.length, kn2, rfl, updM_same, by show updM _ lp _ a = _; rw [updM_ne (Ne.symm lpa), updM_same], fun c o hc e => by rw [updM_ne (by intro z; subst z; rw [hlp0] at e; cases e), updM_ne hc]; exact e, d2, q', rfl⟩, ?_⟩
      intro m τ M' zr263
      refine el_3_7 zr263 ?_; clear zr263; intro done j k2 hm hl' ha' hk' hj qq zq264
      obtain rfl := zq264
      have hne : lp ≠ a := lpa
      have hlU : ∀ o, updM M' a o lp = some (.lst (done.map Tree.d)) := fun o => by rw [updM_ne hne]; exact hl'
      refine in_eeeccceeeeecccc a dx _ rfl ha' (hsh j k2) a dx cs j k2 rfl ha' hj hl ?_
      have bad : onPR (.no true) (fun ps rest kn2 => Q (.tup (ps.map Tree.d)) (updM M a (.ins (cl mg "Reader") dx (rf cs (cs.length - rest.length) kn2)))) (fun e => ∀ M1, Keep a M M1 → EX (.ref (ecl mg e)) M1) → EX (.ref (cl mg "BadText")) M' := fun z => z M' hk'
      cases hd2 : cs.drop j with
      | nil =>
        rw [hd2] at qq
        have qq' := bad (by cases m <;> exact qq)
        refine in_eeeccceeeeecccc a dx _ rfl ha' (hsh j k2) a dx cs j k2 rfl ha' hj hl ?_
        rw [hd2]
        exact ⟨by show 1 ≤ 1000; decide, qq'⟩
      | cons c r =>
        rw [hd2] at qq
        refine el_0_3 (rest_tail hj hd2) ?_; intro t1 t2 t3
        have close : c ≠ 44 ∨ m = 0 → DL.sSeq (sIf (eTest (eOp neD (eMeth0 (cl mg "Reader") "sign_here" (spHere mg) (eVar 0)) (eC (.str (Str.ofString ")"))))) (sRaise (cl mg "BadText") (fun _ => EX) (eCons (eC (.str (Str.ofString "a closing bracket must stand here"))) eNil)) sNext) (sSeq (sFldAugD (cl mg "Reader") "at" (eVar 0) (eC (.int 1))) (sRet (eCB tupleD (eCons (eVar 2) eNil)))) (endsOf Q) [some (.ref a), some (.int (dep : Nat)), some (.ref lp)] M' := fun hcm => by
          refine in_eeeccceeeeecccc a dx _ rfl ha' (hsh j k2) a dx cs j k2 rfl ha' hj hl ?_
          rw [hd2]
          show if (!decide (tx [c] = Str.ofString ")")) = true then _ else _
          have q2 : onPR (if c = 41 then PR.got done r k2 else .no true) (fun ps rest kn2 => Q (.tup (ps.map Tree.d)) (updM M a (.ins (cl mg "Reader") dx (rf cs (cs.length - rest.length) kn2)))) (fun e => ∀ M1, Keep a M M1 → EX (.ref (ecl mg e)) M1) := by
            cases m with
            | zero => exact qq
            | succ m =>
              have hc : c ≠ 44 := by rcases hcm with h | h; exact h; cases h
              have qq' : onPR (if c = 44 then rdL (fun cs k => rdT n cs k dep) m r k2 done else if c = 41 then PR.got done r k2 else .no true) _ _ := qq
              rw [if_neg hc] at qq'
              exact qq'
          by_cases hc : c = 41
          · subst hc
            rw [if_pos rfl] at q2
            rw [s_close, decide_eq_true rfl]
            refine in_eeeeccceeeccc a dx _ ((j : Int)) rfl ha' (rf_lat cs j k2) 1 dx _ rfl ha' (by show 3 < 1000; decide) ?_
            have e : putFD "at" (.int ((j : Int) + 1)) (rf cs j k2) = rf cs (j + 1) k2 := rf_at cs j k2 (j + 1)
            rw [e]
            refine in_ec _ (hlU _) ?_
            have q3 : Q (.tup (done.map Tree.d)) (updM M a (.ins (cl mg "Reader") dx (rf cs (cs.length - r.length) k2))) := q2
            rw [t1] at q3
            refine in_ec _ (fun c o ec => ?_) q3
            by_cases z : c = a
            · subst z
              rw [updM_same] at ec ⊢
              exact ec
            · rw [updM_ne z] at ec ⊢
              exact hk' c o z ec
          · rw [if_neg hc] at q2
            rw [s_close, decide_eq_false (sign_ne rfl hc)]
            exact ⟨by show 1 ≤ 1000; decide, bad q2⟩
        show if decide (tx [c] = Str.ofString ",") = true then _ else _
        by_cases hc : c = 44
        · subst hc
          rw [s_comma, decide_eq_true rfl, if_pos rfl]
          refine in_ec _ hl' ?_
          show if decide ((((done.map Tree.d).length : Nat) : Int) < 9) = true then _ else _
          rw [List.length_map]
          cases m with
          | zero =>
            first | refine ifF (show ¬ ((done.length : Nat) : Int) < 9 by (first | lia | omega)) ?_ | rw [decide_eq_false (show ¬ ((done.length : Nat) : Int) < 9 by (first | lia | omega)), if_neg Bool.false_ne_true]
            exact close (.inr rfl)
          | succ m =>
            first | refine ifT (show ((done.length : Nat) : Int) < 9 by (first | lia | omega)) ?_ | rw [decide_eq_true (show ((done.length : Nat) : Int) < 9 by (first | lia | omega)), if_pos rfl]
            have q2 : onPR (rdL (fun cs k => rdT n cs k dep) m r k2 done) (fun ps rest kn2 => Q (.tup (ps.map Tree.d)) (updM M a (.ins (cl mg "Reader") dx (rf cs (cs.length - rest.length) kn2)))) (fun e => ∀ M1, Keep a M M1 → EX (.ref (ecl mg e)) M1) := qq
            rw [rdL_eq] at q2
            refine in_eeeeccceeeccc a dx _ ((j : Int)) rfl ha' (rf_lat cs j k2) 1 dx _ rfl ha' (by show 3 < 1000; decide) ?_
            have e : putFD "at" (.int ((j : Int) + 1)) (rf cs j k2) = rf cs (j + 1) k2 := rf_at cs j k2 (j + 1)
            rw [e]
            refine in_ceeeccceeeeeeccccc (⟨rfl, _, hlU _⟩) a dx _ rfl updM_same (hrt (j + 1) k2) a dx cs (j + 1) k2 dep rfl hd updM_same t2 hl ?_
            rw [t3]
            cases e2 : rdT n r k2 dep with
            | no x =>
              rw [e2] at q2
              exact fun M1 hM1 => ⟨M1, Sub.refl _, q2 M1 (hk'.trans hM1.out)⟩
            | got u rest2 k3 =>
              rw [e2] at q2
              refine el_0_6 (rdT_enc _ _ _ _ _ _ _ e2) ?_; intro ee _ _ _ _ _
              rw [← t3] at ee
              refine el_0_3 (drop_rest t2 ee) ?_; intro d1 d2 _
              rw [← d1] at q2
              dsimp only [onRR]
              rw [updM_upd]
              refine ⟨_, hlU _, by rw [List.length_map]; exact small1000 (by (first | lia | omega)), m, by (first | lia | omega), done ++ [u], cs.length - rest2.length, k3, by rw [List.length_append]; show _ + 1 + _ = _; (first | lia | omega), by rw [updM_same, List.map_append]; rfl, ?_, fun c o hc ec => ?_, d2, q2, rfl⟩
              · show updM _ lp _ a = _
                rw [updM_ne (Ne.symm hne), updM_same]
              · rw [updM_ne (by intro z; subst z; rw [hlp0] at ec; cases ec), updM_ne hc]; exact hk' c o hc ec
        · rw [s_comma, decide_eq_false (sign_ne rfl hc), if_neg Bool.false_ne_true]
          exact close (.inl hc)
noncomputable def rdBk (n : Nat) (cs : List Nat) (kn dep : Nat) : RR :=
  if nameL (cs.takeWhile isN) = false then .no true
  else if isO (cs.dropWhile isN) = true then
    match rdL (fun cs k => rdT n cs k (dep + 1)) 8 (cs.dropWhile isN).tail kn [] with
    | .no e => .no e
    | .got ps rest kn2 => .got (.block (tx (cs.takeWhile isN)) ps) rest kn2
  else .got (.block (tx (cs.takeWhile isN)) []) (cs.dropWhile isN) kn
theorem rdT_block {n c : Nat} {r : List Nat} {kn dep : Nat} (h1 : c ≠ 63) (h2 : isL c = true) (h3 : ¬ (200 ≤ kn ∨ 30 < dep)) : rdT (n + 1) (c :: r) kn dep = rdBk n (c :: r) (kn + 1) dep := by
  rw [rdT, if_neg h1, if_pos h2, if_neg h3]; rfl
noncomputable def spRBE (mg : Str → Option Value) (n : Nat) : SpE := fun ds M Q EX => ∃ (a dx : Addr) (cs : List Nat) (i kn dep c : Nat) (r : List Nat), ds = [.ref a, .int (dep : Nat)] ∧ (dep + 1 + n = 32 ∧ dep ≤ 30) ∧ RD mg M a dx cs i kn ∧ i ≤ cs.length ∧ cs.length ≤ 100000 ∧ cs.drop i = c :: r ∧ isL c = true ∧
  onRR (rdBk n (cs.drop i) kn dep) (fun t rest kn2 => Q t.d (updM M a (.ins (cl mg "Reader") dx (rf cs (cs.length - rest.length) kn2)))) (fun e => ∀ M1, Keep a M M1 → EX (.ref (ecl mg e)) M1)
theorem ok_rbE (T : Txt K mg) {k n : Nat} (hk : 5 ≤ k) (E_Reader_read_parts : FnME P w K mg base (cl mg "Reader") k "read_parts" ["self", "depth"] (spRPE mg n)) : FnME P w K mg base (cl mg "Reader") (k + 1) "read_block" ["self", "depth"] (spRBE mg n) := by
  have F_Reader_sign_here := ok_here (P := P) (w := w) (base := base) T
  have E_Reader_read_name := ok_rnE (P := P) (w := w) (base := base) T
  refine def_okME T.f_Reader_read_block sc_Reader_read_block (fun ds M Q E h => ?_) fun f cdv A outer s H E EX hr hx hp => ⟨_, (ss_cons (s_set (i := 2) sc_Reader_read_block.nd (d_meth0E T.c_Reader E_Reader_read_name hx.toXCame (hr.mono (by (first | lia | omega))) (d_var 0)))
 (ss_cons (s_if (dt_cmp (od_ne hr) (d_meth0 T.c_Reader F_Reader_sign_here (hr.mono (by (first | lia | omega))) (d_var 0)) d_str (nomark _)) (ss_one (s_ret (d_tup (a_cons d_str (a_cons (d_var 2) (a_cons (d_tup a_nil) a_nil)))))) ss_nil)
 (ss_cons (s_fldAug T.c_Reader T.a_Reader_at (d_var 0) d_int)
 (ss_one (s_ret (d_tup (a_cons d_str (a_cons (d_var 2) (a_cons (d_methE T.c_Reader E_Reader_read_parts hx.toXCame (hr.mono (by (first | lia | omega))) (d_var 0) (a_cons (d_op od_add (d_var 1) d_int) a_nil)) a_nil))))))))), fun ds M Q h => ?_⟩
  · obtain ⟨a, dx, cs, i, kn, dep, c, r, rfl, _⟩ := h; rfl
  · refine el_8_8 h ?_; clear h; intro a dx cs i kn dep c r zq265 hd ha hi hl hcr hL q
    obtain rfl := zq265
    have hno : ∀ (j m : Nat), (rf cs j m).lookup ("sign_here" : Str) = none := fun j m => rf_no cs j m (by decide +kernel) (by decide +kernel) (by decide +kernel)
    have hrn : (rf cs i kn).lookup ("read_name" : Str) = none := rf_no cs i kn (by decide +kernel) (by decide +kernel) (by decide +kernel)
    have hrp : ∀ (j m : Nat), (rf cs j m).lookup ("read_parts" : Str) = none := fun j m => rf_no cs j m (by decide +kernel) (by decide +kernel) (by decide +kernel)
    unfold rdBk at q
    refine ⟨a, dx, _, rfl, ha, hrn, a, dx, cs, i, kn, c, r, rfl, ha, hi, hl, hcr, hL, fun hn M1 hM1 => ?_, fun hn => ?_⟩
    · rw [if_pos hn] at q
      exact in_ec M1 (Sub.refl _) (q M1 hM1)
    · rw [if_neg (by rw [hn]; decide)] at q
      have he : cs.drop i = (cs.drop i).takeWhile isN ++ (cs.drop i).dropWhile isN := List.takeWhile_append_dropWhile.symm
      refine el_0_2 (drop_step hi he) ?_; intro s1 s2
      refine el_0_3 (drop_rest hi he) ?_; intro _ _ d3
      generalize (cs.drop i).takeWhile isN = nm at *
      generalize (cs.drop i).dropWhile isN = rest at *
      refine in_eeeccceeeeecccc a dx _ rfl updM_same (hno _ _) a dx cs (i + nm.length) kn rfl updM_same s2 hl ?_
      rw [s1]
      by_cases hO : isO rest = true
      · cases rest with
        | nil => cases hO
        | cons b r2 =>
          have hb : b = 40 := by simpa [isO] using hO
          subst hb
          rw [if_pos hO] at q
          refine el_0_3 (rest_tail s2 s1) ?_; intro t1 t2 t3
          refine in_eeeeccceeeccc a dx _ (((i + nm.length : Nat) : Int)) rfl updM_same (rf_lat cs _ kn) 1 dx _ rfl updM_same (by show 3 < 1000; decide) ?_
          have e : putFD "at" (.int (((i + nm.length : Nat) : Int) + 1)) (rf cs (i + nm.length) kn) = rf cs (i + nm.length + 1) kn := rf_at cs _ kn (i + nm.length + 1)
          rw [e, updM_upd]
          refine ⟨a, dx, _, rfl, updM_same, hrp _ _, a, dx, cs, i + nm.length + 1, kn, dep + 1, rfl, ⟨by (first | lia | omega), by (first | lia | omega)⟩, updM_same, t2, hl, ?_⟩
          rw [t3]
          have q' : onRR (match rdL (fun cs k => rdT n cs k (dep + 1)) 8 r2 kn [] with
            | .no e => .no e
            | .got ps rest kn2 => .got (.block (tx nm) ps) rest kn2) (fun t rest kn2 => Q t.d (updM M a (.ins (cl mg "Reader") dx (rf cs (cs.length - rest.length) kn2)))) (fun e => ∀ M1, Keep a M M1 → EX (.ref (ecl mg e)) M1) := q
          cases el : rdL (fun cs k => rdT n cs k (dep + 1)) 8 r2 kn [] with
          | no x =>
            rw [el] at q'
            exact fun M1 hM1 => ⟨M1, Sub.refl _, q' M1 hM1.out⟩
          | got ps rs k2 =>
            rw [el] at q'
            have q2 : Q (Tree.block (tx nm) ps).d (updM M a (.ins (cl mg "Reader") dx (rf cs (cs.length - rs.length) k2))) := q'
            rw [Tree.d, ds_map] at q2
            dsimp only [onPR]
            rw [updM_upd]
            exact in_ec _ (Sub.refl _) q2
      · rw [if_neg hO] at q
        have q2 : Q (Tree.block (tx nm) []).d (updM M a (.ins (cl mg "Reader") dx (rf cs (cs.length - rest.length) kn))) := q
        rw [d3] at q2
        have hs : ¬ tx (rest.take 1) = Str.ofString "(" := by
          rw [s_open]
          cases rest with
          | nil => exact s_none 40
          | cons b r2 =>
            have hb : ¬ b = 40 := by simpa [isO] using hO
            exact sign_ne rfl hb
        show if (!decide (tx (rest.take 1) = Str.ofString "(")) = true then _ else _
        rw [decide_eq_false hs]
        exact in_ec _ (Sub.refl _) q2
theorem ok_rtE (T : Txt K mg) : ∀ n : Nat, FnME P w K mg base (cl mg "Reader") (3 * n + 5) "read_tree" ["self", "depth"] (spRTE mg n)
  | 0 => (fnME_none T.f_Reader_read_tree fun ds M Q E ⟨a, dx, cs, i, kn, dep, _, h, _⟩ => by (first | lia | omega)).mono (by (first | lia | omega))
  | n + 1 => by
    have F_Reader_sign_here := ok_here (P := P) (w := w) (base := base) T
    have E_Reader_read_blank := ok_blE (P := P) (w := w) (base := base) T
    have E_Reader_begin_knot := ok_beginE (P := P) (w := w) (base := base) T
    have F_is_letter := ok_letter (P := P) (w := w) (base := base) T
    have E_Reader_read_block := ok_rbE T (by (first | lia | omega)) (ok_rpE T (by (first | lia | omega)) (ok_rtE T n))
    refine (def_okME (k := 3 * n + 7) T.f_Reader_read_tree sc_Reader_read_tree (fun ds M Q E h => ?_) fun f cdv A outer s H E EX hr hx hp => ⟨_, (ss_cons (s_set (i := 2) sc_Reader_read_tree.nd (d_meth0 T.c_Reader F_Reader_sign_here (hr.mono (by (first | lia | omega))) (d_var 0)))
 (ss_cons (s_if (PW.pt (dw_and (dt_cmp (od_ne hr) (d_var 2) d_str (nomark _)) (dw_and1 (dt_not (dt_val (d_call F_is_letter (hr.mono (by (first | lia | omega))) (a_cons (d_var 2) a_nil))))))) (ss_one (s_raise hx rfl (xc_BadText T) (a_cons d_str a_nil))) ss_nil)
 (ss_cons (s_expr (d_methE T.c_Reader E_Reader_begin_knot hx.toXCame (hr.mono (by (first | lia | omega))) (d_var 0) (a_cons (d_var 1) a_nil)))
 (ss_cons (s_if (dt_cmp (od_eq hr) (d_var 2) d_str (nomark _)) (ss_one (s_ret (d_meth0E T.c_Reader E_Reader_read_blank hx.toXCame (hr.mono (by (first | lia | omega))) (d_var 0)))) ss_nil)
 (ss_one (s_ret (d_methE T.c_Reader E_Reader_read_block hx.toXCame (hr.mono (by (first | lia | omega))) (d_var 0) (a_cons (d_var 1) a_nil)))))))), fun ds M Q h => ?_⟩).mono (by (first | lia | omega))
    · obtain ⟨a, dx, cs, i, kn, dep, rfl, _⟩ := h; rfl
    · refine el_6_6 h ?_; clear h; intro a dx cs i kn dep zq266 hd ha hi hl q
      obtain rfl := zq266
      have hsh : (rf cs i kn).lookup ("sign_here" : Str) = none := rf_no cs i kn (by decide +kernel) (by decide +kernel) (by decide +kernel)
      have hnb : (rf cs i kn).lookup ("begin_knot" : Str) = none := rf_no cs i kn (by decide +kernel) (by decide +kernel) (by decide +kernel)
      have hrl : (rf cs i (kn + 1)).lookup ("read_blank" : Str) = none := rf_no cs i (kn + 1) (by decide +kernel) (by decide +kernel) (by decide +kernel)
      have hrk : (rf cs i (kn + 1)).lookup ("read_block" : Str) = none := rf_no cs i (kn + 1) (by decide +kernel) (by decide +kernel) (by decide +kernel)
      refine in_eeeccceeeeecccc a dx _ rfl ha hsh a dx cs i kn rfl ha hi hl ?_
      cases hd2 : cs.drop i with
      | nil =>
        rw [hd2, rdT] at q
        refine in_ecc ([]) rfl (Nat.zero_le _) ?_
        exact ⟨by show 1 ≤ 1000; decide, q M (Keep.refl a M)⟩
      | cons c r =>
        refine el_0_3 (rest_tail hi hd2) ?_; intro t1 t2 t3
        rw [hd2] at q
        by_cases hq : c = 63
        · subst hq
          rw [rdT, if_pos rfl] at q
          refine in_eeeccceeeeeeccc a dx _ rfl ha hnb a dx cs i kn dep rfl ha (fun hb M1 hM1 => ?_) (fun hb => ?_)
          · rw [if_pos hb] at q; exact ⟨M1, Sub.refl _, q M1 hM1⟩
          · rw [if_neg hb] at q
            refine ⟨a, dx, _, rfl, updM_same, hrl, a, dx, cs, i, kn + 1, rfl, updM_same, by (first | lia | omega), hl, fun hn M1 hM1 => ?_, fun hn => ?_⟩
            · rw [t3] at hn
              rw [if_pos hn] at q; exact ⟨M1, Sub.refl _, q M1 hM1.out⟩
            · rw [t3] at hn ⊢
              rw [if_neg (by rw [hn]; decide)] at q
              rw [updM_upd]
              have q2 : Q (Tree.blank (val (r.takeWhile isF) : Nat)).d (updM M a (.ins (cl mg "Reader") dx (rf cs (cs.length - (r.dropWhile isF).length) (kn + 1)))) := q
              have he : cs.drop (i + 1) = r.takeWhile isF ++ r.dropWhile isF := by rw [t3, List.takeWhile_append_dropWhile]
              refine el_0_3 (drop_rest t2 he) ?_; intro _ _ d3
              rw [d3] at q2
              exact in_ec _ (Sub.refl _) q2
        · have hqs : ¬ tx [c] = Str.ofString "?" := by rw [s_ask]; exact sign_ne rfl hq
          show if (!decide (tx [c] = Str.ofString "?")) = true then _ else _
          rw [decide_eq_false hqs]
          refine in_ecc ([c]) rfl (Nat.le_refl 1) ?_
          by_cases hL : isL c = true
          · have ec : [c].any isL = true := by simpa using hL
            rw [ec]
            refine in_eeeccceeeeeeccc a dx _ rfl ha hnb a dx cs i kn dep rfl ha (fun hb M1 hM1 => ?_) (fun hb => ?_)
            · rw [rdT, if_neg hq, if_pos hL, if_pos hb] at q; exact ⟨M1, Sub.refl _, q M1 hM1⟩
            · rw [rdT_block hq hL hb] at q
              show if decide (tx [c] = Str.ofString "?") = true then _ else _
              first | refine ifF hqs ?_ | rw [decide_eq_false hqs, if_neg Bool.false_ne_true]
              refine ⟨a, dx, _, rfl, updM_same, hrk, a, dx, cs, i, kn + 1, dep, c, r, rfl, ⟨by (first | lia | omega), by (first | lia | omega)⟩, updM_same, hi, hl, hd2, hL, ?_⟩
              rw [hd2]
              cases er : rdBk n (c :: r) (kn + 1) dep with
              | no x =>
                rw [er] at q
                exact fun M1 hM1 => ⟨M1, Sub.refl _, q M1 hM1.out⟩
              | got t rs k2 =>
                rw [er] at q
                dsimp only [onRR]
                rw [updM_upd]
                exact in_ec _ (Sub.refl _) q
          · have ec : [c].any isL = false := by simpa using hL
            rw [ec]
            rw [rdT, if_neg hq, if_neg hL] at q
            exact ⟨by show 1 ≤ 1000; decide, q M (Keep.refl a M)⟩
noncomputable def rd (cs : List Nat) : RR := match rdT 31 cs 0 1 with
  | .no e => .no e
  | .got t [] kn => .got t [] kn
  | .got _ (_ :: _) _ => .no true
noncomputable def spReadE (mg : Str → Option Value) : SpE := fun ds M Q EX => ∃ cs : List Nat, ds = [.str (tx cs)] ∧ cs.length ≤ 100000 ∧ onRR (rd cs) (fun t _ _ => Q t.d M) (fun e => ∀ M1, Sub M M1 → EX (.ref (ecl mg e)) M1)
theorem ok_readE (T : Txt K mg) : FnE P w K mg base 100 "read" ["text"] (spReadE mg) := by
  have F_Reader___init__ := ok_init (P := P) (w := w) (base := base) T
  have F_Reader_sign_here := ok_here (P := P) (w := w) (base := base) T
  have E_Reader_read_tree := ok_rtE (P := P) (w := w) (base := base) T 31
  refine def_okE T.f_read sc_read (fun ds M Q E h => ?_) fun f cdv A outer s H E EX hr hx hp => ⟨_, (ss_cons (s_set (i := 1) sc_read.nd (d_make F_Reader___init__ (hr.mono (by (first | lia | omega))) T.n_Reader (a_cons (d_var 0) a_nil)))
 (ss_cons (s_set (i := 2) sc_read.nd (d_methE T.c_Reader E_Reader_read_tree hx.toXCame (hr.mono (by (first | lia | omega))) (d_var 1) (a_cons d_int a_nil)))
 (ss_cons (s_if (dt_cmp (od_ne hr) (d_meth0 T.c_Reader F_Reader_sign_here (hr.mono (by (first | lia | omega))) (d_var 1)) d_str (nomark _)) (ss_one (s_raise hx rfl (xc_BadText T) (a_cons d_str a_nil))) ss_nil)
 (ss_one (s_ret (d_var 2)))))), fun ds M Q h => ?_⟩
  · obtain ⟨t, rfl, _⟩ := h; rfl
  · refine el_1_3 h ?_; clear h; intro cs zq267 hl q
    obtain rfl := zq267
    show ∀ x dx, M x = none → _
    intro x dx hx0
    refine in_eeeccc x dx cs rfl updM_same rfl ?_
    have h1 : (rf cs 0 0).lookup ("read_tree" : Str) = none := rf_no _ 0 0 (by decide +kernel) (by decide +kernel) (by decide +kernel)
    rw [updM_upd]
    have hK : ∀ o M1, Keep x (updM M x o) M1 → Sub M M1 := fun o M1 h c z e => h c z (by intro y; subst y; rw [hx0] at e; cases e) (Sub.new hx0 c z e)
    refine ⟨x, dx, _, rfl, updM_same, h1, x, dx, cs, 0, 0, 1, rfl, ⟨by (first | lia | omega), by (first | lia | omega)⟩, updM_same, Nat.zero_le _, hl, ?_⟩
    unfold rd at q
    rw [List.drop_zero]
    cases er : rdT 31 cs 0 1 with
    | no e =>
      rw [er] at q
      exact fun M1 hM1 => ⟨M1, Sub.refl _, q M1 (hK _ _ hM1)⟩
    | got t rest kn =>
      rw [er] at q
      have h2 : (rf cs (cs.length - rest.length) kn).lookup ("sign_here" : Str) = none := rf_no _ _ _ (by decide +kernel) (by decide +kernel) (by decide +kernel)
      refine el_0_6 (rdT_enc _ _ _ _ _ _ _ er) ?_; intro ee _ _ _ _ _
      refine el_0_3 (drop_rest (cs := cs) (u := enc t) (rest := rest) (i := 0) (Nat.zero_le _) ((List.drop_zero (l := cs)).trans ee)) ?_; intro d1 d2 _
      dsimp only [onRR]
      rw [updM_upd]
      refine in_eeeccceeeeecccc x dx _ rfl updM_same h2 x dx cs _ _ rfl updM_same d2 hl ?_
      rw [d1]
      cases rest with
      | nil => exact ⟨M, Sub.new hx0, q⟩
      | cons c r =>
        exact ⟨by show 1 ≤ 1000; decide, q _ (Sub.new hx0)⟩
noncomputable def scanS : List Nat → List Nat → Nat → Nat → Nat → Option Bool
  | [], cts, st, size, _ => if cts ≠ [] ∨ st = 0 ∨ size = 0 then some true else none
  | c :: r, cts, st, size, many =>
    if st = 1 ∧ isN c = true then (if 12 < size + 1 then some true else scanS r cts 1 (size + 1) many)
    else if st = 2 ∧ isF c = true then (if size * 10 + (c - 48) = 0 ∨ 1000000000 < size * 10 + (c - 48) then some true else scanS r cts 2 (size * 10 + (c - 48)) many)
    else if st = 0 then
      (if c = 63 then (if many = 200 ∨ 30 ≤ cts.length then some false else scanS r cts 2 0 (many + 1))
       else if isL c = true then (if many = 200 ∨ 30 ≤ cts.length then some false else scanS r cts 1 1 (many + 1))
       else some true)
    else if st = 1 ∧ c = 40 then scanS r (1 :: cts) 0 size many
    else match cts with
      | [] => some true
      | k :: ks =>
        if c = 44 then (if k = 9 ∨ size = 0 then some true else scanS r ((k + 1) :: ks) 0 size many)
        else if c = 41 then (if size = 0 then some true else scanS r ks 3 size many)
        else some true
theorem scanS_cons (c : Nat) (r cts : List Nat) (st size many : Nat) : scanS (c :: r) cts st size many =
    if st = 1 ∧ isN c = true then (if 12 < size + 1 then some true else scanS r cts 1 (size + 1) many)
    else if st = 2 ∧ isF c = true then (if size * 10 + (c - 48) = 0 ∨ 1000000000 < size * 10 + (c - 48) then some true else scanS r cts 2 (size * 10 + (c - 48)) many)
    else if st = 0 then
      (if c = 63 then (if many = 200 ∨ 30 ≤ cts.length then some false else scanS r cts 2 0 (many + 1))
       else if isL c = true then (if many = 200 ∨ 30 ≤ cts.length then some false else scanS r cts 1 1 (many + 1))
       else some true)
    else if st = 1 ∧ c = 40 then scanS r (1 :: cts) 0 size many
    else match cts with
      | [] => some true
      | k :: ks =>
        if c = 44 then (if k = 9 ∨ size = 0 then some true else scanS r ((k + 1) :: ks) 0 size many)
        else if c = 41 then (if size = 0 then some true else scanS r ks 3 size many)
        else some true := rfl
noncomputable def aft (rest cts : List Nat) (size many : Nat) : Option Bool := match rest, cts with
  | [], [] => none
  | [], _ :: _ => some true
  | _ :: _, [] => some true
  | c :: r, k :: ks => if c = 44 then (if k = 9 then some true else scanS r ((k + 1) :: ks) 0 size many) else if c = 41 then scanS r ks 3 size many else some true
theorem scan_aft {rest cts : List Nat} {st size many : Nat} (h0 : st ≠ 0) (hs : 1 ≤ size) (h1 : st = 1 → ∀ c r, rest = c :: r → isN c = false ∧ c ≠ 40) (h2 : st = 2 → ∀ c r, rest = c :: r → isF c = false) : scanS rest cts st size many = aft rest cts size many := by
  cases rest with
  | nil =>
    rw [scanS]
    cases cts with
    | nil => rw [if_neg (by intro z; rcases z with z | z | z; exact z rfl; exact h0 z; (first | lia | omega))]; rfl
    | cons k ks => rw [if_pos (.inl (by simp))]; rfl
  | cons c r =>
    rw [scanS_cons, if_neg (fun z => by rw [(h1 z.1 c r rfl).1] at z; exact absurd z.2 (by decide)), if_neg (fun z => by rw [h2 z.1 c r rfl] at z; exact absurd z.2 (by decide)), if_neg h0, if_neg (fun z => (h1 z.1 c r rfl).2 z.2)]
    cases cts with
    | nil => rfl
    | cons k ks =>
      show (if c = 44 then (if k = 9 ∨ size = 0 then some true else scanS r ((k + 1) :: ks) 0 size many) else if c = 41 then (if size = 0 then some true else scanS r ks 3 size many) else some true) = (if c = 44 then (if k = 9 then some true else scanS r ((k + 1) :: ks) 0 size many) else if c = 41 then scanS r ks 3 size many else some true)
      rw [if_neg (show ¬ size = 0 by (first | lia | omega))]
      by_cases h9 : k = 9
      · rw [if_pos (show k = 9 ∨ size = 0 from .inl h9), if_pos h9]
      · rw [if_neg (by (first | lia | omega) : ¬ (k = 9 ∨ size = 0)), if_neg h9]
theorem scan_name (cts rest : List Nat) (many : Nat) : ∀ (u : List Nat) (s : Nat), (∀ c ∈ u, isN c = true) → s ≤ 12 → scanS (u ++ rest) cts 1 s many = if 12 < s + u.length then some true else scanS rest cts 1 (s + u.length) many
  | [], s, _, h => by rw [if_neg (by simp; (first | lia | omega))]; rfl
  | c :: u, s, ha, h => by
    rw [List.cons_append, scanS_cons, if_pos ⟨rfl, ha c (by simp)⟩, List.length_cons]
    by_cases h12 : 12 < s + 1
    · rw [if_pos h12, if_pos (by (first | lia | omega))]
    · rw [if_neg h12, scan_name cts rest many u (s + 1) (fun x hx => ha x (List.mem_cons_of_mem _ hx)) (by (first | lia | omega)), show s + 1 + u.length = s + (u.length + 1) by (first | lia | omega)]
noncomputable def vfrom (s : Nat) (u : List Nat) : Nat := u.foldl (fun a c => 10 * a + (c - 48)) s
theorem vfrom_ge : ∀ (u : List Nat) (s : Nat), s ≤ vfrom s u
  | [], _ => Nat.le_refl _
  | c :: u, s => by have := vfrom_ge u (10 * s + (c - 48)); show s ≤ vfrom (10 * s + (c - 48)) u; (first | lia | omega)
theorem scan_num (cts rest : List Nat) (many : Nat) : ∀ (u : List Nat) (s : Nat), (∀ c ∈ u, isF c = true) → 1 ≤ s → s ≤ 1000000000 → scanS (u ++ rest) cts 2 s many = if 1000000000 < vfrom s u then some true else scanS rest cts 2 (vfrom s u) many
  | [], s, _, _, h => by rw [if_neg (by show ¬ 1000000000 < s; (first | lia | omega))]; rfl
  | c :: u, s, ha, h1, h => by
    rw [List.cons_append, scanS_cons, if_neg (by intro z; exact absurd z.1 (by decide)), if_pos ⟨rfl, ha c (by simp)⟩]
    have e : vfrom s (c :: u) = vfrom (s * 10 + (c - 48)) u := by show vfrom (10 * s + (c - 48)) u = _; rw [Nat.mul_comm]
    rw [e]
    by_cases h9 : s * 10 + (c - 48) = 0 ∨ 1000000000 < s * 10 + (c - 48)
    · rw [if_pos h9, if_pos (by have := vfrom_ge u (s * 10 + (c - 48)); (first | lia | omega))]
    · rw [if_neg h9, scan_num cts rest many u _ (fun x hx => ha x (List.mem_cons_of_mem _ hx)) (by (first | lia | omega)) (by (first | lia | omega))]
theorem vfrom_big : ∀ (u : List Nat) (s : Nat), 10 ^ u.length * s ≤ vfrom s u
  | [], s => by show 1 * s ≤ s; (first | lia | omega)
  | c :: u, s => by
    have h := vfrom_big u (10 * s + (c - 48))
    show 10 ^ (u.length + 1) * s ≤ vfrom (10 * s + (c - 48)) u
    refine Nat.le_trans ?_ h
    rw [Nat.pow_succ, Nat.mul_assoc]
    exact Nat.mul_le_mul_left _ (by (first | lia | omega))
theorem badNum_val {c : Nat} {u : List Nat} (hc : isF c = true) (h0 : c ≠ 48) : badNum (c :: u) = decide (1000000000 < vfrom (c - 48) u) := by
  have hr := isF_range hc
  have hv : val (c :: u) = vfrom (c - 48) u := by show vfrom (10 * 0 + (c - 48)) u = _; rw [Nat.mul_zero, Nat.zero_add]
  unfold badNum
  rw [hv, decide_eq_false (show ¬ (c :: u).head? = some 48 by simpa using h0)]
  show (false || false || decide (10 < (c :: u).length) || _) = _
  by_cases h10 : 10 < (c :: u).length
  · rw [decide_eq_true h10, decide_eq_true]
    · rfl
    · have h1 := vfrom_big u (c - 48)
      have h2 : 10 ^ 10 ≤ 10 ^ u.length := Nat.pow_le_pow_right (by decide) (by rw [List.length_cons] at h10; (first | lia | omega))
      have h3 : 10 ^ u.length * 1 ≤ 10 ^ u.length * (c - 48) := Nat.mul_le_mul_left _ (by (first | lia | omega))
      (first | lia | omega)
  · rw [decide_eq_false h10]; rfl
theorem scan_blank (r cts : List Nat) (many : Nat) : scanS r cts 2 0 many = if badNum (r.takeWhile isF) = true then some true else scanS (r.dropWhile isF) cts 2 (val (r.takeWhile isF)) many := by
  have e := List.takeWhile_append_dropWhile (p := isF) (l := r)
  have ha : ∀ c ∈ r.takeWhile isF, isF c = true := fun c hc => take_all r c hc
  have hs : ∀ c s, r.dropWhile isF = c :: s → isF c = false := fun c s h => drop_stop r c s h
  generalize r.takeWhile isF = u at *
  generalize r.dropWhile isF = rest at *
  rw [← e]
  cases u with
  | nil =>
    rw [if_pos (show badNum [] = true from rfl), List.nil_append]
    cases rest with
    | nil => rw [scanS, if_pos (.inr (.inr rfl))]
    | cons c s =>
      rw [scanS_cons, if_neg (by intro z; exact absurd z.1 (by decide)), if_neg (by rw [hs c s rfl]; intro z; exact absurd z.2 (by decide)), if_neg (by decide), if_neg (by intro z; exact absurd z.1 (by decide))]
      cases cts with
      | nil => rfl
      | cons k ks =>
        show (if c = 44 then (if k = 9 ∨ 0 = 0 then some true else _) else if c = 41 then (if 0 = 0 then some true else _) else some true) = some true
        rw [if_pos (show k = 9 ∨ 0 = 0 from .inr rfl), if_pos (rfl : (0 : Nat) = 0)]
        split
        · rfl
        · split <;> rfl
  | cons c u =>
    have hc := ha c (by simp)
    have hr := isF_range hc
    rw [List.cons_append, scanS_cons, if_neg (by intro z; exact absurd z.1 (by decide)), if_pos ⟨rfl, hc⟩, Nat.zero_mul, Nat.zero_add]
    by_cases h0 : c = 48
    · rw [if_pos (.inl (by (first | lia | omega))), if_pos]
      unfold badNum
      rw [decide_eq_true (show (c :: u).head? = some 48 by rw [h0]; rfl)]
      simp
    · have hv : val (c :: u) = vfrom (c - 48) u := by show vfrom (10 * 0 + (c - 48)) u = _; rw [Nat.mul_zero, Nat.zero_add]
      rw [if_neg (by (first | lia | omega)), scan_num cts rest many u _ (fun x hx => ha x (List.mem_cons_of_mem _ hx)) (by (first | lia | omega)) (by (first | lia | omega)), badNum_val hc h0, hv]
      by_cases hb : 1000000000 < vfrom (c - 48) u
      · rw [if_pos hb, if_pos (decide_eq_true hb)]
      · rw [if_neg hb, if_neg (by simpa using hb)]
theorem scan_run (c : Nat) (r cts : List Nat) (many : Nat) (hL : isL c = true) : scanS r cts 1 1 many = if nameL ((c :: r).takeWhile isN) = false then some true else scanS ((c :: r).dropWhile isN) cts 1 ((c :: r).takeWhile isN).length many := by
  have hN : isN c = true := by show (isL c || isF c) = true; rw [hL]; rfl
  have e := List.takeWhile_append_dropWhile (p := isN) (l := r)
  have ha : ∀ c ∈ r.takeWhile isN, isN c = true := fun c hc => take_all r c hc
  rw [List.takeWhile_cons, if_pos hN, List.dropWhile_cons, if_pos hN]
  generalize r.takeWhile isN = u at *
  generalize r.dropWhile isN = rest at *
  rw [← e, scan_name cts rest many u 1 ha (by decide)]
  have en : nameL (c :: u) = decide (u.length < 12) := by
    show (decide (u.length < 12) && isL c && u.all fun k => isL k || isF k) = _
    rw [hL, show (u.all fun k => isL k || isF k) = true from List.all_eq_true.mpr ha, Bool.and_true, Bool.and_true]
  rw [en, List.length_cons, Nat.add_comm u.length 1]
  by_cases h : u.length < 12
  · rw [if_neg (by (first | lia | omega)), decide_eq_true h, if_neg (by decide)]
  · rw [if_pos (by (first | lia | omega)), decide_eq_false h, if_pos rfl]
theorem rdL_scan {n dep : Nat} {ks : List Nat} (ih : ∀ cs kn k size, kn ≤ 200 → (∀ e, rdT n cs kn dep = .no e → scanS cs (k :: ks) 0 size kn = some e) ∧ ∀ t rest kn2, rdT n cs kn dep = .got t rest kn2 → ∃ s2, 1 ≤ s2 ∧ scanS cs (k :: ks) 0 size kn = aft rest (k :: ks) s2 kn2) :
    ∀ (m : Nat) (cs : List Nat) (kn : Nat) (acc : List Tree) (k size : Nat), k + m = 9 → kn ≤ 200 → (∀ e, rdL (fun cs k => rdT n cs k dep) m cs kn acc = .no e → scanS cs (k :: ks) 0 size kn = some e) ∧ ∀ ps rest kn2, rdL (fun cs k => rdT n cs k dep) m cs kn acc = .got ps rest kn2 → ∃ s2, 1 ≤ s2 ∧ scanS cs (k :: ks) 0 size kn = scanS rest ks 3 s2 kn2 := by
  intro m
  induction m with
  | zero =>
    intro cs kn acc k size hk h2
    rw [rdL_eq]
    cases ef : rdT n cs kn dep with
    | no x =>
      refine ⟨fun e h => ?_, fun ps rest kn2 h => by cases h⟩
      cases h
      exact (ih cs kn k size h2).1 _ ef
    | got t rest kn2 =>
      refine el_1_2 ((ih cs kn k size h2).2 _ _ _ ef) ?_; intro s2 hs e2
      rw [e2]
      cases rest with
      | nil =>
        refine ⟨fun e h => ?_, fun ps rest kn2 h => by cases h⟩
        cases h; rfl
      | cons c r =>
        have e9 : k = 9 := by (first | lia | omega)
        show (∀ e, (if c = 41 then PR.got (acc ++ [t]) r kn2 else .no true) = .no e → (if c = 44 then (if k = 9 then some true else _) else if c = 41 then scanS r ks 3 s2 kn2 else some true) = some e) ∧ ∀ ps rest kn3, (if c = 41 then PR.got (acc ++ [t]) r kn2 else .no true) = .got ps rest kn3 → ∃ s3, 1 ≤ s3 ∧ (if c = 44 then (if k = 9 then some true else _) else if c = 41 then scanS r ks 3 s2 kn2 else some true) = scanS rest ks 3 s3 kn3
        rw [if_pos e9]
        by_cases hc : c = 41
        · rw [if_pos hc, if_pos hc, if_neg (by (first | lia | omega))]
          exact ⟨fun e h => (by cases h), fun ps rest kn3 h => by cases h; exact ⟨s2, hs, rfl⟩⟩
        · rw [if_neg hc, if_neg hc]
          refine ⟨fun e h => ?_, fun ps rest kn3 h => by cases h⟩
          cases h
          split <;> rfl
  | succ m im =>
    intro cs kn acc k size hk h2
    rw [rdL_eq]
    cases ef : rdT n cs kn dep with
    | no x =>
      refine ⟨fun e h => ?_, fun ps rest kn2 h => by cases h⟩
      cases h
      exact (ih cs kn k size h2).1 _ ef
    | got t rest kn2 =>
      refine el_1_2 ((ih cs kn k size h2).2 _ _ _ ef) ?_; intro s2 hs e2
      have hkn := (rdT_enc _ _ _ _ _ _ _ ef).2.2.2.2.2
      rw [e2]
      cases rest with
      | nil =>
        refine ⟨fun e h => ?_, fun ps rest kn2 h => by cases h⟩
        cases h; rfl
      | cons c r =>
        have e9 : ¬ k = 9 := by (first | lia | omega)
        show (∀ e, (if c = 44 then rdL (fun cs k => rdT n cs k dep) m r kn2 (acc ++ [t]) else if c = 41 then PR.got (acc ++ [t]) r kn2 else .no true) = .no e → (if c = 44 then (if k = 9 then some true else scanS r ((k + 1) :: ks) 0 s2 kn2) else if c = 41 then scanS r ks 3 s2 kn2 else some true) = some e) ∧ ∀ ps rest kn3, (if c = 44 then rdL (fun cs k => rdT n cs k dep) m r kn2 (acc ++ [t]) else if c = 41 then PR.got (acc ++ [t]) r kn2 else .no true) = .got ps rest kn3 → ∃ s3, 1 ≤ s3 ∧ (if c = 44 then (if k = 9 then some true else scanS r ((k + 1) :: ks) 0 s2 kn2) else if c = 41 then scanS r ks 3 s2 kn2 else some true) = scanS rest ks 3 s3 kn3
        rw [if_neg e9]
        by_cases hd : c = 44
        · rw [if_pos hd, if_pos hd]
          exact im r kn2 _ (k + 1) s2 (by (first | lia | omega)) hkn
        · rw [if_neg hd, if_neg hd]
          by_cases hc : c = 41
          · rw [if_pos hc, if_pos hc]
            exact ⟨fun e h => (by cases h), fun ps rest kn3 h => by cases h; exact ⟨s2, hs, rfl⟩⟩
          · rw [if_neg hc, if_neg hc]
            exact ⟨fun e h => by cases h; rfl, fun ps rest kn3 h => by cases h⟩
theorem rdT_scan : ∀ (n : Nat) (cs : List Nat) (kn dep : Nat) (cts : List Nat) (size : Nat), dep = cts.length + 1 → dep + n = 32 → dep ≤ 31 → kn ≤ 200 →
    (∀ e, rdT n cs kn dep = .no e → scanS cs cts 0 size kn = some e) ∧ ∀ t rest kn2, rdT n cs kn dep = .got t rest kn2 → ∃ s2, 1 ≤ s2 ∧ scanS cs cts 0 size kn = aft rest cts s2 kn2
  | 0, _, _, _, _, _, _, h1, h2, _ => by (first | lia | omega)
  | n + 1, [], _, _, cts, _, _, _, _, _ => by
    rw [rdT]
    exact ⟨fun e h => by cases h; rw [scanS, if_pos (.inr (.inl rfl))], fun t rest kn2 h => by cases h⟩
  | n + 1, c :: r, kn, dep, cts, size, hd, hn, h31, hk => by
    rw [rdT, scanS_cons, if_neg (show ¬ ((0 : Nat) = 1 ∧ isN c = true) from fun z => absurd z.1 (by decide)), if_neg (show ¬ ((0 : Nat) = 2 ∧ isF c = true) from fun z => absurd z.1 (by decide)), if_pos (rfl : (0 : Nat) = 0)]
    have hiff : (kn = 200 ∨ 30 ≤ cts.length) ↔ (200 ≤ kn ∨ 30 < dep) := by (first | lia | omega)
    by_cases hq : c = 63
    · rw [if_pos hq, if_pos hq]
      by_cases hb : 200 ≤ kn ∨ 30 < dep
      · rw [if_pos hb, if_pos (hiff.mpr hb)]
        exact ⟨fun e h => by cases h; rfl, fun t rest kn2 h => by cases h⟩
      · rw [if_neg hb, if_neg (fun z => hb (hiff.mp z)), scan_blank]
        by_cases hbn : badNum (r.takeWhile isF) = true
        · rw [if_pos hbn, if_pos hbn]
          exact ⟨fun e h => by cases h; rfl, fun t rest kn2 h => by cases h⟩
        · rw [if_neg hbn, if_neg hbn]
          refine ⟨fun e h => (by cases h), fun t rest kn2 h => ?_⟩
          cases h
          refine el_0_4 (badNum_no (by simpa using hbn)) ?_; intro b1 b2 _ _
          have hv := val_pos _ (fun c hc => take_all r c hc) b1 b2
          exact in_ec _ hv (scan_aft (by decide) hv (fun z => absurd z (by decide)) fun _ c s h => drop_stop r c s h)
    · rw [if_neg hq, if_neg hq]
      by_cases hL : isL c = true
      · rw [if_pos hL, if_pos hL]
        by_cases hb : 200 ≤ kn ∨ 30 < dep
        · rw [if_pos hb, if_pos (hiff.mpr hb)]
          exact ⟨fun e h => by cases h; rfl, fun t rest kn2 h => by cases h⟩
        · rw [if_neg hb, if_neg (fun z => hb (hiff.mp z)), scan_run c r cts (kn + 1) hL]
          by_cases hnm : nameL ((c :: r).takeWhile isN) = false
          · rw [if_pos hnm, if_pos hnm]
            exact ⟨fun e h => by cases h; rfl, fun t rest kn2 h => by cases h⟩
          · rw [if_neg hnm, if_neg hnm]
            have hl1 : 1 ≤ ((c :: r).takeWhile isN).length := by
              refine el_2_2 (name_head (show nameL ((c :: r).takeWhile isN) = true by simpa using hnm)) ?_; intro a b e _
              rw [e, List.length_cons]; (first | lia | omega)
            have hst : ∀ x s, (c :: r).dropWhile isN = x :: s → isN x = false := fun x s h => drop_stop _ x s h
            generalize ((c :: r).takeWhile isN).length = sz at *
            generalize (c :: r).takeWhile isN = nm at *
            generalize (c :: r).dropWhile isN = rest at *
            by_cases hO : isO rest = true
            · rw [if_pos hO]
              cases rest with
              | nil => cases hO
              | cons x s =>
                have hx : x = 40 := by simpa [isO] using hO
                subst hx
                have es : scanS (40 :: s) cts 1 sz (kn + 1) = scanS s (1 :: cts) 0 sz (kn + 1) := by
                  rw [scanS_cons, if_neg (by intro z; exact absurd z.2 (by decide)), if_neg (by intro z; exact absurd z.1 (by decide)), if_neg (by decide), if_pos ⟨rfl, rfl⟩]
                rw [es]
                have hL2 := rdL_scan (n := n) (dep := dep + 1) (ks := cts) (fun cs kn k size hk2 => rdT_scan n cs kn (dep + 1) (k :: cts) size (by rw [List.length_cons]; (first | lia | omega)) (by (first | lia | omega)) (by (first | lia | omega)) hk2) 8 s (kn + 1) [] 1 sz rfl (by (first | lia | omega))
                show (∀ e, (match rdL (fun cs k => rdT n cs k (dep + 1)) 8 s (kn + 1) [] with | .no e => RR.no e | .got ps rest kn2 => .got (.block (tx nm) ps) rest kn2) = .no e → _) ∧ ∀ t rest kn2, (match rdL (fun cs k => rdT n cs k (dep + 1)) 8 s (kn + 1) [] with | .no e => RR.no e | .got ps rest kn2 => .got (.block (tx nm) ps) rest kn2) = .got t rest kn2 → _
                cases el : rdL (fun cs k => rdT n cs k (dep + 1)) 8 s (kn + 1) [] with
                | no x => exact ⟨fun e h => by cases h; exact hL2.1 _ el, fun t rest kn2 h => by cases h⟩
                | got ps rs k2 =>
                  refine ⟨fun e h => (by cases h), fun t rest kn2 h => ?_⟩
                  cases h
                  refine el_1_2 (hL2.2 _ _ _ el) ?_; intro s2 hs2 e2
                  exact in_ec s2 hs2 (e2.trans (scan_aft (by decide) hs2 (fun z => absurd z (by decide)) (fun z => absurd z (by decide))))
            · rw [if_neg hO]
              refine ⟨fun e h => (by cases h), fun t rest2 kn2 h => ?_⟩
              cases h
              exact in_ec sz hl1 (scan_aft (by decide) hl1 (fun _ x s h => ⟨hst x s h, fun z => hO (by rw [h, z]; rfl)⟩) (fun z => absurd z (by decide)))
      · rw [if_neg hL, if_neg hL]
        exact ⟨fun e h => by cases h; rfl, fun t rest kn2 h => by cases h⟩
theorem rd_scan (cs : List Nat) : (∀ e, rd cs = .no e → scanS cs [] 0 0 0 = some e) ∧ ∀ t r k, rd cs = .got t r k → scanS cs [] 0 0 0 = none := by
  have h := rdT_scan 31 cs 0 1 [] 0 rfl rfl (by decide) (by decide)
  unfold rd
  cases er : rdT 31 cs 0 1 with
  | no e => exact ⟨fun x z => by cases z; exact h.1 _ er, fun t r k z => by cases z⟩
  | got t rest kn =>
    refine el_1_2 (h.2 _ _ _ er) ?_; intro s2 _ e2
    rw [e2]
    cases rest with
    | nil => exact ⟨fun e z => (by cases z), fun _ _ _ _ => rfl⟩
    | cons c r => exact ⟨fun e z => by cases z; rfl, fun _ _ _ z => by cases z⟩
section
variable {X : Cx}
noncomputable def firstOf : List Nat → Int
  | i :: _ => (i : Int)
  | [] => -1
noncomputable def findVD : D → List D → DH → KD → Prop
  | .str x, [.str y], M, Q => Q (.int (firstOf (Builtin.Str.occurrences x y 0 x.length 1))) M
  | _, _, _, _ => False
theorem md_findV : MtD X "str.find" findVD := by
  intro pins s σ H vx vs v us Q I rx rs zr268
  refine el_4_5 zr268 ?_; clear zr268; intro x ds M Q' ix iss hm q hq
  match x, ds, q, ix, iss with
  | .str a, [.str b], q, ix, iss =>
    cases ix
    refine el_1_2 (iss1 iss) ?_; intro vy zq269 iy
    obtain rfl := zq269
    cases iy
    refine el_1_1 rx ?_; clear rx; intro t zq270
    obtain rfl := zq270
    refine el_1_2 (vals1 rs) ?_; intro u zq271 ru
    obtain rfl := zq271
    refine el_1_1 ru ?_; clear ru; intro t' zq272
    obtain rfl := zq272
    exact call_gives PySem.F.slot_str_find (typeIs_str _ _ _) PySem.F.entry_str_find (PySem.F.args_str_find_2 _ _) (gives_str_find a b t t') ⟨.int _, H, I.tok _, ⟨_, rfl⟩, hq.here hm (.int _) q⟩
end
theorem find_fig : ∀ c : Nat, c < 58 → 48 ≤ c → firstOf (Builtin.Str.occurrences (Str.ofString "0123456789") (tx [c]) 0 (Str.ofString "0123456789").length 1) = ((c - 48 : Nat) : Int) := by decide +kernel
theorem seq_any {a u : TSd} {E : EndsD} {τ : DSt} {M : DH} (W : DSt → DH → Prop) (hu : ∀ τ' M', W τ' M' → u E τ' M') (h : ∀ R : DSt → DH → Prop, (∀ τ' M', W τ' M' → R τ' M') → a { E with nx := R } τ M) : DL.sSeq a u E τ M := h (u E) hu
theorem mem_of_all {l : List Nat} {p : Nat → Bool} (h1 : (List.range 128).all (fun c => decide (c ∈ l) == p c) = true) (h2 : ∀ c, 128 ≤ c → p c = false) (h3 : l.all (fun c => decide (c < 128)) = true) (c : Nat) : decide (c ∈ l) = p c := by
  by_cases hc : c < 128
  · have := List.all_eq_true.mp h1 c (List.mem_range.mpr hc)
    simpa using this
  · rw [h2 c (by (first | lia | omega)), decide_eq_false]
    intro z
    have := List.all_eq_true.mp h3 c z
    simp at this
    exact hc this
theorem isL_big (c : Nat) (h : 128 ≤ c) : isL c = false := by
  unfold isL
  rw [decide_eq_true (show 122 < c by (first | lia | omega))]; simp
theorem isF_big (c : Nat) (h : 128 ≤ c) : isF c = false := by
  unfold isF
  rw [decide_eq_true (show 57 < c by (first | lia | omega))]; simp
theorem in_name (c : Nat) : decide (c ∈ (Str.ofString "abcdefghijklmnopqrstuvwxyz0123456789").cps.toList) = isN c := mem_of_all (by decide +kernel) (fun c h => by show (isL c || isF c) = false; rw [isL_big c h, isF_big c h]; rfl) (by decide +kernel) c
theorem in_figs (c : Nat) : decide (c ∈ (Str.ofString "0123456789").cps.toList) = isF c := mem_of_all (by decide +kernel) isF_big (by decide +kernel) c
theorem in_begin (c : Nat) : decide (c ∈ (Str.ofString "abcdefghijklmnopqrstuvwxyz?").cps.toList) = (isL c || decide (c = 63)) := mem_of_all (p := fun c => isL c || decide (c = 63)) (by decide +kernel) (fun c h => by rw [isL_big c h, decide_eq_false (by (first | lia | omega))]; rfl) (by decide +kernel) c
theorem in_sep (c : Nat) : decide (c ∈ (Str.ofString ",)").cps.toList) = (decide (c = 44) || decide (c = 41)) := mem_of_all (p := fun c => decide (c = 44) || decide (c = 41)) (by decide +kernel) (fun c h => by rw [decide_eq_false (show ¬ c = 44 by (first | lia | omega)), decide_eq_false (show ¬ c = 41 by (first | lia | omega))]; rfl) (by decide +kernel) c
noncomputable def scName : Option Bool → Str
  | none => Str.ofString ""
  | some true => Str.ofString "BadText"
  | some false => Str.ofString "TooLong"
noncomputable def ctD (cts : List Nat) : List D := cts.reverse.map fun k => D.int (k : Nat)
noncomputable def spBegun : SpD := fun ds M Q => ∃ (c many : Nat) (l : Addr) (cts : List Nat), ds = [.str (tx [c]), .int (many : Nat), .ref l] ∧ M l = some (.lst (ctD cts)) ∧
  Q (.str (scName (if (isL c || decide (c = 63)) = false then some true else if many = 200 ∨ 30 ≤ cts.length then some false else none))) M
theorem ctD_len (cts : List Nat) : (ctD cts).length = cts.length := by unfold ctD; rw [List.length_map, List.length_reverse]
theorem ok_begun (T : Txt K mg) : FnD P w K mg base 1 "_law_begun" ["sign", "many", "counts"] spBegun := by
  have m_len := T.m_len
  refine def_ok T.f__law_begun sc__law_begun (fun ds M Q h => ?_) fun f cdv A outer s H E hr => ⟨_, (ss_cons (s_if (dt_cmp (od_notinX hr) (d_var 0) d_str (rfl)) (ss_one (s_ret d_str)) ss_nil)
 (ss_cons (s_if (PW.pt (dw_or (dt_cmp (od_eq hr) (d_var 1) d_int (nomark _)) (dw_or1 (dt_cmp od_ge (d_callB cd_len rfl m_len bt_len (a_cons (d_var 2) a_nil)) d_int (nomark _))))) (ss_one (s_ret d_str)) ss_nil)
 (ss_one (s_ret d_str)))), fun ds M Q h => ?_⟩
  · obtain ⟨c, many, l, cts, rfl, _⟩ := h; rfl
  · refine el_4_3 h ?_; clear h; intro c many l cts zq273 hl q
    obtain rfl := zq273
    refine in_ec c rfl ?_
    show if (!decide (c ∈ (Str.ofString "abcdefghijklmnopqrstuvwxyz?").cps.toList)) = true then _ else _
    rw [in_begin]
    cases hb : (isL c || decide (c = 63)) with
    | false => rw [hb, if_pos rfl] at q; exact rt_done q
    | true =>
      rw [hb, if_neg (by decide)] at q
      show if decide ((many : Int) = 200) = true then _ else _
      by_cases h1 : many = 200
      · first | refine ifT (show (many : Int) = 200 by (first | lia | omega)) ?_ | rw [decide_eq_true (show (many : Int) = 200 by (first | lia | omega)), if_pos rfl]
        rw [if_pos (.inl h1)] at q
        exact rt_done q
      · first | refine ifF (show ¬ (many : Int) = 200 by (first | lia | omega)) ?_ | rw [decide_eq_false (show ¬ (many : Int) = 200 by (first | lia | omega)), if_neg Bool.false_ne_true]
        refine in_ec _ hl ?_
        show if decide ((30 : Int) ≤ (((ctD cts).length : Nat) : Int)) = true then _ else _
        rw [ctD_len]
        by_cases h2 : 30 ≤ cts.length
        · first | refine ifT (show (30 : Int) ≤ ((cts.length : Nat) : Int) by (first | lia | omega)) ?_ | rw [decide_eq_true (show (30 : Int) ≤ ((cts.length : Nat) : Int) by (first | lia | omega)), if_pos rfl]
          rw [if_pos (.inr h2)] at q
          exact rt_done q
        · first | refine ifF (show ¬ (30 : Int) ≤ ((cts.length : Nat) : Int) by (first | lia | omega)) ?_ | rw [decide_eq_false (show ¬ (30 : Int) ≤ ((cts.length : Nat) : Int) by (first | lia | omega)), if_neg Bool.false_ne_true]
          rw [if_neg (by (first | lia | omega))] at q
          exact rt_done q
noncomputable def bhd (c : Nat) (cts : List Nat) : Bool := match cts with
  | [] => true
  | k :: _ => !(decide (c = 44) || decide (c = 41)) || (decide (c = 44) && decide (k = 9))
noncomputable def spBehind : SpD := fun ds M Q => ∃ (c : Nat) (l : Addr) (cts : List Nat), ds = [.str (tx [c]), .ref l] ∧ M l = some (.lst (ctD cts)) ∧ Q (.str (scName (if bhd c cts = true then some true else none))) M
theorem ctD_last (k : Nat) (ks : List Nat) : ctD (k :: ks) = ctD ks ++ [.int (k : Nat)] := by unfold ctD; rw [List.reverse_cons, List.map_append]; rfl
theorem ok_behind (T : Txt K mg) : FnD P w K mg base 1 "_law_behind" ["sign", "counts"] spBehind := by
  refine def_ok T.f__law_behind sc__law_behind (fun ds M Q h => ?_) fun f cdv A outer s H E hr => ⟨_, (ss_cons (s_if (PW.pt (dw_or (dt_cmp (od_eq hr) (d_var 1) (d_lst a_nil) (nomark _)) (dw_or (dt_cmp (od_notinX hr) (d_var 0) d_str (rfl)) (dw_or1 (PW.pt (dw_and (dt_cmp (od_eq hr) (d_var 0) d_str (nomark _)) (dw_and1 (dt_cmp (od_eq hr) (d_ix (d_var 1) (d_neg d_int)) d_int (nomark _))))))))) (ss_one (s_ret d_str)) ss_nil)
 (ss_one (s_ret d_str))), fun ds M Q h => ?_⟩
  · obtain ⟨c, l, cts, rfl, _⟩ := h; rfl
  · refine el_3_3 h ?_; clear h; intro c l cts zq274 hl q
    obtain rfl := zq274
    show ∀ p, M p = none → _
    intro p hp
    refine in_eeccc _ ([]) (Sub.new hp _ _ hl) updM_same (.inr rfl) ?_
    cases cts with
    | nil => exact ⟨M, Sub.new hp, q⟩
    | cons k ks =>
      have hne : (ctD (k :: ks)).isEmpty = false := by rw [ctD_last]; simp
      show if ((ctD (k :: ks)).isEmpty && ([] : List D).isEmpty) = true then _ else _
      rw [hne]
      refine in_ec c rfl ?_
      show if (!decide (c ∈ (Str.ofString ",)").cps.toList)) = true then _ else _
      rw [in_sep]
      have q' : Q (.str (scName (if (!(decide (c = 44) || decide (c = 41)) || (decide (c = 44) && decide (k = 9))) = true then some true else none))) M := q
      cases hs : (decide (c = 44) || decide (c = 41)) with
      | false => rw [hs] at q'; exact ⟨M, Sub.new hp, q'⟩
      | true =>
        rw [hs] at q'
        show if decide (tx [c] = Str.ofString ",") = true then _ else _
        by_cases h44 : c = 44
        · subst h44
          rw [s_comma, decide_eq_true rfl, if_pos rfl]
          refine in_eecc _ _ (Sub.new hp _ _ hl) (by rw [ctD_last]; exact atI_last _ _) ?_
          show if decide ((k : Int) = 9) = true then _ else _
          by_cases h9 : k = 9
          · subst h9
            exact in_ec M (Sub.new hp) q'
          · first | refine ifF (show ¬ (k : Int) = 9 by (first | lia | omega)) ?_ | rw [decide_eq_false (show ¬ (k : Int) = 9 by (first | lia | omega)), if_neg Bool.false_ne_true]
            rw [decide_eq_false h9] at q'
            exact in_ec M (Sub.new hp) q'
        · rw [s_comma, decide_eq_false (sign_ne rfl h44), if_neg Bool.false_ne_true]
          rw [decide_eq_false h44] at q'
          exact in_ec M (Sub.new hp) q'
theorem ixN_last {α : Type} (xs : List α) (x : α) : ixN (xs ++ [x]).length (-1) = some xs.length := by
  unfold ixN
  rw [if_neg (by decide), List.length_append, List.length_singleton, if_pos (by (first | lia | omega))]
  congr 1
  (first | lia | omega)
theorem asg_c {d : D} {i : Nat} {u : TSd} {E : EndsD} {τ : DSt} {M : DH} (h : u E (τ.set i (some d)) M) : DL.sSeq (sAsg (eC d) (hName i)) u E τ M := h
noncomputable def elsV (c : Nat) (r cts : List Nat) (size many : Nat) : Option Bool := match cts with
  | [] => some true
  | k :: ks => if c = 44 then (if k = 9 ∨ size = 0 then some true else scanS r ((k + 1) :: ks) 0 size many) else if c = 41 then (if size = 0 then some true else scanS r ks 3 size many) else some true
noncomputable def stN : Nat → Str
  | 0 => Str.ofString "begin"
  | 1 => Str.ofString "name"
  | 2 => Str.ofString "number"
  | _ => Str.ofString "end"
theorem stN_ne : ∀ (st a : Nat) (z : Str), st ≤ 3 → (a = 1 ∧ z = Str.ofString "name") ∨ (a = 2 ∧ z = Str.ofString "number") ∨ (a = 0 ∧ z = Str.ofString "begin") → st ≠ a → ¬ stN st = z
  | 0, _, _, _, h, hn => by rcases h with ⟨rfl, rfl⟩ | ⟨rfl, rfl⟩ | ⟨rfl, rfl⟩ <;> first | decide +kernel | exact absurd rfl hn
  | 1, _, _, _, h, hn => by rcases h with ⟨rfl, rfl⟩ | ⟨rfl, rfl⟩ | ⟨rfl, rfl⟩ <;> first | decide +kernel | exact absurd rfl hn
  | 2, _, _, _, h, hn => by rcases h with ⟨rfl, rfl⟩ | ⟨rfl, rfl⟩ | ⟨rfl, rfl⟩ <;> first | decide +kernel | exact absurd rfl hn
  | 3, _, _, _, h, hn => by rcases h with ⟨rfl, rfl⟩ | ⟨rfl, rfl⟩ | ⟨rfl, rfl⟩ <;> first | decide +kernel | exact absurd rfl hn
  | n + 4, _, _, h, _, _ => absurd h (by (first | lia | omega))
noncomputable def spScan : SpD := fun ds M Q => ∃ cs : List Nat, ds = [.str (tx cs)] ∧ cs.length ≤ 100000 ∧ Q (.str (scName (scanS cs [] 0 0 0))) M
structure ScL (M : DH) (l : Addr) (cs : List Nat) (i : Nat) (F : Option Bool) (cts : List Nat) (st size many : Nat) (v5 v6 : Option D) (τ : DSt) (M' : DH) : Prop where
  a1 : Sub M M'
  a2 : M' l = some (.lst (ctD cts))
  a3 : st ≤ 3 ∧ (size = 0 → st = 0 ∨ st = 2)
  a4 : size ≤ 1000000000 ∧ cts.length ≤ i
  a5 : scanS (cs.drop i) cts st size many = F
  a6 : τ = [some (.str (tx cs)), some (.ref l), some (.str (stN st)), some (.int (size : Nat)), some (.int (many : Nat)), v5, v6]
structure ScW (M : DH) (l : Addr) (cs : List Nat) (c i : Nat) (F : Option Bool) (cts : List Nat) (st size many : Nat) (bad : Option Bool) (τ' : DSt) (M' : DH) : Prop where
  a1 : Sub M M'
  a2 : M' l = some (.lst (ctD cts))
  a3 : st ≤ 3 ∧ size ≤ 1000000000
  a4 : ∀ e, bad = some e → F = some e
  a5 : bad = none → (st = 2 ∧ size = 0 ∧ c ≠ 63) → F = some true
  a6 : bad = none → ¬ (st = 2 ∧ size = 0 ∧ c ≠ 63) → scanS (cs.drop (i + 1)) cts st size many = F ∧ (size = 0 → st = 0 ∨ st = 2) ∧ cts.length ≤ i + 1
  a7 : τ' = [some (.str (tx cs)), some (.ref l), some (.str (stN st)), some (.int (size : Nat)), some (.int (many : Nat)), some (.str (tx [c])), some (.str (scName bad))]
theorem ok_scan (T : Txt K mg) : FnD P w K mg base 2 "_law_scan" ["text"] spScan := by
  have m_int := T.m_int
  have F__law_begun := ok_begun (P := P) (w := w) (base := base) T
  have F__law_behind := ok_behind (P := P) (w := w) (base := base) T
  refine def_ok T.f__law_scan sc__law_scan (fun ds M Q h => ?_) fun f cdv A outer s H E hr => ⟨_, (ss_cons (s_set (i := 1) sc__law_scan.nd (d_lst a_nil))
 (ss_cons (s_set (i := 2) sc__law_scan.nd d_str)
 (ss_cons (s_set (i := 3) sc__law_scan.nd d_int)
 (ss_cons (s_set (i := 4) sc__law_scan.nd d_int)
 (ss_cons (s_for PassesOwn.never rfl (d_var 0) (g_name (i := 5) sc__law_scan.nd) (ss_cons (s_set (i := 6) sc__law_scan.nd d_str)
 (ss_cons (s_if (PW.pt (dw_and (dt_cmp (od_eq hr) (d_var 2) d_str (nomark _)) (dw_and1 (dt_cmp (od_inX hr) (d_var 5) d_str (rfl))))) (ss_cons (s_set (i := 3) sc__law_scan.nd (d_op od_add (d_var 3) d_int))
 (ss_one (s_if (dt_cmp od_gt (d_var 3) d_int (nomark _)) (ss_one (s_ret d_str)) ss_nil))) (ss_one (s_if (PW.pt (dw_and (dt_cmp (od_eq hr) (d_var 2) d_str (nomark _)) (dw_and1 (dt_cmp (od_inX hr) (d_var 5) d_str (rfl))))) (ss_cons (s_set (i := 3) sc__law_scan.nd (d_op od_add (d_op od_mulS (d_var 3) d_int) (d_bm PySem.F.plainAttrs_str PySem.F.slot_str_find PySem.F.type_str_find md_findV d_str (a_cons (d_var 5) a_nil))))
 (ss_one (s_if (PW.pt (dw_or (dt_cmp (od_eq hr) (d_var 3) d_int (nomark _)) (dw_or1 (dt_cmp od_gt (d_var 3) (d_op od_pow d_int d_int) (nomark _))))) (ss_one (s_ret d_str)) ss_nil))) (ss_one (s_if (dt_cmp (od_eq hr) (d_var 2) d_str (nomark _)) (ss_cons (s_set (i := 6) sc__law_scan.nd (d_call F__law_begun (hr.mono (by (first | lia | omega))) (a_cons (d_var 5) (a_cons (d_var 4) (a_cons (d_var 1) a_nil)))))
 (ss_cons (s_set (i := 4) sc__law_scan.nd (d_op od_add (d_var 4) d_int))
 (ss_cons (s_set (i := 2) sc__law_scan.nd (d_ix (d_lst (a_cons d_str (a_cons d_str a_nil))) (d_callTy cd_int rfl m_int bt_int (a_cons (d_cmp (od_eq hr) (d_var 5) d_str (nomark _)) a_nil))))
 (ss_one (s_set (i := 3) sc__law_scan.nd (d_callTy cd_int rfl m_int bt_int (a_cons (d_cmp (od_ne hr) (d_var 5) d_str (nomark _)) a_nil))))))) (ss_one (s_if (PW.pt (dw_and (dt_cmp (od_eq hr) (d_var 2) d_str (nomark _)) (dw_and1 (dt_cmp (od_eq hr) (d_var 5) d_str (nomark _))))) (ss_cons (s_expr (d_bm PySem.F.plainAttrs_list PySem.F.slot_list_append PySem.F.type_list_append md_append (d_var 1) (a_cons d_int a_nil)))
 (ss_one (s_set (i := 2) sc__law_scan.nd d_str))) (ss_cons (s_set (i := 6) sc__law_scan.nd (d_call F__law_behind (hr.mono (by (first | lia | omega))) (a_cons (d_var 5) (a_cons (d_var 1) a_nil))))
 (ss_one (s_if (PW.pt (dw_and (dt_cmp (od_eq hr) (d_var 6) d_str (nomark _)) (dw_and (dt_cmp od_gt (d_var 3) d_int (nomark _)) (dw_and1 (dt_cmp (od_eq hr) (d_var 5) d_str (nomark _)))))) (ss_cons (s_asg (d_op od_add (d_ix (d_var 1) (d_neg d_int)) d_int) (g_sub (d_var 1) (d_neg d_int)))
 (ss_one (s_set (i := 2) sc__law_scan.nd d_str))) (ss_one (s_if (PW.pt (dw_and (dt_cmp (od_eq hr) (d_var 6) d_str (nomark _)) (dw_and1 (dt_cmp od_gt (d_var 3) d_int (nomark _))))) (ss_cons (s_expr (d_bm0 PySem.F.plainAttrs_list PySem.F.slot_list_pop PySem.F.type_list_pop md_pop (d_var 1)))
 (ss_one (s_set (i := 2) sc__law_scan.nd d_str))) ss_nil))))))))))))
 (ss_one (s_if (PW.pt (dw_or (dt_cmp (od_ne hr) (d_var 6) d_str (nomark _)) (dw_or1 (PW.pt (dw_and (dt_cmp (od_eq hr) (d_var 2) d_str (nomark _)) (dw_and (dt_cmp (od_eq hr) (d_var 3) d_int (nomark _)) (dw_and1 (dt_cmp (od_ne hr) (d_var 5) d_str (nomark _))))))))) (ss_one (s_ret (d_ix (d_lst (a_cons (d_var 6) (a_cons d_str a_nil))) (d_callTy cd_int rfl m_int bt_int (a_cons (d_cmp (od_eq hr) (d_var 6) d_str (nomark _)) a_nil))))) ss_nil)))))
 (ss_one (s_ret (d_ix (d_lst (a_cons d_str (a_cons d_str a_nil))) (d_callTy cd_int rfl m_int bt_int (a_cons (d_or (d_cmp (od_ne hr) (d_var 1) (d_lst a_nil) (nomark _)) (d_or (d_cmp (od_eq hr) (d_var 2) d_str (nomark _)) (d_one (d_cmp (od_eq hr) (d_var 3) d_int (nomark _))))) a_nil)))))))))), fun ds M Q h => ?_⟩
  · obtain ⟨cs, rfl, _⟩ := h; rfl
  · refine el_1_3 h ?_; clear h; intro cs zq275 hcs q
    obtain rfl := zq275
    show ∀ l, M l = none → _
    intro l hl
    have hW0 : Sub M (updM M l (.lst [])) := Sub.new hl
    have hL0 : updM M l (.lst []) l = some (.lst (ctD [])) := updM_same
    generalize updM M l (.lst []) = M0 at *
    refine ⟨fun i τ M' => ∃ (cts : List Nat) (st size many : Nat) (v5 v6 : Option D), ScL M l cs i (scanS cs [] 0 0 0) cts st size many v5 v6 τ M', ⟨[], 0, 0, 0, none, none, hW0, hL0, ⟨by decide, fun _ => .inl rfl⟩, ⟨by decide, Nat.zero_le _⟩, rfl, rfl⟩, fun _ _ _ _ _ => trivial, ?_, ?_⟩
    · rintro i d τ M' ed ⟨cts, st, size, many, v5, v6, hS, hl', ⟨h3, hz⟩, ⟨hsz, hct⟩, hF, rfl⟩
      unfold DL.signs at ed
      rw [tx_cps, List.getElem?_map] at ed
      cases ec : cs[i]? with
      | none => rw [ec] at ed; cases ed
      | some c =>
      rw [ec] at ed
      cases ed
      refine el_1_1 (List.getElem?_eq_some_iff.mp ec) ?_; intro hi ec'
      rw [List.drop_eq_getElem_cons hi, ec', scanS_cons] at hF
      generalize scanS cs [] 0 0 0 = F at *
      have hcl : cts.length < sizeLine := by have h3 : sizeLine = 16777216 := sizeLine_eq; (first | lia | omega)
      dsimp only [DL.hName]
      refine asg_c ?_
      refine seq_any (fun τ' M' => ∃ (cts : List Nat) (st size many : Nat) (bad : Option Bool), ScW M l cs c i F cts st size many bad τ' M') ?_ (fun R hR => ?_)
      · rintro τ' M2 ⟨cts, st, size, many, bad, hS2, hl2, ⟨h32, hsz2⟩, hb1, hb2, hb3, rfl⟩
        have ret : ∀ z : Str, F = some true → (endsOf Q).rt (.str (Str.ofString "BadText")) M2 := fun _ hf => by
          subst hf; exact ⟨M, hS2, q⟩
        cases bad with
        | some e =>
          have hf := hb1 e rfl
          subst hf
          cases e with
          | true =>
            show ∀ p, M2 p = none → _
            intro p hp
            exact in_eeccec _ _ updM_same rfl M (hS2.trans (Sub.new hp)) q
          | false =>
            show ∀ p, M2 p = none → _
            intro p hp
            exact in_eeccec _ _ updM_same rfl M (hS2.trans (Sub.new hp)) q
        | none =>
          have go : ¬ (st = 2 ∧ size = 0 ∧ c ≠ 63) → ∃ (cts : List Nat) (st' size' many' : Nat) (v5 v6 : Option D), ScL M l cs (i + 1) F cts st' size' many' v5 v6 [some (D.str (tx cs)), some (.ref l), some (.str (stN st)), some (.int (size : Nat)), some (.int (many : Nat)), some (.str (tx [c])), some (.str (scName none))] M2 := fun hn => by
            refine el_0_3 (hb3 rfl hn) ?_; intro g1 g2 g3
            exact ⟨cts, st, size, many, _, _, hS2, hl2, ⟨h32, g2⟩, ⟨hsz2, g3⟩, g1, rfl⟩
          show if decide (stN st = Str.ofString "number") = true then _ else _
          by_cases hst : st = 2
          · subst hst
            first | refine ifT (show stN 2 = Str.ofString "number" from rfl) ?_ | rw [decide_eq_true (show stN 2 = Str.ofString "number" from rfl), if_pos rfl]
            show if decide ((size : Int) = 0) = true then _ else _
            by_cases hs0 : size = 0
            · first | refine ifT (show (size : Int) = 0 by (first | lia | omega)) ?_ | rw [decide_eq_true (show (size : Int) = 0 by (first | lia | omega)), if_pos rfl]
              show if (!decide (tx [c] = Str.ofString "?")) = true then _ else _
              rw [s_ask]
              by_cases hc : c = 63
              · subst hc
                rw [decide_eq_true rfl]
                exact go fun z => z.2.2 rfl
              · rw [decide_eq_false (sign_ne rfl hc)]
                have hf := hb2 rfl ⟨rfl, hs0, hc⟩
                subst hf
                show ∀ p, M2 p = none → _
                intro p hp
                exact in_eeccec _ _ updM_same rfl M (hS2.trans (Sub.new hp)) q
            · first | refine ifF (show ¬ (size : Int) = 0 by (first | lia | omega)) ?_ | rw [decide_eq_false (show ¬ (size : Int) = 0 by (first | lia | omega)), if_neg Bool.false_ne_true]
              exact go fun z => hs0 z.2.1
          · have hsn : ¬ stN st = Str.ofString "number" := stN_ne st 2 _ h32 (.inr (.inl ⟨rfl, rfl⟩)) hst
            first | refine ifF hsn ?_ | rw [decide_eq_false hsn, if_neg Bool.false_ne_true]
            exact go fun z => hst z.1
      ·
        have els : st ≠ 0 → elsV c (cs.drop (i + 1)) cts size many = F → ∀ E : EndsD, E.nx = R → DL.sSeq (sAsg (eCall spBehind (eCons (eVar 5) (eCons (eVar 1) eNil))) (hName 6))
            (sIf (bAnd (eTest (eOp eqD (eVar 6) (eC (.str (Str.ofString ""))))) (bAnd (eTest (eOp (dI fun i j => .bl (decide (j < i))) (eVar 3) (eC (.int 0)))) (eTest (eOp eqD (eVar 5) (eC (.str (Str.ofString ",")))))))
              (sSeq (sAsg (eOp addD (eOp ixD (eVar 1) (eNeg (eC (.int 1)))) (eC (.int 1))) (hSub (eVar 1) (eNeg (eC (.int 1))))) (sAsg (eC (.str (Str.ofString "begin"))) (hName 2)))
              (sIf (bAnd (eTest (eOp eqD (eVar 6) (eC (.str (Str.ofString ""))))) (eTest (eOp (dI fun i j => .bl (decide (j < i))) (eVar 3) (eC (.int 0)))))
                (sSeq (sDrop (eBM0 "list" popD (eVar 1))) (sAsg (eC (.str (Str.ofString "end"))) (hName 2))) sNext)) E [some (.str (tx cs)), some (.ref l), some (.str (stN st)), some (.int (size : Nat)), some (.int (many : Nat)), some (.str (tx [c])), some (.str (Str.ofString ""))] M' := fun hst hF' E hE => by
          subst hE
          refine in_eeecc c l cts rfl hl' ?_
          cases hb : bhd c cts with
          | true =>
            have hf : F = some true := by
              cases cts with
              | nil => exact hF'.symm
              | cons k ks =>
                have hb' : (!(decide (c = 44) || decide (c = 41)) || (decide (c = 44) && decide (k = 9))) = true := hb
                rw [← hF']
                show (if c = 44 then (if k = 9 ∨ size = 0 then some true else scanS (cs.drop (i + 1)) ((k + 1) :: ks) 0 size many) else if c = 41 then (if size = 0 then some true else scanS (cs.drop (i + 1)) ks 3 size many) else some true) = some true
                by_cases h44 : c = 44
                · rw [decide_eq_true h44] at hb'
                  rw [if_pos h44, if_pos (.inl (by simpa using hb'))]
                · rw [decide_eq_false h44] at hb'
                  rw [if_neg h44, if_neg (by simpa using hb')]
            exact hR _ _ ⟨cts, st, size, many, some true, hS, hl', ⟨h3, hsz⟩, fun e he => by cases he; exact hf, (fun z => by cases z), (fun z => by cases z), rfl⟩
          | false =>
            cases cts with
            | nil => cases hb
            | cons k ks =>
              have hb' : (!(decide (c = 44) || decide (c = 41)) || (decide (c = 44) && decide (k = 9))) = false := hb
              have hF2 : (if c = 44 then (if k = 9 ∨ size = 0 then some true else scanS (cs.drop (i + 1)) ((k + 1) :: ks) 0 size many) else if c = 41 then (if size = 0 then some true else scanS (cs.drop (i + 1)) ks 3 size many) else some true) = F := hF'
              rw [List.length_cons] at hct
              show if decide ((0 : Int) < (size : Int)) = true then _ else _
              by_cases hs0 : size = 0
              · first | refine ifF (show ¬ (0 : Int) < (size : Int) by (first | lia | omega)) ?_ | rw [decide_eq_false (show ¬ (0 : Int) < (size : Int) by (first | lia | omega)), if_neg Bool.false_ne_true]
                show if decide ((0 : Int) < (size : Int)) = true then _ else _
                first | refine ifF (show ¬ (0 : Int) < (size : Int) by (first | lia | omega)) ?_ | rw [decide_eq_false (show ¬ (0 : Int) < (size : Int) by (first | lia | omega)), if_neg Bool.false_ne_true]
                have h2 : st = 2 := by rcases hz hs0 with h | h; exact absurd h hst; exact h
                have hf : F = some true := by
                  rw [← hF2, if_pos (show k = 9 ∨ size = 0 from .inr hs0), if_pos hs0]
                  split
                  · rfl
                  · split <;> rfl
                refine hR _ _ ⟨k :: ks, st, size, many, none, hS, hl', ⟨h3, hsz⟩, (fun e he => by cases he), fun _ _ => hf, fun _ hn => absurd ⟨h2, hs0, fun z => ?_⟩ hn, rfl⟩
                subst z
                cases hb'
              · first | refine ifT (show (0 : Int) < (size : Int) by (first | lia | omega)) ?_ | rw [decide_eq_true (show (0 : Int) < (size : Int) by (first | lia | omega)), if_pos rfl]
                show if decide (tx [c] = Str.ofString ",") = true then _ else _
                rw [s_comma]
                by_cases h44 : c = 44
                · subst h44
                  have h9 : ¬ k = 9 := by simpa using hb'
                  rw [if_pos rfl, if_neg (by (first | lia | omega))] at hF2
                  first | refine ifT rfl ?_ | rw [decide_eq_true rfl, if_pos rfl]
                  refine ⟨_, .int (k : Nat), hl', by rw [ctD_last]; exact atI_last _ _, ctD (k :: ks), (ctD ks).length, hl', by rw [ctD_last]; exact ixN_last _ _, ?_⟩
                  have eu : (ctD (k :: ks)).set (ctD ks).length (.int ((k : Int) + 1)) = ctD ((k + 1) :: ks) := by
                    rw [ctD_last, ctD_last, List.set_append_right _ _ (Nat.le_refl _), Nat.sub_self]; rfl
                  show E.nx _ (updM M' l (.lst ((ctD (k :: ks)).set (ctD ks).length (.int ((k : Int) + 1)))))
                  rw [eu]
                  exact hR _ _ ⟨(k + 1) :: ks, 0, size, many, none, sub_upd hS hl, updM_same, ⟨by decide, hsz⟩, (fun e he => by cases he), (fun _ z => absurd z.1 (by decide)), fun _ _ => ⟨hF2, fun _ => .inl rfl, by rw [List.length_cons]; (first | lia | omega)⟩, rfl⟩
                · have h41 : c = 41 := by
                    rw [decide_eq_false h44] at hb'
                    simpa using hb'
                  rw [if_neg h44, if_pos h41, if_neg hs0] at hF2
                  first | refine ifF (sign_ne rfl h44) ?_ | rw [decide_eq_false (sign_ne rfl h44), if_neg Bool.false_ne_true]
                  show if decide ((0 : Int) < (size : Int)) = true then _ else _
                  first | refine ifT (show (0 : Int) < (size : Int) by (first | lia | omega)) ?_ | rw [decide_eq_true (show (0 : Int) < (size : Int) by (first | lia | omega)), if_pos rfl]
                  refine in_ceec (⟨rfl, _, hl'⟩) (ctD ks) (.int (k : Nat)) (by rw [hl', ctD_last]) ?_
                  exact hR _ _ ⟨ks, 3, size, many, none, sub_upd hS hl, updM_same, ⟨by decide, hsz⟩, (fun e he => by cases he), (fun _ z => absurd z.1 (by decide)), fun _ _ => ⟨hF2, fun z => absurd z hs0, by (first | lia | omega)⟩, rfl⟩
        have st_ne := fun a z => stN_ne st a z h3
        show if decide (stN st = Str.ofString "name") = true then _ else _
        by_cases h1 : st = 1
        ·
          subst h1
          first | refine ifT (show stN 1 = Str.ofString "name" from rfl) ?_ | rw [decide_eq_true (show stN 1 = Str.ofString "name" from rfl), if_pos rfl]
          refine in_ec c rfl ?_
          show if decide (c ∈ (Str.ofString "abcdefghijklmnopqrstuvwxyz0123456789").cps.toList) = true then _ else _
          rw [in_name]
          by_cases hN : isN c = true
          · rw [if_pos hN]
            rw [if_pos ⟨rfl, hN⟩] at hF
            show if decide ((12 : Int) < (size : Int) + 1) = true then _ else _
            by_cases h12 : 12 < size + 1
            · first | refine ifT (show (12 : Int) < (size : Int) + 1 by (first | lia | omega)) ?_ | rw [decide_eq_true (show (12 : Int) < (size : Int) + 1 by (first | lia | omega)), if_pos rfl]
              rw [if_pos h12] at hF
              subst hF
              exact in_ec M hS q
            · first | refine ifF (show ¬ (12 : Int) < (size : Int) + 1 by (first | lia | omega)) ?_ | rw [decide_eq_false (show ¬ (12 : Int) < (size : Int) + 1 by (first | lia | omega)), if_neg Bool.false_ne_true]
              rw [if_neg h12] at hF
              exact hR _ _ ⟨cts, 1, size + 1, many, none, hS, hl', ⟨by decide, by (first | lia | omega)⟩, (fun e he => by cases he), (fun _ z => absurd z.1 (by decide)), fun _ _ => ⟨hF, fun z => absurd z (by (first | lia | omega)), by (first | lia | omega)⟩, rfl⟩
          · rw [if_neg hN]
            rw [if_neg (fun z => hN z.2), if_neg (fun z => absurd z.1 (by decide)), if_neg (by decide)] at hF
            show if decide (tx [c] = Str.ofString "(") = true then _ else _
            rw [s_open]
            by_cases h40 : c = 40
            · subst h40
              rw [if_pos ⟨rfl, rfl⟩] at hF
              first | refine ifT rfl ?_ | rw [decide_eq_true rfl, if_pos rfl]
              refine in_cecc (⟨rfl, _, hl'⟩) _ hl' (by rw [ctD_len]; exact hcl) ?_
              have e1 : ctD cts ++ [.int 1] = ctD (1 :: cts) := (ctD_last 1 cts).symm
              show R _ (updM M' l (.lst (ctD cts ++ [.int 1])))
              rw [e1]
              exact hR _ _ ⟨1 :: cts, 0, size, many, none, sub_upd hS hl, updM_same, ⟨by decide, hsz⟩, (fun e he => by cases he), (fun _ z => absurd z.1 (by decide)), fun _ _ => ⟨hF, fun _ => .inl rfl, by rw [List.length_cons]; (first | lia | omega)⟩, rfl⟩
            · rw [if_neg (fun z => h40 z.2)] at hF
              first | refine ifF (sign_ne rfl h40) ?_ | rw [decide_eq_false (sign_ne rfl h40), if_neg Bool.false_ne_true]
              exact els (by decide) hF _ rfl
        · first | refine ifF (st_ne 1 _ (.inl ⟨rfl, rfl⟩) h1) ?_ | rw [decide_eq_false (st_ne 1 _ (.inl ⟨rfl, rfl⟩) h1), if_neg Bool.false_ne_true]
          rw [if_neg (fun z => h1 z.1)] at hF
          show if decide (stN st = Str.ofString "number") = true then _ else _
          by_cases h2 : st = 2
          ·
            subst h2
            first | refine ifT (show stN 2 = Str.ofString "number" from rfl) ?_ | rw [decide_eq_true (show stN 2 = Str.ofString "number" from rfl), if_pos rfl]
            refine in_ec c rfl ?_
            show if decide (c ∈ (Str.ofString "0123456789").cps.toList) = true then _ else _
            rw [in_figs]
            by_cases hD : isF c = true
            · have hcr := isF_range hD
              rw [if_pos hD]
              rw [if_pos ⟨rfl, hD⟩] at hF
              refine ⟨.inr ⟨by decide, by decide⟩, rfl, ?_⟩
              have ev : (size : Int) * 10 + firstOf (Builtin.Str.occurrences (Str.ofString "0123456789") (⟨#[c]⟩ : Str) 0 (Str.ofString "0123456789").length 1) = ((size * 10 + (c - 48) : Nat) : Int) := by
                rw [show (⟨#[c]⟩ : Str) = tx [c] from rfl, find_fig c (by (first | lia | omega)) (by (first | lia | omega))]; push_cast; (first | lia | omega)
              show if decide ((size : Int) * 10 + firstOf (Builtin.Str.occurrences (Str.ofString "0123456789") (⟨#[c]⟩ : Str) 0 (Str.ofString "0123456789").length 1) = 0) = true then _ else _
              rw [ev]
              generalize size * 10 + (c - 48) = v at *
              by_cases hv : v = 0
              · first | refine ifT (show ((v : Nat) : Int) = 0 by (first | lia | omega)) ?_ | rw [decide_eq_true (show ((v : Nat) : Int) = 0 by (first | lia | omega)), if_pos rfl]
                rw [if_pos (.inl hv)] at hF
                subst hF
                exact in_ec M hS q
              · first | refine ifF (show ¬ ((v : Nat) : Int) = 0 by (first | lia | omega)) ?_ | rw [decide_eq_false (show ¬ ((v : Nat) : Int) = 0 by (first | lia | omega)), if_neg Bool.false_ne_true]
                have e9 : (10 : Int) ^ (9 : Int).toNat = 1000000000 := by decide
                refine ⟨⟨by decide, by decide, by decide⟩, ?_⟩
                show if decide ((10 : Int) ^ (9 : Int).toNat < ((v : Nat) : Int)) = true then _ else _
                rw [e9]
                by_cases hb : 1000000000 < v
                · first | refine ifT (show (1000000000 : Int) < ((v : Nat) : Int) by (first | lia | omega)) ?_ | rw [decide_eq_true (show (1000000000 : Int) < ((v : Nat) : Int) by (first | lia | omega)), if_pos rfl]
                  rw [if_pos (.inr hb)] at hF
                  subst hF
                  exact in_ec M hS q
                · first | refine ifF (show ¬ (1000000000 : Int) < ((v : Nat) : Int) by (first | lia | omega)) ?_ | rw [decide_eq_false (show ¬ (1000000000 : Int) < ((v : Nat) : Int) by (first | lia | omega)), if_neg Bool.false_ne_true]
                  rw [if_neg (by (first | lia | omega))] at hF
                  exact hR _ _ ⟨cts, 2, v, many, none, hS, hl', ⟨by decide, by (first | lia | omega)⟩, (fun e he => by cases he), (fun _ z => absurd z.2.1 hv), fun _ _ => ⟨hF, fun z => absurd z hv, by (first | lia | omega)⟩, rfl⟩
            · rw [if_neg hD]
              rw [if_neg (fun z => hD z.2), if_neg (by decide), if_neg (fun z => absurd z.1 (by decide))] at hF
              exact els (by decide) hF _ rfl
          · first | refine ifF (st_ne 2 _ (.inr (.inl ⟨rfl, rfl⟩)) h2) ?_ | rw [decide_eq_false (st_ne 2 _ (.inr (.inl ⟨rfl, rfl⟩)) h2), if_neg Bool.false_ne_true]
            rw [if_neg (fun z => h2 z.1)] at hF
            show if decide (stN st = Str.ofString "begin") = true then _ else _
            by_cases h0 : st = 0
            ·
              subst h0
              first | refine ifT (show stN 0 = Str.ofString "begin" from rfl) ?_ | rw [decide_eq_true (show stN 0 = Str.ofString "begin" from rfl), if_pos rfl]
              rw [if_pos rfl] at hF
              refine in_eeeecc c many l cts rfl hl' ?_
              show ∀ p, M' p = none → _
              intro p hp
              have hS2 := hS.trans (Sub.new (o := .lst [.str (Str.ofString "name"), .str (Str.ofString "number")]) hp)
              have hl2 := Sub.new (o := .lst [.str (Str.ofString "name"), .str (Str.ofString "number")]) hp _ _ hl'
              by_cases hq : c = 63
              · subst hq
                rw [if_pos rfl] at hF
                refine in_eecc _ (.str (stN 2)) updM_same rfl ?_
                by_cases hm : many = 200 ∨ 30 ≤ cts.length
                · rw [if_pos hm] at hF
                  refine hR _ _ ⟨cts, 2, 0, many + 1, some false, hS2, hl2, ⟨by decide, by decide⟩, fun e he => by cases he; exact hF.symm, (fun z => by cases z), (fun z => by cases z), ?_⟩
                  rw [if_neg (by decide), if_pos hm]; rfl
                · rw [if_neg hm] at hF
                  refine hR _ _ ⟨cts, 2, 0, many + 1, none, hS2, hl2, ⟨by decide, by decide⟩, (fun e he => by cases he), (fun _ z => absurd rfl z.2.2), fun _ _ => ⟨hF, fun _ => .inr rfl, by (first | lia | omega)⟩, ?_⟩
                  rw [if_neg (by decide), if_neg hm]; rfl
              · rw [if_neg hq] at hF
                have hd0 : decide ((⟨#[c]⟩ : Str) = Str.ofString "?") = false := by rw [s_ask]; exact decide_eq_false (sign_ne rfl hq)
                refine in_eecc _ (.str (stN 1)) updM_same (by rw [hd0]; rfl) ?_
                show R _ _
                rw [hd0]
                by_cases hLc : isL c = true
                · rw [if_pos hLc] at hF
                  by_cases hm : many = 200 ∨ 30 ≤ cts.length
                  · rw [if_pos hm] at hF
                    refine hR _ _ ⟨cts, 1, 1, many + 1, some false, hS2, hl2, ⟨by decide, by decide⟩, fun e he => by cases he; exact hF.symm, (fun z => by cases z), (fun z => by cases z), ?_⟩
                    rw [hLc, if_neg (by simp), if_pos hm]; rfl
                  · rw [if_neg hm] at hF
                    refine hR _ _ ⟨cts, 1, 1, many + 1, none, hS2, hl2, ⟨by decide, by decide⟩, (fun e he => by cases he), (fun _ z => absurd z.1 (by decide)), fun _ _ => ⟨hF, fun z => absurd z (by decide), by (first | lia | omega)⟩, ?_⟩
                    rw [hLc, if_neg (by simp), if_neg hm]; rfl
                · rw [if_neg hLc] at hF
                  have hL0 : isL c = false := by simpa using hLc
                  refine hR _ _ ⟨cts, 1, 1, many + 1, some true, hS2, hl2, ⟨by decide, by decide⟩, fun e he => by cases he; exact hF.symm, (fun z => by cases z), (fun z => by cases z), ?_⟩
                  rw [hL0, decide_eq_false hq, if_pos (by decide)]; rfl
            · first | refine ifF (st_ne 0 _ (.inr (.inr ⟨rfl, rfl⟩)) h0) ?_ | rw [decide_eq_false (st_ne 0 _ (.inr (.inr ⟨rfl, rfl⟩)) h0), if_neg Bool.false_ne_true]
              rw [if_neg h0, if_neg (fun z => h1 z.1)] at hF
              show if decide (stN st = Str.ofString "name") = true then _ else _
              first | refine ifF (st_ne 1 _ (.inl ⟨rfl, rfl⟩) h1) ?_ | rw [decide_eq_false (st_ne 1 _ (.inl ⟨rfl, rfl⟩) h1), if_neg Bool.false_ne_true]
              exact els h0 hF _ rfl
    · rintro τ M' ⟨cts, st, size, many, v5, v6, hS, hl', ⟨h3, hz⟩, ⟨hsz, hct⟩, hF, rfl⟩
      have elen : (DL.signs (tx cs)).length = cs.length := (DL.signs_length _).trans (tx_len cs)
      rw [elen, List.drop_length, scanS] at hF
      generalize scanS cs [] 0 0 0 = F at *
      show ∀ p, M' p = none → _
      intro p hp
      have hS1 := hS.trans (Sub.new (o := .lst [.str (Str.ofString ""), .str (Str.ofString "BadText")]) hp)
      have hl1 := Sub.new (o := .lst [.str (Str.ofString ""), .str (Str.ofString "BadText")]) hp _ _ hl'
      have hp1 : updM M' p (.lst [.str (Str.ofString ""), .str (Str.ofString "BadText")]) p = some (.lst [.str (Str.ofString ""), .str (Str.ofString "BadText")]) := updM_same
      generalize updM M' p (.lst [.str (Str.ofString ""), .str (Str.ofString "BadText")]) = M1 at *
      show ∀ p2, M1 p2 = none → _
      intro p2 hp2
      have hp3 := Sub.new (o := .lst []) hp2 _ _ hp1
      have hS2 := hS1.trans (Sub.new (o := .lst []) hp2)
      refine in_eeccc _ ([]) (Sub.new hp2 _ _ hl1) updM_same (.inr rfl) ?_
      cases cts with
      | cons k ks =>
        rw [if_pos (.inl (by simp))] at hF
        subst hF
        have hne : (ctD (k :: ks)).isEmpty = false := by rw [ctD_last]; simp
        show if (!((ctD (k :: ks)).isEmpty && ([] : List D).isEmpty)) = true then _ else _
        rw [hne]
        exact in_eeccec _ _ hp3 rfl M hS2 q
      | nil =>
        show if decide (stN st = Str.ofString "begin") = true then _ else _
        by_cases h0 : st = 0
        · rw [if_pos (.inr (.inl h0))] at hF
          subst hF h0
          exact in_eeccec _ _ hp3 rfl M hS2 q
        · have hsn : ¬ stN st = Str.ofString "begin" := stN_ne st 0 _ h3 (.inr (.inr ⟨rfl, rfl⟩)) h0
          first | refine ifF hsn ?_ | rw [decide_eq_false hsn, if_neg Bool.false_ne_true]
          by_cases hs0 : size = 0
          · rw [if_pos (.inr (.inr hs0))] at hF
            subst hF hs0
            exact in_eeccec _ _ hp3 rfl M hS2 q
          · rw [if_neg (by intro z; rcases z with z | z | z; exact z rfl; exact h0 z; exact hs0 z)] at hF
            subst hF
            have hd0 : decide ((size : Int) = 0) = false := decide_eq_false (by (first | lia | omega))
            refine in_eeccec _ (.str (Str.ofString "")) hp3 ?_ M hS2 q
            show atI _ (if decide ((size : Int) = 0) = true then 1 else 0) = _
            rw [hd0]
            rfl
theorem FnE.toD {P : Program} {w : World} {K : PySem.W.Frag} {mg : Str → Option Value} {base : Heap} {k : Nat} {x : Str} {ps : List Str} {sp : SpE} {sp' : SpD} (F : FnE P w K mg base k x ps sp) (h : ∀ ds M Q, sp' ds M Q → sp ds M Q (fun _ _ => False)) : FnD P w K mg base k x ps sp' := by
  refine el_2_4 (F.ex) ?_; (try clear F); intro f fd F hm hk hb
  have h' : ∀ vs H Q E, lowSp K sp' vs H Q E → lowSpE K sp vs H Q (fun _ _ _ => False) := fun vs H Q E ⟨ds, M, Q', i, m, q, hq⟩ => ⟨ds, M, Q', fun _ _ => False, i, m, h _ _ _ q, hq, fun _ _ _ _ _ z => z⟩
  refine ⟨f, fd, ⟨fun vs H Q E z => F.len _ _ _ _ (h' _ _ _ _ z), fun A outer s H args us vs Q E h1 h2 h3 h4 z => ?_⟩, hm, hk, hb⟩
  refine codeAny_mono (F.run A outer s H args us vs Q (fun _ _ _ => False) h1 h2 h3 h4 (h' _ _ _ _ z)) fun r s' hq => ?_
  cases r with
  | error e =>
    refine el_4_11 hq ?_; clear hq; intro _ _ _ _ _ _ _ _ _ _ _ _ _ _ z
    exact z.elim
  | ok fl => cases fl <;> exact hq
noncomputable def spReadG : SpD := fun ds M Q => ∃ (cs : List Nat) (t : Tree) (r : List Nat) (k : Nat), ds = [.str (tx cs)] ∧ cs.length ≤ 100000 ∧ rd cs = .got t r k ∧ Q t.d M
theorem ok_readG (T : Txt K mg) : FnD P w K mg base 100 "read" ["text"] spReadG := FnE.toD (ok_readE T) fun ds M Q ⟨cs, t, r, k, e, hl, hr, q⟩ => ⟨cs, e, hl, by rw [hr]; exact q⟩
noncomputable def spIsTr (n : Nat) : SpD := fun ds M Q => ∃ t : Tree, ds = [t.d] ∧ t.depth ≤ n ∧ t.knots ≤ 1000 ∧ Q (.bl true) M
theorem filt_none : ∀ xs : List D, xs.filterMap (fun _ => (none : Option D)) = []
  | [] => rfl
  | x :: xs => by rw [List.filterMap_cons, filt_none xs]
theorem ok_isTr (T : Txt K mg) : ∀ n : Nat, FnD P w K mg base (n + 1) "_law_is_tree" ["tree"] (spIsTr n)
  | 0 => (fn_none T.f__law_is_tree fun ds M Q ⟨t, _, h, _⟩ => by have := depth_pos t; (first | lia | omega)).mono (by (first | lia | omega))
  | n + 1 => by
    have m_bool := T.m_bool
    have m_int := T.m_int
    have m_isinstance := T.m_isinstance
    have m_len := T.m_len
    have m_str := T.m_str
    have m_tuple := T.m_tuple
    have F__law_is_tree := ok_isTr T n
    refine def_ok T.f__law_is_tree sc__law_is_tree (fun ds M Q h => ?_) fun f cdv A outer s H E hr => ⟨_, (ss_cons (s_if (PW.pt (dw_or (dt_not (dt_val (d_callB cd_isi rfl m_isinstance bt_isinstance (a_cons (d_var 0) (a_cons (d_ty rfl m_tuple bt_tuple) a_nil))))) (dw_or1 (dt_cmp od_lt (d_callB cd_len rfl m_len bt_len (a_cons (d_var 0) a_nil)) d_int (nomark _))))) (ss_one (s_ret d_bl)) ss_nil)
 (ss_cons (s_if (dt_cmp (od_eq hr) (d_ix (d_var 0) d_int) d_str (nomark _)) (ss_one (s_ret (d_and (d_cmp (od_eq hr) (d_callB cd_len rfl m_len bt_len (a_cons (d_var 0) a_nil)) d_int (nomark _)) (d_and (d_callB cd_isi rfl m_isinstance bt_isinstance (a_cons (d_ix (d_var 0) d_int) (a_cons (d_ty rfl m_int bt_int) a_nil))) (d_one (d_not (d_callB cd_isi rfl m_isinstance bt_isinstance (a_cons (d_ix (d_var 0) d_int) (a_cons (d_ty rfl m_bool bt_bool) a_nil))))))))) ss_nil)
 (ss_cons (s_if (PW.pt (dw_or (dt_cmp (od_ne hr) (d_ix (d_var 0) d_int) d_str (nomark _)) (dw_or (dt_cmp (od_ne hr) (d_callB cd_len rfl m_len bt_len (a_cons (d_var 0) a_nil)) d_int (nomark _)) (dw_or (dt_not (dt_val (d_callB cd_isi rfl m_isinstance bt_isinstance (a_cons (d_ix (d_var 0) d_int) (a_cons (d_ty rfl m_str bt_str) a_nil))))) (dw_or1 (dt_not (dt_val (d_callB cd_isi rfl m_isinstance bt_isinstance (a_cons (d_ix (d_var 0) d_int) (a_cons (d_ty rfl m_tuple bt_tuple) a_nil)))))))))) (ss_one (s_ret d_bl)) ss_nil)
 (ss_one (s_ret (d_cmp (od_eq hr) (d_comp (Nc := ["part"]) (js := [none]) (comp_ok0 (by decide +kernel) (by decide +kernel) (by decide +kernel) rfl rfl) rfl (d_ix (d_var 0) d_int) (fun C s H fp => (g_name (i := 0) (by show List.Nodup (["part"] : List Str); decide +kernel))) (fun C s H fp => Or.inr ⟨_, rfl, (dt_not (dt_val (d_call F__law_is_tree (hr.mono (by (first | lia | omega))) (a_cons (d_var 0) a_nil))))⟩) (fun C s H fp => (d_var 0))) (d_lst a_nil) (nomark _))))))), fun ds M Q h => ?_⟩
    · obtain ⟨t, rfl, _⟩ := h; rfl
    · refine el_1_4 h ?_; clear h; intro t zq279 hd hk q
      obtain rfl := zq279
      cases t with
      | blank k => exact rt_done q
      | block z ps =>
        rw [Tree.depth] at hd
        rw [Tree.knots] at hk
        have h3 := length_knotss ps
        refine ⟨by rw [ds_map, List.length_map]; (first | lia | omega), fun _ => none, fun d hd' p acc hp => ?_, fun p hp => ?_⟩
        · rw [ds_map] at hd'
          refine el_1_2 (List.mem_map.mp hd') ?_; intro u hu zq280
          obtain rfl := zq280
          obtain ⟨i, hi, e⟩ := List.getElem_of_mem hu
          have e' : ps[i]? = some u := by rw [List.getElem?_eq_getElem hi, e]
          have h1 := depth_get e'
          have h2 := knots_get e'
          exact ⟨⟨rfl, fun i x e => by
            match i with
            | 0 => cases e
            | j + 1 => exact e⟩, u, rfl, by (first | lia | omega), by (first | lia | omega), rfl, rfl⟩
        · rw [filt_none]
          show ∀ p2, _ → _
          intro p2 hp2
          refine in_eeccc ([]) ([]) (Sub.new hp2 _ _ updM_same) updM_same (.inl rfl) ?_
          exact in_ec M ((Sub.new hp).trans (Sub.new hp2)) q
noncomputable def refD : RR → List D
  | .got _ _ _ => []
  | .no e => [.bl e, .bl (!e), .bl true, .bl false, .bl false]
theorem sub_none {M M1 : DH} {l : Addr} (h : Sub M M1) (hl : M1 l = none) : M l = none := by
  cases e : M l with
  | none => rfl
  | some o => rw [h l o e] at hl; cases hl
theorem sub_both {M M1 : DH} {l : Addr} {o : MO} (h : Sub M M1) (hl : M l = none) : Sub (updM M l o) (updM M1 l o) := fun c x e => by
  by_cases z : c = l
  · subst z; rw [updM_same] at e ⊢; exact e
  · rw [updM_ne z] at e ⊢; exact h c x e
noncomputable def spRefu : SpD := fun ds M Q => ∃ cs : List Nat, ds = [.str (tx cs)] ∧ cs.length ≤ 100000 ∧ ∀ l, M l = none → Q (.ref l) (updM M l (.lst (refD (rd cs))))
theorem ok_refu (T : Txt K mg) : FnD P w K mg base 104 "_law_refusal" ["text"] spRefu := by
  have m_ValueError := T.m_ValueError
  have m_isinstance := T.m_isinstance
  have E_read := ok_readE (P := P) (w := w) (base := base) T
  refine def_ok T.f__law_refusal sc__law_refusal (fun ds M Q h => ?_) fun f cdv A outer s H E hr => ⟨_, (ss_cons (s_set (i := 1) sc__law_refusal.nd (d_lst a_nil))
 (ss_cons (s_tryE E_read rfl rfl rfl (hr.mono (by (first | lia | omega))) (a_cons (d_var 0) a_nil) (h_catchAs (i := 2) rfl rfl rfl sc__law_refusal.nd (xc_FormError T).nm (fun a => (ss_cons (s_set (i := 1) sc__law_refusal.nd (d_lst (a_cons (d_callB (cd_isiE (K := K) rfl) rfl m_isinstance bt_isinstance (a_cons (d_var 2) (a_cons (d_cls rfl (xc_BadText T).nm) a_nil))) (a_cons (d_callB (cd_isiE (K := K) rfl) rfl m_isinstance bt_isinstance (a_cons (d_var 2) (a_cons (d_cls rfl (xc_TooLong T).nm) a_nil))) (a_cons (d_callB (cd_isiE (K := K) rfl) rfl m_isinstance bt_isinstance (a_cons (d_var 2) (a_cons (d_ty rfl m_ValueError bt_ValueError) a_nil))) a_nil)))))
 (ss_cons (s_set (i := 1) sc__law_refusal.nd (d_op od_add (d_var 1) (d_lst (a_cons (d_or (d_callB (cd_isiE (K := K) rfl) rfl m_isinstance bt_isinstance (a_cons (d_var 2) (a_cons (d_cls rfl (xc_NoPlace T).nm) a_nil))) (d_or (d_callB (cd_isiE (K := K) rfl) rfl m_isinstance bt_isinstance (a_cons (d_var 2) (a_cons (d_cls rfl (xc_BadPaper T).nm) a_nil))) (d_one (d_callB (cd_isiE (K := K) rfl) rfl m_isinstance bt_isinstance (a_cons (d_var 2) (a_cons (d_cls rfl (xc_BadName T).nm) a_nil)))))) a_nil))))
 (ss_one (s_set (i := 1) sc__law_refusal.nd (d_op od_add (d_var 1) (d_lst (a_cons (d_or (d_callB (cd_isiE (K := K) rfl) rfl m_isinstance bt_isinstance (a_cons (d_var 2) (a_cons (d_cls rfl (xc_Twice T).nm) a_nil))) (d_one (d_callB (cd_isiE (K := K) rfl) rfl m_isinstance bt_isinstance (a_cons (d_var 2) (a_cons (d_cls rfl (xc_NoForm T).nm) a_nil))))) a_nil)))))))) h_none))
 (ss_one (s_ret (d_var 1))))), fun ds M Q h => ?_⟩
  · obtain ⟨cs, rfl, _⟩ := h; rfl
  · refine el_1_3 h ?_; clear h; intro cs zq281 hl q
    obtain rfl := zq281
    show ∀ l, M l = none → _
    intro l0 hl0
    have hs1 : Sub M (updM M l0 (.lst [])) := Sub.new hl0
    refine in_ecc cs rfl hl ?_
    cases er : rd cs with
    | got t r k =>
      rw [er] at q
      exact in_ec _ (Sub.refl _) (q l0 hl0)
    | no e =>
    rw [er] at q
    cases e with
    | true =>
      intro M1 hM1
      refine in_eceecc _ (Sub.refl _) _ _ rfl (isa_BadText_FormError T) ?_
      rw [if_pos rfl]
      intro pe hpe
      have hS := (hs1.trans hM1).trans (Sub.new (o := .exc (.ref (ecl mg true))) hpe)
      have he : updM M1 pe (.exc (.ref (ecl mg true))) pe = some (.exc (.ref (ecl mg true))) := updM_same
      generalize updM M1 pe (.exc (.ref (ecl mg true))) = M2 at *
      have xn := xcl_BadText T
      refine in_eeccceeccceeccc _ _ he xn (kit_BadText_BadText T) _ _ he xn (kit_BadText_TooLong T) _ _ he xn (vee_BadText T) ?_
      show ∀ l, M2 l = none → _
      intro l1 hl1
      have hS1 := hS.trans (Sub.new (o := .lst [.bl true, .bl false, .bl true]) hl1)
      have he1 := Sub.new (o := .lst [.bl true, .bl false, .bl true]) hl1 _ _ he
      have hw : updM M2 l1 (.lst [.bl true, .bl false, .bl true]) l1 = some (.lst [.bl true, .bl false, .bl true]) := updM_same
      generalize updM M2 l1 (.lst [.bl true, .bl false, .bl true]) = M3 at *
      refine ⟨_, _, he1, xn, kit_BadText_NoPlace T, _, _, he1, xn, kit_BadText_BadPaper T, _, _, he1, xn, kit_BadText_BadName T, ?_⟩
      show ∀ l, M3 l = none → _
      intro l2 hl2
      refine in_eeccc _ _ (Sub.new hl2 _ _ hw) updM_same (by decide) ?_
      intro l3 hl3
      have hS3 := (hS1.trans (Sub.new (o := .lst [.bl false]) hl2)).trans (Sub.new (o := .lst ([D.bl true, D.bl false, D.bl true] ++ [D.bl false])) hl3)
      have he3 := Sub.new (o := .lst ([D.bl true, D.bl false, D.bl true] ++ [D.bl false])) hl3 _ _ (Sub.new (o := .lst [.bl false]) hl2 _ _ he1)
      have hw3 : updM (updM M3 l2 (.lst [.bl false])) l3 (.lst ([D.bl true, D.bl false, D.bl true] ++ [D.bl false])) l3 = some (.lst ([D.bl true, D.bl false, D.bl true] ++ [D.bl false])) := updM_same
      show _
      generalize updM (updM M3 l2 (.lst [.bl false])) l3 (.lst ([D.bl true, D.bl false, D.bl true] ++ [D.bl false])) = M4 at *
      refine ⟨_, _, he3, xn, kit_BadText_Twice T, _, _, he3, xn, kit_BadText_NoForm T, ?_⟩
      show ∀ l, M4 l = none → _
      intro l4 hl4
      refine in_eeccc _ _ (Sub.new hl4 _ _ hw3) updM_same (by decide) ?_
      intro l5 hl5
      have hS5 := hS3.trans (Sub.new (o := .lst [.bl false]) hl4)
      refine el_0_2 (upd_none hl5) ?_; intro h5a h5b
      refine in_ec (updM M l5 (.lst (refD (.no true)))) (sub_both hS5 (sub_none hS3 h5b)) (q l5 (sub_none hS3 h5b))
    | false =>
      intro M1 hM1
      refine in_eceecc _ (Sub.refl _) _ _ rfl (isa_TooLong_FormError T) ?_
      rw [if_pos rfl]
      intro pe hpe
      have hS := (hs1.trans hM1).trans (Sub.new (o := .exc (.ref (ecl mg false))) hpe)
      have he : updM M1 pe (.exc (.ref (ecl mg false))) pe = some (.exc (.ref (ecl mg false))) := updM_same
      generalize updM M1 pe (.exc (.ref (ecl mg false))) = M2 at *
      have xn := xcl_TooLong T
      refine in_eeccceeccceeccc _ _ he xn (kit_TooLong_BadText T) _ _ he xn (kit_TooLong_TooLong T) _ _ he xn (vee_TooLong T) ?_
      show ∀ l, M2 l = none → _
      intro l1 hl1
      have hS1 := hS.trans (Sub.new (o := .lst [.bl false, .bl true, .bl true]) hl1)
      have he1 := Sub.new (o := .lst [.bl false, .bl true, .bl true]) hl1 _ _ he
      have hw : updM M2 l1 (.lst [.bl false, .bl true, .bl true]) l1 = some (.lst [.bl false, .bl true, .bl true]) := updM_same
      generalize updM M2 l1 (.lst [.bl false, .bl true, .bl true]) = M3 at *
      refine ⟨_, _, he1, xn, kit_TooLong_NoPlace T, _, _, he1, xn, kit_TooLong_BadPaper T, _, _, he1, xn, kit_TooLong_BadName T, ?_⟩
      show ∀ l, M3 l = none → _
      intro l2 hl2
      refine in_eeccc _ _ (Sub.new hl2 _ _ hw) updM_same (by decide) ?_
      intro l3 hl3
      have hS3 := (hS1.trans (Sub.new (o := .lst [.bl false]) hl2)).trans (Sub.new (o := .lst ([D.bl false, D.bl true, D.bl true] ++ [D.bl false])) hl3)
      have he3 := Sub.new (o := .lst ([D.bl false, D.bl true, D.bl true] ++ [D.bl false])) hl3 _ _ (Sub.new (o := .lst [.bl false]) hl2 _ _ he1)
      have hw3 : updM (updM M3 l2 (.lst [.bl false])) l3 (.lst ([D.bl false, D.bl true, D.bl true] ++ [D.bl false])) l3 = some (.lst ([D.bl false, D.bl true, D.bl true] ++ [D.bl false])) := updM_same
      show _
      generalize updM (updM M3 l2 (.lst [.bl false])) l3 (.lst ([D.bl false, D.bl true, D.bl true] ++ [D.bl false])) = M4 at *
      refine ⟨_, _, he3, xn, kit_TooLong_Twice T, _, _, he3, xn, kit_TooLong_NoForm T, ?_⟩
      show ∀ l, M4 l = none → _
      intro l4 hl4
      refine in_eeccc _ _ (Sub.new hl4 _ _ hw3) updM_same (by decide) ?_
      intro l5 hl5
      have hS5 := hS3.trans (Sub.new (o := .lst [.bl false]) hl4)
      refine el_0_2 (upd_none hl5) ?_; intro h5a h5b
      refine in_ec (updM M l5 (.lst (refD (.no false)))) (sub_both hS5 (sub_none hS3 h5b)) (q l5 (sub_none hS3 h5b))
noncomputable def spDraw : SpD := fun ds M Q => ∃ c k m : Int, ds = [.int c, .int k, .int m] ∧ (0 ≤ k ∧ k ≤ 1000) ∧ 0 < m ∧ ∀ r : Int, 0 ≤ r → r < m → Q (.int r) M
theorem ok_draw (T : Txt K mg) : FnD P w K mg base 1 "_law_draw" ["cell", "k", "many"] spDraw := by
  refine def_ok T.f__law_draw sc__law_draw (fun ds M Q h => ?_) fun f cdv A outer s H E hr => ⟨_, (ss_cons (s_set (i := 3) sc__law_draw.nd (d_op od_mod (d_op od_mulS (d_op od_add (d_var 0) d_int) (d_op od_add d_int (d_op od_mulS (d_op od_mulS d_int (d_var 1)) (d_var 1)))) d_int))
 (ss_one (s_ret (d_op od_mod (d_op od_fdiv (d_op od_mod (d_op od_mulS (d_var 3) (d_var 3)) d_int) d_int) (d_var 2))))), fun ds M Q h => ?_⟩
  · obtain ⟨c, k, m, rfl, _⟩ := h; rfl
  · refine el_3_4 h ?_; clear h; intro c k m zq282 hk hm q
    obtain rfl := zq282
    have hk2 : 0 ≤ k * k := Int.mul_nonneg hk.1 hk.1
    have hk3 : k * k ≤ 1000 * 1000 := Int.mul_le_mul hk.2 hk.2 hk.1 (by decide)
    have hk4 : 7919 * k * k = 7919 * (k * k) := Int.mul_assoc _ _ _
    have n0 : 0 ≤ (c + 1) * (48271 + 7919 * k * k) % 2147483647 := Int.emod_nonneg _ (by decide)
    have n1 : (c + 1) * (48271 + 7919 * k * k) % 2147483647 < 2147483647 := Int.emod_lt_of_pos _ (by decide)
    refine ⟨.inl ⟨by decide, by decide⟩, .inr ⟨by (first | lia | omega), by (first | lia | omega)⟩, .inr ⟨by (first | lia | omega), by (first | lia | omega)⟩, by show (0 : Int) < 2147483647; decide, .inl ⟨Int.lt_of_lt_of_le (by decide) n0, Int.lt_trans n1 (by decide)⟩, by show (0 : Int) < 2147483629; decide, ⟨by decide, by decide⟩, hm, ?_⟩
    exact rt_done (q _ (Int.emod_nonneg _ (by (first | lia | omega))) (Int.emod_lt_of_pos _ hm))
noncomputable def pv (cs : List Nat) : Bool := match cs with
  | [] => true
  | c :: r => isL c && r.all isN
theorem pv_snoc {cs : List Nat} {c : Nat} (h : pv cs = true) (hc : isN c = true) (h0 : cs = [] → isL c = true) : pv (cs ++ [c]) = true := by
  cases cs with
  | nil => show (isL c && ([] : List Nat).all isN) = true; rw [h0 rfl]; rfl
  | cons a r =>
    have h' : (isL a && r.all isN) = true := h
    show (isL a && (r ++ [c]).all isN) = true
    rw [Bool.and_eq_true] at h' ⊢
    refine ⟨h'.1, ?_⟩
    rw [List.all_append, h'.2]
    simp [hc]
theorem pv_name {cs : List Nat} (h : pv cs = true) (h1 : 1 ≤ cs.length) (h2 : cs.length ≤ 12) : nameL cs = true := by
  cases cs with
  | nil => simp at h1
  | cons c r =>
    have h' : (isL c && r.all isN) = true := h
    rw [Bool.and_eq_true] at h'
    show (decide (r.length < 12) && isL c && r.all fun k => isL k || isF k) = true
    rw [List.length_cons] at h2
    rw [decide_eq_true (show r.length < 12 by (first | lia | omega)), h'.1]
    exact h'.2
theorem some_26 : ((Str.ofString "abcdefghijklmnopqrstuvwxyz0123456789").cps.toList.take 26).all isL = true := by decide +kernel
theorem some_36 : (Str.ofString "abcdefghijklmnopqrstuvwxyz0123456789").cps.toList.all isN = true := by decide +kernel
noncomputable def NamesL (n : Nat) (xs : List D) : Prop := xs.length = 4 ∧ ∀ d ∈ xs, ∃ z : Str, d = .str z ∧ z.length = n ∧ pv z.cps.toList = true
noncomputable def NamesK (n k : Nat) (xs : List D) : Prop := xs.length = 4 ∧ ∀ (i : Nat) (d : D), xs[i]? = some d → ∃ z : Str, d = .str z ∧ z.length = n + (if i < k then 1 else 0) ∧ pv z.cps.toList = true
theorem NamesL.k0 {n : Nat} {xs : List D} (h : NamesL n xs) : NamesK n 0 xs := ⟨h.1, fun i d e => let ⟨z, e1, e2, e3⟩ := h.2 d (List.mem_of_getElem? e); ⟨z, e1, by rw [if_neg (Nat.not_lt_zero i)]; (first | lia | omega), e3⟩⟩
theorem NamesK.k4 {n : Nat} {xs : List D} (h : NamesK n 4 xs) : NamesL (n + 1) xs := ⟨h.1, fun d hd => by
  obtain ⟨i, hi, e⟩ := List.getElem_of_mem hd
  refine el_1_3 (h.2 i d (by rw [List.getElem?_eq_getElem hi, e])) ?_; intro z e1 e2 e3
  rw [if_pos (by have := h.1; (first | lia | omega))] at e2
  exact ⟨z, e1, e2, e3⟩⟩
noncomputable def NamesV (xs : List D) : Prop := xs.length = 4 ∧ ∀ d ∈ xs, ∃ z : Str, d = .str z ∧ nameL z.cps.toList = true
theorem app_cps (z : Str) (c : Nat) : (z ++ (⟨#[c]⟩ : Str)).cps.toList = z.cps.toList ++ [c] := by
  show (z.cps ++ #[c]).toList = _
  simp
noncomputable def spNames : SpD := fun ds M Q => ∃ c : Int, ds = [.int c] ∧ ∀ l xs, M l = none → NamesV xs → Q (.ref l) (updM M l (.lst xs))
theorem ok_names (T : Txt K mg) (F__law_draw : FnD P w K mg base 1 "_law_draw" ["cell", "k", "many"] spDraw) : FnD P w K mg base 2 "_law_names" ["cell"] spNames := by
  have m_int := T.m_int
  have m_range := T.m_range
  refine def_ok T.f__law_names sc__law_names (fun ds M Q h => ?_) fun f cdv A outer s H E hr => ⟨_, (ss_cons (s_set (i := 1) sc__law_names.nd d_str)
 (ss_cons (s_set (i := 2) sc__law_names.nd (d_op od_add d_int (d_call F__law_draw (hr.mono (by (first | lia | omega))) (a_cons (d_var 0) (a_cons d_int (a_cons d_int a_nil))))))
 (ss_cons (s_set (i := 3) sc__law_names.nd (d_call F__law_draw (hr.mono (by (first | lia | omega))) (a_cons (d_var 0) (a_cons d_int (a_cons (d_var 2) a_nil)))))
 (ss_cons (s_set (i := 4) sc__law_names.nd (d_lst (a_cons d_str (a_cons d_str (a_cons d_str (a_cons d_str a_nil))))))
 (ss_cons (s_for1 PassesOwn.never rfl m_range (a_cons (d_var 2) a_nil) (g_name (i := 5) sc__law_names.nd) (ss_cons (s_set (i := 6) sc__law_names.nd (d_op od_add d_int (d_op od_mulS d_int (d_callTy cd_int rfl m_int bt_int (a_cons (d_cmp od_gt (d_var 5) d_int (nomark _)) a_nil)))))
 (ss_cons (s_set (i := 7) sc__law_names.nd (d_call F__law_draw (hr.mono (by (first | lia | omega))) (a_cons (d_var 0) (a_cons (d_op od_add d_int (d_var 5)) (a_cons (d_var 6) a_nil)))))
 (ss_cons (s_set (i := 8) sc__law_names.nd (d_callTy cd_int rfl m_int bt_int (a_cons (d_cmp (od_eq hr) (d_var 5) (d_var 3) (nomark _)) a_nil)))
 (ss_one (s_for1 PassesOwn.never rfl m_range (a_cons d_int a_nil) (g_name (i := 9) sc__law_names.nd) (ss_cons (s_set (i := 10) sc__law_names.nd (d_ix (d_var 1) (d_op od_mod (d_op od_add (d_var 7) (d_op od_mulS (d_var 9) (d_var 8))) (d_var 6))))
 (ss_one (s_asg (d_op od_add (d_ix (d_var 4) (d_var 9)) (d_var 10)) (g_sub (d_var 4) (d_var 9)))))))))))
 (ss_one (s_ret (d_var 4)))))))), fun ds M Q h => ?_⟩
  · obtain ⟨c, rfl, _⟩ := h; rfl
  · refine el_1_2 h ?_; clear h; intro c zq283 q
    obtain rfl := zq283
    have hs36 := some_len
    have hs26 := some_26
    have hsN := some_36
    have hs37 : (Str.ofString "abcdefghijklmnopqrstuvwxyz0123456789").length ≤ sizeLine := by decide +kernel
    generalize Str.ofString "abcdefghijklmnopqrstuvwxyz0123456789" = SM at *
    refine in_eeeccc c 57 12 rfl (⟨by decide, by decide⟩) (by decide) (fun r0 h0 h1 => ?_)
    refine ⟨c, 58, _, rfl, ⟨by decide, by decide⟩, by (first | lia | omega), fun r1 h2 h3 => ?_⟩
    show ∀ l, M l = none → _
    intro l hl
    refine ⟨⟨by (first | lia | omega), by (first | lia | omega)⟩, ?_⟩
    refine ⟨fun j τ M' => ∃ (xs : List D) (v5 v6 v7 v8 v9 v10 : Option D), NamesL j xs ∧ τ = [some (.int c), some (.str SM), some (.int (1 + r0)), some (.int r1), some (.ref l), v5, v6, v7, v8, v9, v10] ∧ M' = updM M l (.lst xs), ⟨_, none, none, none, none, none, none, ⟨rfl, ?_⟩, rfl, rfl⟩, ?_, ?_⟩
    · intro d hd
      simp only [List.mem_cons, List.not_mem_nil, or_false] at hd
      rcases hd with rfl | rfl | rfl | rfl <;> exact ⟨_, rfl, rfl, rfl⟩
    · intro j τ M' hj zr284
      refine el_7_3 zr284 ?_; clear zr284; intro xs v5 v6 v7 v8 v9 v10 hx zq285 zq286
      obtain rfl := zq285
      obtain rfl := zq286
      obtain ⟨many, hmany⟩ : ∃ m : Int, (26 + 10 * (if decide ((0 : Int) < (j : Int)) = true then 1 else 0) : Int) = m := ⟨_, rfl⟩
      have hm : 26 ≤ many ∧ many ≤ 36 := by rw [← hmany]; split <;> decide
      obtain ⟨st, hst⟩ : ∃ m : Int, (if decide ((j : Int) = r1) = true then 1 else 0 : Int) = m := ⟨_, rfl⟩
      have hs01 : 0 ≤ st ∧ st ≤ 1 := by rw [← hst]; split <;> decide
      refine ⟨.inl ⟨by decide, by decide⟩, c, 60 + (j : Int), (26 + 10 * (if decide ((0 : Int) < (j : Int)) = true then 1 else 0) : Int), rfl, ⟨by (first | lia | omega), by (first | lia | omega)⟩, by (first | lia | omega), fun r2 h4 h5 => ?_⟩
      rw [hmany] at h5
      refine ⟨⟨by (first | lia | omega), by (first | lia | omega)⟩, ?_⟩
      refine ⟨fun k τ M' => ∃ (ys : List D) (v9 v10 : Option D), NamesK j k ys ∧ τ = [some (.int c), some (.str SM), some (.int (1 + r0)), some (.int r1), some (.ref l), some (.int j), some (.int many), some (.int r2), some (.int st), v9, v10] ∧ M' = updM M l (.lst ys), ⟨xs, v9, v10, hx.k0, by rw [← hmany, ← hst]; rfl, rfl⟩, ?_, ?_⟩
      · intro k τ M' hk zr287
        refine el_3_3 zr287 ?_; clear zr287; intro ys w9 w10 hy zq288 zq289
        obtain rfl := zq288
        obtain rfl := zq289
        have hk4 : k < 4 := hk
        have hks : (0 : Int) ≤ (k : Int) * st ∧ (k : Int) * st ≤ 4 := by
          have : st = 0 ∨ st = 1 := by (first | lia | omega)
          rcases this with rfl | rfl
          · simp
          · simp; (first | lia | omega)
        refine ⟨.inr ⟨by (first | lia | omega), by (first | lia | omega)⟩, by (first | lia | omega), hs37, ?_⟩
        obtain ⟨cc, hcc⟩ := at_some (xs := SM.cps.toList) (i := (r2 + (k : Int) * st) % many) (Int.emod_nonneg _ (by (first | lia | omega))) (by have := Int.emod_lt_of_pos (r2 + (k : Int) * st) (b := many) (by (first | lia | omega)); rw [hs36]; (first | lia | omega))
        have hkl : k < ys.length := by rw [hy.1]; exact hk4
        refine el_1_3 (hy.2 k ys[k] (List.getElem?_eq_getElem hkl)) ?_; intro z ez lz pz
        rw [if_neg (Nat.lt_irrefl k)] at lz
        refine el_1_3 (atI_get hcc) ?_; intro ji hji1 hji hji2
        have hccN : isN cc = true := by rw [List.all_eq_true] at hsN; exact hsN cc (List.mem_of_getElem? hji)
        refine in_eceecc cc hcc _ _ updM_same (atI_nat (List.getElem?_eq_getElem hkl)) ?_
        rw [ez]
        have hj13 : j < 13 := by (first | lia | omega)
        refine ⟨by show z.length + 1 ≤ sizeLine; exact line1000 (by (first | lia | omega)), ys, k, updM_same, ?_, ?_⟩
        · show ixN ys.length (k : Int) = some k
          unfold ixN
          rw [if_pos (by (first | lia | omega)), if_pos (by (first | lia | omega))]
          simp
        · refine in_eeecc (ys.set k (.str (z ++ ⟨#[cc]⟩))) _ _ (⟨by rw [List.length_set]; exact hy.1, fun i d e => ?_⟩) rfl updM_upd
          rw [List.getElem?_set] at e
          by_cases hik : k = i
          · subst hik
            rw [if_pos rfl, if_pos hkl] at e
            cases e
            refine ⟨_, rfl, by rw [str_app, if_pos (Nat.lt_succ_self k)]; show z.length + 1 = _; (first | lia | omega), ?_⟩
            rw [app_cps]
            refine pv_snoc pz hccN fun z0 => ?_
            have hj0 : j = 0 := by
              have : z.length = z.cps.toList.length := by show z.cps.size = _; simp
              rw [z0] at this
              simp at this
              (first | lia | omega)
            have hm26 : many = 26 := by rw [← hmany, decide_eq_false (show ¬ (0 : Int) < (j : Int) by (first | lia | omega)), if_neg Bool.false_ne_true]; rfl
            have hb1 := Int.emod_nonneg (r2 + (k : Int) * st) (b := many) (by (first | lia | omega))
            have hb2 := Int.emod_lt_of_pos (r2 + (k : Int) * st) (b := many) (by (first | lia | omega))
            have hlt : ((r2 + (k : Int) * st) % many).toNat < 26 := by (first | lia | omega)
            have hcc2 : SM.cps.toList[((r2 + (k : Int) * st) % many).toNat]? = some cc := by
              have h1 := hcc
              unfold atI ixN at h1
              rw [if_pos hb1, if_pos (by rw [hs36]; (first | lia | omega))] at h1
              exact h1
            rw [List.all_eq_true] at hs26
            exact hs26 cc (List.mem_of_getElem? (by rw [List.getElem?_take_of_lt hlt]; exact hcc2))
          · rw [if_neg hik] at e
            refine el_1_3 (hy.2 i d e) ?_; intro z' e1 e2 e3
            refine in_ecc z' e1 ?_ e3
            have : (if i < k then 1 else 0) = (if i < k + 1 then 1 else 0) := by split <;> split <;> (first | lia | omega)
            (first | lia | omega)
      · intro τ M' zr290
        refine el_3_3 zr290 ?_; clear zr290; intro ys w9 w10 hy zq291 zq292
        obtain rfl := zq291
        obtain rfl := zq292
        exact in_eeeeeeecc ys _ _ _ _ _ _ hy.k4 rfl rfl
    · intro τ M' zr293
      refine el_7_3 zr293 ?_; clear zr293; intro xs v5 v6 v7 v8 v9 v10 hx zq294 zq295
      obtain rfl := zq294
      obtain rfl := zq295
      refine rt_done (q l xs hl ⟨hx.1, fun d hd => ?_⟩)
      refine el_1_3 (hx.2 d hd) ?_; intro z e1 e2 e3
      have e4 : z.length = z.cps.toList.length := by show z.cps.size = _; simp
      exact ⟨z, e1, pv_name e3 (by (first | lia | omega)) (by (first | lia | omega))⟩
noncomputable def spLeaf : SpD := fun ds M Q => ∃ (c first : Int) (l : Addr) (sh : Int) (xs : List D), ds = [.int c, .int first, .ref l, .int sh] ∧ M l = some (.lst xs) ∧ NamesV xs ∧ ∀ t : Tree, t.knots = 1 → t.wf → Q t.d M
theorem ok_leaf (T : Txt K mg) (F__law_draw : FnD P w K mg base 1 "_law_draw" ["cell", "k", "many"] spDraw) : FnD P w K mg base 2 "_law_leaf" ["cell", "first", "names", "shares"] spLeaf := by
  refine def_ok T.f__law_leaf sc__law_leaf (fun ds M Q h => ?_) fun f cdv A outer s H E hr => ⟨_, (ss_cons (s_if (dt_cmp od_lt (d_call F__law_draw (hr.mono (by (first | lia | omega))) (a_cons (d_var 0) (a_cons d_int (a_cons d_int a_nil)))) (d_var 3) (nomark _)) (ss_cons (s_set (i := 4) sc__law_leaf.nd (d_lst (a_cons d_int (a_cons d_int (a_cons d_int (a_cons (d_op od_pow d_int d_int) (a_cons (d_op od_add d_int (d_op od_mod (d_var 1) (d_op od_pow d_int d_int))) a_nil)))))))
 (ss_one (s_ret (d_tup (a_cons d_str (a_cons (d_ix (d_var 4) (d_call F__law_draw (hr.mono (by (first | lia | omega))) (a_cons (d_var 0) (a_cons d_int (a_cons d_int a_nil))))) a_nil)))))) ss_nil)
 (ss_one (s_ret (d_tup (a_cons d_str (a_cons (d_ix (d_var 2) (d_call F__law_draw (hr.mono (by (first | lia | omega))) (a_cons (d_var 0) (a_cons d_int (a_cons d_int a_nil))))) (a_cons (d_tup a_nil) a_nil))))))), fun ds M Q h => ?_⟩
  · obtain ⟨c, first, l, sh, xs, rfl, _⟩ := h; rfl
  · refine el_5_4 h ?_; clear h; intro c first l sh xs zq296 hl hx q
    obtain rfl := zq296
    refine in_eeeccc c 3 4 rfl (⟨by decide, by decide⟩) (by decide) (fun r0 h0 h1 => ?_)
    show if decide (r0 < sh) = true then _ else _
    by_cases hr0 : r0 < sh
    · first | refine ifT hr0 ?_ | rw [decide_eq_true hr0, if_pos rfl]
      have hp : CPow 10 9 := ⟨by decide, by decide, by decide⟩
      refine ⟨hp, hp, by show (0 : Int) < (10 : Int) ^ (9 : Int).toNat; decide, ?_⟩
      show ∀ p, M p = none → _
      intro p hpn
      refine in_eeeccc c 4 5 rfl (⟨by decide, by decide⟩) (by decide) (fun r1 h2 h3 => ?_)
      obtain ⟨k, hk, hkb⟩ : ∃ k : Int, atI [D.int 1, D.int 2, D.int 7, D.int ((10 : Int) ^ (9 : Int).toNat), D.int (1 + first % (10 : Int) ^ (9 : Int).toNat)] r1 = some (.int k) ∧ 1 ≤ k ∧ k ≤ 1000000000 := by
        have hbig : (10 : Int) ^ (9 : Int).toNat = 1000000000 := by decide
        generalize ((10 : Int) ^ (9 : Int).toNat) = big at *
        have hla : 1 ≤ 1 + first % big ∧ 1 + first % big ≤ 1000000000 := by
          have a1 := Int.emod_nonneg first (b := big) (by (first | lia | omega))
          have a2 := Int.emod_lt_of_pos first (b := big) (by (first | lia | omega))
          (first | lia | omega)
        have hr : r1 = 0 ∨ r1 = 1 ∨ r1 = 2 ∨ r1 = 3 ∨ r1 = 4 := by (first | lia | omega)
        rcases hr with rfl | rfl | rfl | rfl | rfl
        · exact in_ecc 1 rfl (by decide) (by decide)
        · exact in_ecc 2 rfl (by decide) (by decide)
        · exact in_ecc 7 rfl (by decide) (by decide)
        · exact ⟨big, rfl, by (first | lia | omega), by (first | lia | omega)⟩
        · exact in_ecc _ rfl hla.1 hla.2
      refine in_eecc _ _ updM_same hk ?_
      exact in_ec M (Sub.new hpn) (q (.blank k) rfl (by rw [Tree.wf]; exact ⟨hkb.1, by show k ≤ 1000000000; exact hkb.2⟩))
    · first | refine ifF hr0 ?_ | rw [decide_eq_false hr0, if_neg Bool.false_ne_true]
      refine in_eeeccc c 2 4 rfl (⟨by decide, by decide⟩) (by decide) (fun r1 h2 h3 => ?_)
      obtain ⟨d, hd⟩ := at_some (xs := xs) h2 (by rw [hx.1]; (first | lia | omega))
      refine el_1_3 (atI_get hd) ?_; intro j _ hj _
      refine el_1_2 (hx.2 d (List.mem_of_getElem? hj)) ?_; intro z zq297 hz
      obtain rfl := zq297
      refine in_eecc xs _ hl hd ?_
      exact in_ec M (Sub.refl M) (q (.block z []) rfl (by rw [Tree.wf]; exact ⟨hz, by decide, trivial⟩))
structure Frm where
  n : Str
  l : Addr
  ps : List Tree
noncomputable def Frm.d (f : Frm) : D := .tup [.str f.n, .ref f.l]
theorem wfs_app : ∀ (a b : List Tree), Tree.wfs (a ++ b) ↔ Tree.wfs a ∧ Tree.wfs b
  | [], b => by simp [Tree.wfs]
  | t :: a, b => by rw [List.cons_append, Tree.wfs, Tree.wfs, wfs_app a b, and_assoc]
structure Frs (M0 M : DH) (lf ln : Addr) (xs : List D) (F : List Frm) : Prop where
  fr : M lf = some (.lst (F.map Frm.d))
  nm : M ln = some (.lst xs)
  ne : lf ≠ ln
  nd : (F.map Frm.l).Nodup
  at' : ∀ f ∈ F, M f.l = some (.lst (f.ps.map Tree.d)) ∧ f.l ≠ lf ∧ f.l ≠ ln ∧ M0 f.l = none ∧ f.ps.length ≤ 9
  lf0 : M0 lf = none
  ln0 : M0 ln = none
  sub : Sub M0 M
  wf : ∀ f ∈ F, nameL f.n.cps.toList = true ∧ Tree.wfs f.ps
noncomputable def total : List Frm → Nat
  | [] => 0
  | f :: r => Tree.knotss f.ps + 1 + total r
theorem total_app : ∀ (F G : List Frm), total (F ++ G) = total F + total G
  | [], G => by simp [total]
  | f :: r, G => by rw [List.cons_append, total, total, total_app r G]; (first | lia | omega)
theorem knotss_app : ∀ (a b : List Tree), Tree.knotss (a ++ b) = Tree.knotss a + Tree.knotss b
  | [], b => by simp [Tree.knotss]
  | t :: ts, b => by rw [List.cons_append, Tree.knotss, Tree.knotss, knotss_app ts b]; (first | lia | omega)
noncomputable def rootN : List Frm → Nat
  | [] => 0
  | f :: _ => f.ps.length
theorem root_last {f f' : Frm} {c : Nat} (h : f'.ps.length ≤ f.ps.length + c) : ∀ F : List Frm, rootN (F ++ [f']) ≤ rootN (F ++ [f]) + c
  | [] => h
  | g :: r => by show g.ps.length ≤ g.ps.length + c; (first | lia | omega)
theorem root_more (F : List Frm) (f g : Frm) : rootN ((F ++ [f]) ++ [g]) = rootN (F ++ [f]) := by cases F <;> rfl
noncomputable def high : List Frm → Nat
  | [] => 0
  | f :: r => max (Tree.depths f.ps) (high r) + 1
theorem high_le {G G' : List Frm} {c : Nat} (h : high G ≤ high G' + c) : ∀ F : List Frm, high (F ++ G) ≤ high (F ++ G') + c
  | [] => h
  | f :: r => by
    have := high_le h r
    simp only [List.cons_append, high]
    (first | lia | omega)
theorem high_open (f g : Frm) (hg : g.ps = []) : ∀ F : List Frm, high ((F ++ [f]) ++ [g]) ≤ max (high (F ++ [f])) (F.length + 2)
  | [] => by
    show max (Tree.depths f.ps) (max (Tree.depths g.ps) 0 + 1) + 1 ≤ max (max (Tree.depths f.ps) 0 + 1) 2
    rw [hg]
    show max (Tree.depths f.ps) (max 0 0 + 1) + 1 ≤ _
    grind
  | a :: r => by
    have := high_open f g hg r
    simp only [List.cons_append, high, List.length_cons]
    grind
theorem high_leaf {f f' : Frm} (h : Tree.depths f'.ps ≤ max (Tree.depths f.ps) 1) : ∀ F : List Frm, high (F ++ [f']) ≤ max (high (F ++ [f])) (F.length + 2)
  | [] => by
    show max (Tree.depths f'.ps) 0 + 1 ≤ max (max (Tree.depths f.ps) 0 + 1) 2
    grind
  | a :: r => by
    have := high_leaf h r
    simp only [List.cons_append, high, List.length_cons]
    grind
theorem depths_app : ∀ (a b : List Tree), Tree.depths (a ++ b) = max (Tree.depths a) (Tree.depths b)
  | [], b => by simp [Tree.depths]
  | t :: ts, b => by rw [List.cons_append, Tree.depths, Tree.depths, depths_app ts b, Nat.max_assoc]
section
variable {M0 M : DH} {lf ln : Addr} {xs : List D} {F : List Frm} {f : Frm}
theorem Frs.push (h : Frs M0 M lf ln xs (F ++ [f])) (t : Tree) (h9 : f.ps.length < 9) (hwt : t.wf) : Frs M0 (updM M f.l (.lst (f.ps.map Tree.d ++ [t.d]))) lf ln xs (F ++ [{ f with ps := f.ps ++ [t] }]) := by
  have hf := h.at' f (by simp)
  have hn : ∀ g ∈ F, g.l ≠ f.l := fun g hg e => by
    have nd := h.nd
    rw [List.map_append, List.map_cons, List.map_nil] at nd
    exact (List.nodup_append.mp nd).2.2 g.l (List.mem_map_of_mem hg) f.l (by simp) e
  refine ⟨?_, ?_, h.ne, ?_, ?_, h.lf0, h.ln0, ?_, ?_⟩
  · rw [updM_ne (Ne.symm hf.2.1), h.fr]; simp [Frm.d]
  · rw [updM_ne (Ne.symm hf.2.2.1)]; exact h.nm
  · have nd := h.nd
    rw [List.map_append] at nd ⊢
    exact nd
  · intro g hg
    rcases List.mem_append.mp hg with hg | hg
    · have := h.at' g (List.mem_append_left _ hg)
      exact ⟨by rw [updM_ne (hn g hg)]; exact this.1, this.2⟩
    · cases List.mem_singleton.mp hg
      exact ⟨by rw [updM_same]; simp, hf.2.1, hf.2.2.1, hf.2.2.2.1, by simp; (first | lia | omega)⟩
  · intro a o e
    have ha : a ≠ f.l := by intro z; subst z; rw [hf.2.2.2.1] at e; cases e
    rw [updM_ne ha]
    exact h.sub a o e
  · intro g hg
    rcases List.mem_append.mp hg with hg | hg
    · exact h.wf g (List.mem_append_left _ hg)
    · cases List.mem_singleton.mp hg
      have := h.wf f (by simp)
      exact ⟨this.1, (wfs_app _ _).mpr ⟨this.2, hwt, trivial⟩⟩
theorem Frs.opened (h : Frs M0 M lf ln xs F) {n : Str} {l : Addr} (hl : M l = none) (h0 : M0 l = none) (hn : nameL n.cps.toList = true) : Frs M0 (updM (updM M l (.lst [])) lf (.lst (F.map Frm.d ++ [.tup [.str n, .ref l]]))) lf ln xs (F ++ [⟨n, l, []⟩]) := by
  have hlf : l ≠ lf := by intro z; subst z; rw [h.fr] at hl; cases hl
  have hln : l ≠ ln := by intro z; subst z; rw [h.nm] at hl; cases hl
  have hg : ∀ g ∈ F, g.l ≠ l := fun g hg z => by have := (h.at' g hg).1; rw [z, hl] at this; cases this
  refine ⟨?_, ?_, h.ne, ?_, ?_, h.lf0, h.ln0, ?_, ?_⟩
  · rw [updM_same]; simp [Frm.d]
  · rw [updM_ne (Ne.symm h.ne), updM_ne (Ne.symm hln)]; exact h.nm
  · rw [List.map_append, List.map_cons, List.map_nil]
    refine List.nodup_append.mpr ⟨h.nd, by simp, ?_⟩
    intro a ha b hb e
    simp at hb
    subst hb
    subst e
    refine el_1_2 (List.mem_map.mp ha) ?_; intro g hgm hge
    exact hg g hgm hge
  · intro g hgm
    rcases List.mem_append.mp hgm with hgm | hgm
    · have := h.at' g hgm
      exact ⟨by rw [updM_ne this.2.1, updM_ne (hg g hgm)]; exact this.1, this.2⟩
    · cases List.mem_singleton.mp hgm
      exact ⟨by rw [updM_ne hlf, updM_same]; rfl, hlf, hln, h0, by simp⟩
  · intro a o e
    have h1 : a ≠ lf := by intro z; subst z; rw [h.lf0] at e; cases e
    have h2 : a ≠ l := by intro z; subst z; rw [h0] at e; cases e
    rw [updM_ne h1, updM_ne h2]
    exact h.sub a o e
  · intro g hg
    rcases List.mem_append.mp hg with hg | hg
    · exact h.wf g hg
    · cases List.mem_singleton.mp hg
      exact ⟨hn, trivial⟩
theorem Frs.popped (h : Frs M0 M lf ln xs (F ++ [f])) : Frs M0 (updM M lf (.lst (F.map Frm.d))) lf ln xs F ∧ updM M lf (.lst (F.map Frm.d)) f.l = some (.lst (f.ps.map Tree.d)) := by
  have hf := h.at' f (by simp)
  refine ⟨⟨updM_same, by rw [updM_ne (Ne.symm h.ne)]; exact h.nm, h.ne, ?_, fun g hg => ?_, h.lf0, h.ln0, fun a o e => ?_, fun g hg => h.wf g (List.mem_append_left _ hg)⟩, by rw [updM_ne hf.2.1]; exact hf.1⟩
  · have nd := h.nd
    rw [List.map_append] at nd
    exact (List.nodup_append.mp nd).1
  · have := h.at' g (List.mem_append_left _ hg)
    exact ⟨by rw [updM_ne this.2.1]; exact this.1, this.2⟩
  · have h1 : a ≠ lf := by intro z; subst z; rw [h.lf0] at e; cases e
    rw [updM_ne h1]
    exact h.sub a o e
end
theorem tree_open {B M' : DH} {lf ln lc : Addr} {xs : List D} {F : List Frm} {f : Frm} {first sh c r0 : Int} {v7 v8 v9 v10 : Option D} {E : EndsD} {N : Nat} (hx : NamesV xs) (hF : Frs B M' lf ln xs (F ++ [f])) (ht : total (F ++ [f]) ≤ N) (hlong : F.length < 1000)
    (hE : ∀ M'' g, Frs B M'' lf ln xs ((F ++ [f]) ++ [g]) → total ((F ++ [f]) ++ [g]) ≤ N + 1 → high ((F ++ [f]) ++ [g]) ≤ max (high (F ++ [f])) (F.length + 2) → rootN ((F ++ [f]) ++ [g]) ≤ rootN (F ++ [f]) + 3 → E.nx [some (.ref lc), some (.int first), some (.int sh), some (.ref ln), some (.ref lf), some (.int c), some (.int r0), v7, v8, v9, v10] M'') :
    sDrop (eBM "list" appendD (eVar 4) (eCons (eTup (eCons (eOp ixD (eVar 3) (eCall spDraw (eCons (eVar 5) (eCons (eC (D.int 2)) (eCons (eC (D.int 4)) eNil))))) (eCons (eLst eNil) eNil))) eNil)) E
      [some (.ref lc), some (.int first), some (.int sh), some (.ref ln), some (.ref lf), some (.int c), some (.int r0), v7, v8, v9, v10] M' := by
  refine in_ceeeccc (⟨rfl, _, hF.fr⟩) c 2 4 rfl (⟨by decide, by decide⟩) (by decide) (fun r1 h2 h3 => ?_)
  obtain ⟨d, hd⟩ := at_some (xs := xs) h2 (by rw [hx.1]; (first | lia | omega))
  refine el_1_3 (atI_get hd) ?_; intro j _ hj _
  refine el_1_2 (hx.2 d (List.mem_of_getElem? hj)) ?_; intro z zq298 hz
  obtain rfl := zq298
  refine in_eecc xs _ hF.nm hd ?_
  show ∀ l, M' l = none → _
  intro l hl
  have hlf : lf ≠ l := by intro z; subst z; rw [hF.fr] at hl; cases hl
  have hB : B l = none := by
    cases q : B l with
    | none => rfl
    | some o => rw [hF.sub l o q] at hl; cases hl
  refine ⟨(F ++ [f]).map Frm.d, by rw [updM_ne hlf]; exact hF.fr, by rw [List.length_map, List.length_append]; exact small1000 (by simp; (first | lia | omega)), ?_⟩
  refine hE _ ⟨z, l, []⟩ (hF.opened hl hB hz) ?_ ?_ (by rw [root_more]; (first | lia | omega))
  · rw [total_app]
    show _ + (0 + 1 + 0) ≤ _
    (first | lia | omega)
  · exact high_open f ⟨z, l, []⟩ rfl F
section
variable {M0 M : DH} {lf ln : Addr} {xs : List D} {F : List Frm}
theorem Frs.fresh (h : Frs M0 M lf ln xs F) {p : Addr} {o : MO} (hp : M p = none) : Frs M0 (updM M p o) lf ln xs F := by
  have s : Sub M (updM M p o) := Sub.new hp
  exact ⟨s _ _ h.fr, s _ _ h.nm, h.ne, h.nd, fun f hf => ⟨s _ _ (h.at' f hf).1, (h.at' f hf).2⟩, h.lf0, h.ln0, h.sub.trans s, h.wf⟩
theorem Frs.none0 (h : Frs M0 M lf ln xs F) {p : Addr} (hp : M p = none) : M0 p = none := by
  cases q : M0 p with
  | none => rfl
  | some o => rw [h.sub p o q] at hp; cases hp
theorem Frs.wrapped (h : Frs M0 M lf ln xs []) {n : Str} {l : Addr} {t : Tree} (hl : M l = none) (hn : nameL n.cps.toList = true) (hwt : t.wf) : Frs M0 (updM (updM M l (.lst [t.d])) lf (.lst [.tup [.str n, .ref l]])) lf ln xs ([] ++ [⟨n, l, [t]⟩]) := by
  have hlf : l ≠ lf := by intro z; subst z; rw [h.fr] at hl; cases hl
  have hln : l ≠ ln := by intro z; subst z; rw [h.nm] at hl; cases hl
  refine ⟨?_, ?_, h.ne, by simp, ?_, h.lf0, h.ln0, ?_, ?_⟩
  · rw [updM_same]; rfl
  · rw [updM_ne (Ne.symm h.ne), updM_ne (Ne.symm hln)]; exact h.nm
  · intro g hg
    cases List.mem_singleton.mp hg
    exact ⟨by show updM _ lf _ l = _; rw [updM_ne hlf, updM_same]; rfl, hlf, hln, h.none0 hl, by simp⟩
  · intro a o e
    have h1 : a ≠ lf := by intro z; subst z; rw [h.lf0] at e; cases e
    have h2 : a ≠ l := by intro z; subst z; rw [h.none0 hl] at e; cases e
    rw [updM_ne h1, updM_ne h2]
    exact h.sub a o e
  · intro g hg
    cases List.mem_singleton.mp hg
    exact ⟨hn, hwt, trivial⟩
end
theorem high_closed (g f : Frm) : high [{ g with ps := g.ps ++ [Tree.block f.n f.ps] }] ≤ high ([g] ++ [f]) + 0 := by
  show max (Tree.depths (g.ps ++ [Tree.block f.n f.ps])) 0 + 1 ≤ max (Tree.depths g.ps) (max (Tree.depths f.ps) 0 + 1) + 1 + 0
  rw [depths_app]
  show max (max (Tree.depths g.ps) (max (Tree.depths f.ps + 1) 0)) 0 + 1 ≤ _
  grind
theorem tree_pop {B M' : DH} {lf ln lc : Addr} {xs : List D} {F : List Frm} {f : Frm} {first sh c r0 : Int} {v7 v8 v9 v10 : Option D} {E : EndsD} {N : Nat} (hx : NamesV xs) (hF : Frs B M' lf ln xs (F ++ [f])) (h8 : ∀ g ∈ F, g.ps.length ≤ 8) (ht : total (F ++ [f]) ≤ N) (hN : N ≤ 300)
    (hE : ∀ M'' F' f' w7 w8 w9, Frs B M'' lf ln xs (F' ++ [f']) → (∀ g ∈ F', g.ps.length ≤ 8) → total (F' ++ [f']) ≤ N + 1 → (high (F' ++ [f']) ≤ high (F ++ [f]) ∧ F.length = F'.length + 1 ∧ rootN (F' ++ [f']) ≤ rootN (F ++ [f]) + 1) ∨ (F = [] ∧ F' = [] ∧ f'.ps.length = 1 ∧ high (F' ++ [f']) ≤ high (F ++ [f]) + 1) → E.nx [some (.ref lc), some (.int first), some (.int sh), some (.ref ln), some (.ref lf), some (.int c), some (.int r0), w7, w8, w9, v10] M'') :
    sSeq (sAsg (eBM0 "list" popD (eVar 4)) (hTup (hCons (hName 7) (hCons (hName 8) hNil)))) (sSeq (sAsg (eTup (eCons (eC (D.str (Str.ofString "block"))) (eCons (eVar 7) (eCons (eCB tupleD (eCons (eVar 8) eNil)) eNil)))) (hName 9))
      (sIf (eTest (eOp eqD (eVar 4) (eLst eNil)))
        (sDrop (eBM "list" appendD (eVar 4) (eCons (eTup (eCons (eOp ixD (eVar 3) (eCall spDraw (eCons (eVar 5) (eCons (eC (D.int 2)) (eCons (eC (D.int 4)) eNil))))) (eCons (eLst (eCons (eVar 9) eNil)) eNil))) eNil)))
        (sDrop (eBM "list" appendD (eOp ixD (eOp ixD (eVar 4) (eNeg (eC (D.int 1)))) (eC (D.int 1))) (eCons (eVar 9) eNil))))) E
      [some (.ref lc), some (.int first), some (.int sh), some (.ref ln), some (.ref lf), some (.int c), some (.int r0), v7, v8, v9, v10] M' := by
  have hwf : (Tree.block f.n f.ps).wf := by
    have h1 := hF.wf f (by simp)
    have h2 := (hF.at' f (by simp)).2.2.2.2
    rw [Tree.wf]; exact ⟨h1.1, h2, h1.2⟩
  refine el_0_2 (hF.popped) ?_; intro hP hPl
  refine in_ceec (⟨rfl, _, hF.fr⟩) (F.map Frm.d) f.d (by rw [hF.fr]; simp) ?_
  refine in_ec _ hPl ?_
  have ew : D.tup [.str "block", .str f.n, .tup (f.ps.map Tree.d)] = (Tree.block f.n f.ps).d := by rw [← ds_map]; rfl
  generalize updM M' lf (.lst (F.map Frm.d)) = M1 at *
  show ∀ p, M1 p = none → _
  intro p hp
  have hP2 := hP.fresh (o := .lst []) hp
  refine in_eeccc _ ([]) hP2.fr updM_same (.inr rfl) ?_
  generalize updM M1 p (.lst []) = M2 at *
  rcases List.eq_nil_or_concat F with rfl | ⟨F', g, rfl⟩
  · refine in_ceeeccc (⟨rfl, _, hP2.fr⟩) c 2 4 rfl (⟨by decide, by decide⟩) (by decide) (fun r1 h2 h3 => ?_)
    obtain ⟨d, hd⟩ := at_some (xs := xs) h2 (by rw [hx.1]; (first | lia | omega))
    refine el_1_3 (atI_get hd) ?_; intro j _ hj _
    refine el_1_2 (hx.2 d (List.mem_of_getElem? hj)) ?_; intro z zq299 hz
    obtain rfl := zq299
    refine in_eecc xs _ hP2.nm hd ?_
    show ∀ l, M2 l = none → _
    intro l hl
    have hlf : lf ≠ l := by intro z; subst z; rw [hP2.fr] at hl; cases hl
    refine in_ecc ([]) (by rw [updM_ne hlf]; exact hP2.fr) (by decide) ?_
    have hW := hP2.wrapped (n := z) (l := l) (t := .block f.n f.ps) hl hz hwf
    rw [← ew] at hW
    refine hE _ [] ⟨z, l, [.block f.n f.ps]⟩ _ _ _ hW (fun g hg => (nomatch hg)) ?_ ?_
    · have ht' : Tree.knotss f.ps + 1 + 0 ≤ N := ht
      show (Tree.knotss f.ps + 1 + 0) + 1 + 0 ≤ _
      (first | lia | omega)
    · refine .inr ⟨rfl, rfl, rfl, ?_⟩
      show max (max (Tree.depths f.ps + 1) 0) 0 + 1 ≤ max (Tree.depths f.ps) 0 + 1 + 1
      (first | lia | omega)
  · rw [List.concat_eq_append] at *
    have hg := hP2.at' g (by simp)
    have hlast : atI ((F' ++ [g]).map Frm.d) (-1) = some g.d := by rw [List.map_append]; exact atI_last _ _
    have hne : ((F' ++ [g]).map Frm.d).isEmpty = false := by simp
    show if ((F' ++ [g]).map Frm.d).isEmpty && ([] : List D).isEmpty then _ else _
    rw [hne]
    refine ⟨_, _, hP2.fr, hlast, ⟨rfl, _, hg.1⟩, _, hg.1, ?_, ?_⟩
    · rw [List.length_map]; exact small1000 (by (first | lia | omega))
    · have hW := hP2.push (.block f.n f.ps) (by have := h8 g (by simp); (first | lia | omega)) hwf
      rw [← ew] at hW
      refine hE _ F' { g with ps := g.ps ++ [.block f.n f.ps] } _ _ _ hW (fun k hk => h8 k (by simp [hk])) ?_ ?_
      · rw [total_app, total_app] at ht
        rw [total_app]
        have e1 : total [f] = Tree.knotss f.ps + 1 + 0 := rfl
        have e2 : total [g] = Tree.knotss g.ps + 1 + 0 := rfl
        show total F' + (Tree.knotss (g.ps ++ [.block f.n f.ps]) + 1 + 0) ≤ _
        rw [knotss_app]
        show total F' + (Tree.knotss g.ps + ((Tree.knotss f.ps + 1) + 0) + 1 + 0) ≤ _
        (first | lia | omega)
      · have h1 := high_closed g f
        have h2 := high_le h1 F'
        rw [← List.append_assoc] at h2
        refine .inl ⟨h2, by simp, ?_⟩
        rw [root_more]
        exact root_last (by show (g.ps ++ [Tree.block f.n f.ps]).length ≤ _; rw [List.length_append]; exact Nat.le_refl _) F'
theorem tree_leaves {B M' : DH} {lf ln lc : Addr} {xs : List D} {F : List Frm} {f : Frm} {first sh c r0 : Int} {v7 v8 v9 v10 : Option D} {E : EndsD} {N : Nat} (hx : NamesV xs) (hF : Frs B M' lf ln xs (F ++ [f])) (ht : total (F ++ [f]) ≤ N)
    (hE : ∀ M'' f' w10, Frs B M'' lf ln xs (F ++ [f']) → total (F ++ [f']) ≤ N + 3 → high (F ++ [f']) ≤ max (high (F ++ [f])) (F.length + 2) → rootN (F ++ [f']) ≤ rootN (F ++ [f]) + 3 → E.nx [some (.ref lc), some (.int first), some (.int sh), some (.ref ln), some (.ref lf), some (.int c), some (.int r0), v7, v8, v9, w10] M'') :
    sFor1 (eCons (eCB min2D (eCons (eOp addD (eC (D.int 1)) (eCall spDraw (eCons (eVar 5) (eCons (eC (D.int 5)) (eCons (eC (D.int 3)) eNil)))))
        (eCons (eOp (dI fun i j => D.int (i - j)) (eC (D.int 9)) (eCB lenD (eCons (eOp ixD (eOp ixD (eVar 4) (eNeg (eC (D.int 1)))) (eC (D.int 1))) eNil))) eNil))) eNil) (hName 10)
      (sDrop (eBM "list" appendD (eOp ixD (eOp ixD (eVar 4) (eNeg (eC (D.int 1)))) (eC (D.int 1))) (eCons (eCall spLeaf (eCons (eOp addD (eVar 5) (eVar 10)) (eCons (eVar 1) (eCons (eVar 3) (eCons (eVar 2) eNil))))) eNil))) E
      [some (.ref lc), some (.int first), some (.int sh), some (.ref ln), some (.ref lf), some (.int c), some (.int r0), v7, v8, v9, v10] M' := by
  have hlast : ∀ g : Frm, atI ((F ++ [g]).map Frm.d) (-1) = some g.d := fun g => by rw [List.map_append]; exact atI_last _ _
  have hfl := hF.at' f (by simp)
  refine in_eeeccc c 5 3 rfl (⟨by decide, by decide⟩) (by decide) (fun r1 h2 h3 => ?_)
  refine ⟨_, _, hF.fr, hlast f, _, hfl.1, ?_⟩
  show (-(2 ^ 62) ≤ (if 9 - (((f.ps.map Tree.d).length : Nat) : Int) < 1 + r1 then 9 - (((f.ps.map Tree.d).length : Nat) : Int) else 1 + r1) ∧ (if 9 - (((f.ps.map Tree.d).length : Nat) : Int) < 1 + r1 then 9 - (((f.ps.map Tree.d).length : Nat) : Int) else 1 + r1) < 2 ^ 62) ∧ walkR (fun i => (i : Int)) (if 9 - (((f.ps.map Tree.d).length : Nat) : Int) < 1 + r1 then 9 - (((f.ps.map Tree.d).length : Nat) : Int) else 1 + r1).toNat _ _ _ _ _
  rw [List.length_map]
  generalize hn : (if 9 - ((f.ps.length : Nat) : Int) < 1 + r1 then 9 - ((f.ps.length : Nat) : Int) else 1 + r1) = n
  have hn1 : n ≤ 3 ∧ n ≤ 9 - (f.ps.length : Int) ∧ 0 ≤ n := by
    have := hfl.2.2.2.2
    rw [← hn]; split <;> (first | lia | omega)
  refine ⟨⟨by (first | lia | omega), by (first | lia | omega)⟩, fun k τ M'' => ∃ (f' : Frm) (w10 : Option D), Frs B M'' lf ln xs (F ++ [f']) ∧ f'.ps.length = f.ps.length + k ∧ total (F ++ [f']) ≤ N + k ∧ Tree.depths f'.ps ≤ max (Tree.depths f.ps) 1 ∧ τ = [some (.ref lc), some (.int first), some (.int sh), some (.ref ln), some (.ref lf), some (.int c), some (.int r0), v7, v8, v9, w10], ⟨f, v10, hF, rfl, ht, by (first | lia | omega), rfl⟩, ?_, ?_⟩
  · intro k τ M'' hk zr300
    refine el_2_5 zr300 ?_; clear zr300; intro f' w10 hF' hl' ht' hd' zq301
    obtain rfl := zq301
    have hfl' := hF'.at' f' (by simp)
    refine ⟨_, _, hF'.fr, hlast f', ⟨rfl, _, hfl'.1⟩, _, first, ln, sh, xs, rfl, hF'.nm, hx, fun t ht1 hwt => ?_⟩
    refine ⟨_, hfl'.1, by rw [List.length_map]; exact small1000 (by (first | lia | omega)), ?_⟩
    refine ⟨{ f' with ps := f'.ps ++ [t] }, _, hF'.push t (by (first | lia | omega)) hwt, ?_, ?_, ?_, rfl⟩
    · show (f'.ps ++ [t]).length = _
      rw [List.length_append, hl']
      simp
      (first | lia | omega)
    · rw [total_app] at ht' ⊢
      have e1 : total [f'] = Tree.knotss f'.ps + 1 + 0 := rfl
      show total F + (Tree.knotss (f'.ps ++ [t]) + 1 + 0) ≤ _
      rw [knotss_app]
      have e2 : Tree.knotss [t] = t.knots + 0 := rfl
      (first | lia | omega)
    · show Tree.depths (f'.ps ++ [t]) ≤ _
      rw [depths_app]
      have e2 : Tree.depths [t] = max t.depth 0 := rfl
      have e3 := depth_le_knots t
      (first | lia | omega)
  · intro τ M'' zr302
    refine el_2_5 zr302 ?_; clear zr302; intro f' w10 hF' hl' ht' hd' zq303
    obtain rfl := zq303
    exact hE _ f' w10 hF' (by (first | lia | omega)) (high_leaf hd' F) (root_last (by (first | lia | omega)) F)
theorem tree_else {B M' : DH} {lf ln lc : Addr} {xs : List D} {F : List Frm} {f : Frm} {first sh c r0 : Int} {v7 v8 v9 v10 : Option D} {E : EndsD} {N : Nat} (hx : NamesV xs) (hF : Frs B M' lf ln xs (F ++ [f])) (h8 : ∀ g ∈ F, g.ps.length ≤ 8) (hf8 : f.ps.length ≤ 8) (ht : total (F ++ [f]) ≤ N) (h9' : F.length ≤ 9)
    (hE : ∀ M'' F' f' w10, Frs B M'' lf ln xs (F' ++ [f']) → (∀ g ∈ F', g.ps.length ≤ 8) → total (F' ++ [f']) ≤ N + 3 → high (F' ++ [f']) ≤ max (high (F ++ [f])) 11 → F'.length ≤ 9 → rootN (F' ++ [f']) ≤ rootN (F ++ [f]) + 3 → E.nx [some (.ref lc), some (.int first), some (.int sh), some (.ref ln), some (.ref lf), some (.int c), some (.int r0), v7, v8, v9, w10] M'') :
    sIf (bAnd (eTest (eOp (dI fun i j => D.bl (decide (i < j))) (eVar 6) (eC (D.int 4)))) (eTest (eOp (dI fun i j => D.bl (decide (i < j))) (eCB lenD (eCons (eVar 4) eNil)) (eC (D.int 10)))))
      (sDrop (eBM "list" appendD (eVar 4) (eCons (eTup (eCons (eOp ixD (eVar 3) (eCall spDraw (eCons (eVar 5) (eCons (eC (D.int 2)) (eCons (eC (D.int 4)) eNil))))) (eCons (eLst eNil) eNil))) eNil)))
      (sFor1 (eCons (eCB min2D (eCons (eOp addD (eC (D.int 1)) (eCall spDraw (eCons (eVar 5) (eCons (eC (D.int 5)) (eCons (eC (D.int 3)) eNil)))))
        (eCons (eOp (dI fun i j => D.int (i - j)) (eC (D.int 9)) (eCB lenD (eCons (eOp ixD (eOp ixD (eVar 4) (eNeg (eC (D.int 1)))) (eC (D.int 1))) eNil))) eNil))) eNil) (hName 10)
        (sDrop (eBM "list" appendD (eOp ixD (eOp ixD (eVar 4) (eNeg (eC (D.int 1)))) (eC (D.int 1))) (eCons (eCall spLeaf (eCons (eOp addD (eVar 5) (eVar 10)) (eCons (eVar 1) (eCons (eVar 3) (eCons (eVar 2) eNil))))) eNil)))) E
      [some (.ref lc), some (.int first), some (.int sh), some (.ref ln), some (.ref lf), some (.int c), some (.int r0), v7, v8, v9, v10] M' := by
  have leaves := tree_leaves (lc := lc) (first := first) (sh := sh) (c := c) (r0 := r0) (v7 := v7) (v8 := v8) (v9 := v9) (v10 := v10) (E := E) hx hF ht (fun M'' f' w10 h1 h2 h3 h5 => hE M'' F f' w10 h1 h8 h2 (by (first | lia | omega)) h9' h5)
  show if decide (r0 < 4) = true then _ else _
  by_cases h4 : r0 < 4
  · first | refine ifT h4 ?_ | rw [decide_eq_true h4, if_pos rfl]
    refine in_ec _ hF.fr ?_
    show if decide ((((F ++ [f]).map Frm.d).length : Int) < 10) = true then _ else _
    by_cases h10 : (((F ++ [f]).map Frm.d).length : Int) < 10
    · first | refine ifT h10 ?_ | rw [decide_eq_true h10, if_pos rfl]
      have h10' : F.length + 1 < 10 := by rw [List.length_map, List.length_append] at h10; simp at h10; (first | lia | omega)
      refine tree_open hx hF ht (by (first | lia | omega)) fun M'' g h1 h2 h3 h5 => hE M'' (F ++ [f]) g _ h1 (fun k hk => ?_) (by (first | lia | omega)) (by (first | lia | omega)) (by simp; (first | lia | omega)) h5
      rcases List.mem_append.mp hk with hk | hk
      · exact h8 k hk
      · cases List.mem_singleton.mp hk; exact hf8
    · first | refine ifF h10 ?_ | rw [decide_eq_false h10, if_neg Bool.false_ne_true]
      exact leaves
  · first | refine ifF h4 ?_ | rw [decide_eq_false h4, if_neg Bool.false_ne_true]
    exact leaves
noncomputable def spTree : SpD := fun ds M Q => ∃ (lc : Addr) (cs : List Int) (first sh : Int), ds = [.ref lc, .int first, .int sh] ∧ M lc = some (.lst (cs.map .int)) ∧ ∀ (n : Str) (ps : List Tree), Tree.knotss ps ≤ 186 → Tree.depths ps ≤ 25 → (Tree.block n ps).wf → Q (Tree.block n ps).d M
theorem ok_tree (T : Txt K mg) (F__law_draw : FnD P w K mg base 1 "_law_draw" ["cell", "k", "many"] spDraw) (F__law_names : FnD P w K mg base 2 "_law_names" ["cell"] spNames) (F__law_leaf : FnD P w K mg base 2 "_law_leaf" ["cell", "first", "names", "shares"] spLeaf) : FnD P w K mg base 3 "_law_tree" ["cells", "first", "shares"] spTree := by
  have m_len := T.m_len
  have m_min := T.m_min
  have m_range := T.m_range
  have m_tuple := T.m_tuple
  refine def_ok T.f__law_tree sc__law_tree (fun ds M Q h => ?_) fun f cdv A outer s H E hr => ⟨_, (ss_cons (s_set (i := 3) sc__law_tree.nd (d_call F__law_names (hr.mono (by (first | lia | omega))) (a_cons (d_var 1) a_nil)))
 (ss_cons (s_set (i := 4) sc__law_tree.nd (d_lst (a_cons (d_tup (a_cons (d_ix (d_var 3) d_int) (a_cons (d_lst a_nil) a_nil))) a_nil)))
 (ss_cons (s_for PassesOwn.never rfl (d_sl sd_sl (d_var 0) o_none (o_some d_int)) (g_name (i := 5) sc__law_tree.nd) (ss_cons (s_set (i := 6) sc__law_tree.nd (d_call F__law_draw (hr.mono (by (first | lia | omega))) (a_cons (d_var 5) (a_cons d_int (a_cons d_int a_nil)))))
 (ss_one (s_if (PW.pt (dw_or (dt_cmp (od_eq hr) (d_callB cd_len rfl m_len bt_len (a_cons (d_ix (d_ix (d_var 4) (d_neg d_int)) d_int) a_nil)) d_int (nomark _)) (dw_or1 (PW.pt (dw_and (dt_cmp (od_eq hr) (d_var 6) d_int (nomark _)) (dw_and1 (dt_cmp od_gt (d_callB cd_len rfl m_len bt_len (a_cons (d_var 4) a_nil)) d_int (nomark _)))))))) (ss_cons (s_asg (d_bm0 PySem.F.plainAttrs_list PySem.F.slot_list_pop PySem.F.type_list_pop md_pop (d_var 4)) (g_tup rfl (gs_cons (g_name (i := 7) sc__law_tree.nd) (gs_cons (g_name (i := 8) sc__law_tree.nd) gs_nil)) len_2))
 (ss_cons (s_set (i := 9) sc__law_tree.nd (d_tup (a_cons d_str (a_cons (d_var 7) (a_cons (d_callTy cd_tuple rfl m_tuple bt_tuple (a_cons (d_var 8) a_nil)) a_nil)))))
 (ss_one (s_if (dt_cmp (od_eq hr) (d_var 4) (d_lst a_nil) (nomark _)) (ss_one (s_expr (d_bm PySem.F.plainAttrs_list PySem.F.slot_list_append PySem.F.type_list_append md_append (d_var 4) (a_cons (d_tup (a_cons (d_ix (d_var 3) (d_call F__law_draw (hr.mono (by (first | lia | omega))) (a_cons (d_var 5) (a_cons d_int (a_cons d_int a_nil))))) (a_cons (d_lst (a_cons (d_var 9) a_nil)) a_nil))) a_nil)))) (ss_one (s_expr (d_bm PySem.F.plainAttrs_list PySem.F.slot_list_append PySem.F.type_list_append md_append (d_ix (d_ix (d_var 4) (d_neg d_int)) d_int) (a_cons (d_var 9) a_nil)))))))) (ss_one (s_if (PW.pt (dw_and (dt_cmp od_lt (d_var 6) d_int (nomark _)) (dw_and1 (dt_cmp od_lt (d_callB cd_len rfl m_len bt_len (a_cons (d_var 4) a_nil)) d_int (nomark _))))) (ss_one (s_expr (d_bm PySem.F.plainAttrs_list PySem.F.slot_list_append PySem.F.type_list_append md_append (d_var 4) (a_cons (d_tup (a_cons (d_ix (d_var 3) (d_call F__law_draw (hr.mono (by (first | lia | omega))) (a_cons (d_var 5) (a_cons d_int (a_cons d_int a_nil))))) (a_cons (d_lst a_nil) a_nil))) a_nil)))) (ss_one (s_for1 PassesOwn.never rfl m_range (a_cons (d_callB (cd_min2 rfl) rfl m_min bt_min (a_cons (d_op od_add d_int (d_call F__law_draw (hr.mono (by (first | lia | omega))) (a_cons (d_var 5) (a_cons d_int (a_cons d_int a_nil))))) (a_cons (d_op od_sub d_int (d_callB cd_len rfl m_len bt_len (a_cons (d_ix (d_ix (d_var 4) (d_neg d_int)) d_int) a_nil))) a_nil))) a_nil) (g_name (i := 10) sc__law_tree.nd) (ss_one (s_expr (d_bm PySem.F.plainAttrs_list PySem.F.slot_list_append PySem.F.type_list_append md_append (d_ix (d_ix (d_var 4) (d_neg d_int)) d_int) (a_cons (d_call F__law_leaf (hr.mono (by (first | lia | omega))) (a_cons (d_op od_add (d_var 5) (d_var 10)) (a_cons (d_var 1) (a_cons (d_var 3) (a_cons (d_var 2) a_nil))))) a_nil))))))))))))
 (ss_cons (s_while PassesOwn.never (dt_cmp od_gt (d_callB cd_len rfl m_len bt_len (a_cons (d_var 4) a_nil)) d_int (nomark _)) (ss_cons (s_asg (d_bm0 PySem.F.plainAttrs_list PySem.F.slot_list_pop PySem.F.type_list_pop md_pop (d_var 4)) (g_tup rfl (gs_cons (g_name (i := 7) sc__law_tree.nd) (gs_cons (g_name (i := 8) sc__law_tree.nd) gs_nil)) len_2))
 (ss_one (s_expr (d_bm PySem.F.plainAttrs_list PySem.F.slot_list_append PySem.F.type_list_append md_append (d_ix (d_ix (d_var 4) (d_neg d_int)) d_int) (a_cons (d_tup (a_cons d_str (a_cons (d_var 7) (a_cons (d_callTy cd_tuple rfl m_tuple bt_tuple (a_cons (d_var 8) a_nil)) a_nil)))) a_nil))))))
 (ss_one (s_ret (d_tup (a_cons d_str (a_cons (d_ix (d_ix (d_var 4) d_int) d_int) (a_cons (d_callTy cd_tuple rfl m_tuple bt_tuple (a_cons (d_ix (d_ix (d_var 4) d_int) d_int) a_nil)) a_nil)))))))))), fun ds M Q h => ?_⟩
  · obtain ⟨lc, cs, first, sh, rfl, _⟩ := h; rfl
  · refine el_4_3 h ?_; clear h; intro lc cs first sh zq304 hc q
    obtain rfl := zq304
    refine in_ec first rfl (fun ln xs hln hx => ?_)
    have hcl : lc ≠ ln := by intro z; subst z; rw [hc] at hln; cases hln
    obtain ⟨d0, hd0⟩ := at_some (xs := xs) (i := 0) (by decide) (by rw [hx.1]; decide)
    refine el_1_3 (atI_get hd0) ?_; intro j0 _ hj0 _
    refine el_1_2 (hx.2 d0 (List.mem_of_getElem? hj0)) ?_; intro n0 zq305 hn0
    obtain rfl := zq305
    refine in_eecc xs _ updM_same hd0 ?_
    show ∀ l, updM M ln (.lst xs) l = none → _
    intro l hl
    show ∀ lf, updM (updM M ln (.lst xs)) l (.lst []) lf = none → _
    intro lf hlf
    refine el_0_2 (upd_none hl) ?_; intro l1 l2
    refine el_0_2 (upd_none hlf) ?_; intro f1 f2
    refine el_0_2 (upd_none f2) ?_; intro f3 f4
    have c1 : lc ≠ l := by intro z; subst z; rw [hc] at l2; cases l2
    have c2 : lc ≠ lf := by intro z; subst z; rw [hc] at f4; cases f4
    refine in_ec (cs.map .int) (by show updM _ _ _ _ = _; rw [updM_ne c2, updM_ne c1, updM_ne hcl]; exact hc) (fun p hp => ⟨_, updM_same, ?_⟩)
    refine el_0_2 (upd_none hp) ?_; intro p1 p2
    refine el_0_2 (upd_none p2) ?_; intro p3 p4
    refine el_0_2 (upd_none p4) ?_; intro p5 p6
    have hcut : ∀ d ∈ DL.cutD (cs.map D.int) none (some 62), ∃ c : Int, d = .int c := by
      intro d hd
      have := List.mem_of_mem_drop (List.mem_of_mem_take hd)
      refine el_1_2 (List.mem_map.mp this) ?_; intro c _ zq306
      obtain rfl := zq306
      exact ⟨c, rfl⟩
    have hlen : (DL.cutD (cs.map D.int) none (some 62)).length ≤ 62 := by
      unfold DL.cutD
      rw [List.length_take]
      have : HT.sIx (cs.map D.int).length (cs.map D.int).length (some 62) ≤ 62 := by
        rw [show (some (62 : Int)) = some ((62 : Nat) : Int) from rfl, HT.sIx_nat]; exact Nat.min_le_left _ _
      (first | lia | omega)
    generalize DL.cutD (cs.map D.int) none (some 62) = cut at *
    have F0 : Frs (updM M p (.lst cut)) (updM (updM (updM (updM M ln (MO.lst xs)) l (MO.lst [])) lf (MO.lst [D.tup [D.str n0, D.ref l]])) p (MO.lst cut)) lf ln xs ([] ++ [⟨n0, l, []⟩]) := by
      refine ⟨by rw [updM_ne (Ne.symm p1), updM_same]; rfl, by rw [updM_ne (Ne.symm p5), updM_ne (Ne.symm f3), updM_ne (Ne.symm l1), updM_same], f3, by simp, ?_, by rw [updM_ne (Ne.symm p1)]; exact f4, by rw [updM_ne (Ne.symm p5)]; exact hln, ?_, ?_⟩
      · intro g hg
        cases List.mem_singleton.mp hg
        exact ⟨by show updM _ p _ l = _; rw [updM_ne (Ne.symm p3), updM_ne (Ne.symm f1), updM_same]; rfl, Ne.symm f1, l1, by show updM M p _ l = _; rw [updM_ne (Ne.symm p3)]; exact l2, by simp⟩
      · intro a o e
        by_cases hap : a = p
        · subst hap; rw [updM_same] at e ⊢; exact e
        · rw [updM_ne hap] at e
          have h1 : a ≠ lf := by intro z; subst z; rw [f4] at e; cases e
          have h2 : a ≠ l := by intro z; subst z; rw [l2] at e; cases e
          have h3 : a ≠ ln := by intro z; subst z; rw [hln] at e; cases e
          rw [updM_ne hap, updM_ne h1, updM_ne h2, updM_ne h3]; exact e
      · intro g hg
        cases List.mem_singleton.mp hg
        exact ⟨hn0, trivial⟩
    have hB : Sub M (updM M p (.lst cut)) := Sub.new p6
    have hBp : updM M p (.lst cut) p = some (.lst cut) := updM_same
    generalize updM (updM (updM (updM M ln (MO.lst xs)) l (MO.lst [])) lf (MO.lst [D.tup [D.str n0, D.ref l]])) p (MO.lst cut) = M5 at *
    generalize updM M p (.lst cut) = B at *
    refine ⟨fun i τ M' => ∃ (F : List Frm) (f : Frm) (v5 v6 v7 v8 v9 v10 : Option D), Frs B M' lf ln xs (F ++ [f]) ∧ (∀ g ∈ F, g.ps.length ≤ 8) ∧ total (F ++ [f]) ≤ 1 + 3 * i ∧ (F.length ≤ 9 ∧ 4 * high (F ++ [f]) + (rootN (F ++ [f]) + 1) / 3 ≤ 44 + i ∧ (rootN (F ++ [f]) + 1) / 3 ≤ i) ∧ τ = [some (.ref lc), some (.int first), some (.int sh), some (.ref ln), some (.ref lf), v5, v6, v7, v8, v9, v10], ⟨[], _, none, none, none, none, none, none, F0, (fun g hg => (nomatch hg)), by simp [total, Tree.knotss], ⟨by simp, by simp [high, Tree.depths, rootN], by simp [rootN]⟩, rfl⟩, ?_, ?_, ?_⟩
    · intro i τ M' _ zr307
      refine el_8_5 zr307 ?_; clear zr307; intro F f v5 v6 v7 v8 v9 v10 hF _ _ _ zq308
      obtain rfl := zq308
      exact hF.sub _ _ hBp
    · intro i d τ M' hd zr309
      refine el_8_5 zr309 ?_; clear zr309; intro F f v5 v6 v7 v8 v9 v10 hF h8 ht zq310 zq311
      refine el_0_3 zq310 ?_; clear zq310; intro hF9 hh hfull
      obtain rfl := zq311
      have hi : i < cut.length := by
        rcases Nat.lt_or_ge i cut.length with h | h
        · exact h
        · rw [List.getElem?_eq_none h] at hd; cases hd
      refine el_1_1 (hcut d (List.mem_of_getElem? hd)) ?_; intro c zq312
      obtain rfl := zq312
      have hfl := hF.at' f (by simp)
      have hlast : atI ((F ++ [f]).map Frm.d) (-1) = some f.d := by rw [List.map_append]; exact atI_last _ _
      refine in_eeeccc c 1 8 rfl (⟨by decide, by decide⟩) (by decide) (fun r0 h0 h1 => ?_)
      refine ⟨_, _, hF.fr, hlast, _, hfl.1, ?_⟩
      show if decide ((((f.ps.map Tree.d).length : Nat) : Int) = 9) = true then _ else _
      by_cases h9 : (((f.ps.map Tree.d).length : Nat) : Int) = 9
      · first | refine ifT h9 ?_ | rw [decide_eq_true h9, if_pos rfl]
        refine tree_pop hx hF h8 ht (by (first | lia | omega)) fun M'' F' f' w7 w8 w9 h1 h2 h3 h4 => ⟨F', f', _, _, _, _, _, _, h1, h2, by (first | lia | omega), ?_, rfl⟩
        rcases h4 with ⟨h4, h5, h6⟩ | ⟨h4, h5, h6, h7⟩
        · exact ⟨by (first | lia | omega), by (first | lia | omega), by (first | lia | omega)⟩
        · have h9'' : f.ps.length = 9 := by rw [List.length_map] at h9; (first | lia | omega)
          have h10 : rootN (F ++ [f]) = 9 := by rw [h4]; exact h9''
          have h11 : rootN (F' ++ [f']) = 1 := by rw [h5]; exact h6
          rw [h10] at hh
          exact ⟨by rw [h5]; simp, by rw [h11]; (first | lia | omega), by rw [h11]; (first | lia | omega)⟩
      · first | refine ifF h9 ?_ | rw [decide_eq_false h9, if_neg Bool.false_ne_true]
        have hf8 : f.ps.length ≤ 8 := by rw [List.length_map] at h9; have := hfl.2.2.2.2; (first | lia | omega)
        show if decide (r0 = 0) = true then _ else _
        by_cases hr0 : r0 = 0
        · first | refine ifT hr0 ?_ | rw [decide_eq_true hr0, if_pos rfl]
          refine in_ec _ hF.fr ?_
          show if decide ((1 : Int) < (((F ++ [f]).map Frm.d).length : Nat)) = true then _ else _
          by_cases hl1 : (1 : Int) < (((F ++ [f]).map Frm.d).length : Nat)
          · first | refine ifT hl1 ?_ | rw [decide_eq_true hl1, if_pos rfl]
            refine tree_pop hx hF h8 ht (by (first | lia | omega)) fun M'' F' f' w7 w8 w9 h1 h2 h3 h4 => ⟨F', f', _, _, _, _, _, _, h1, h2, by (first | lia | omega), ?_, rfl⟩
            rcases h4 with ⟨h4, h5, h6⟩ | ⟨h4, h5, h6, h7⟩
            · exact ⟨by (first | lia | omega), by (first | lia | omega), by (first | lia | omega)⟩
            · subst h4
              simp at hl1
          · first | refine ifF hl1 ?_ | rw [decide_eq_false hl1, if_neg Bool.false_ne_true]
            exact tree_else hx hF h8 hf8 ht hF9 fun M'' F' f' w10 h1 h2 h3 h4 h5 h6 => ⟨F', f', _, _, _, _, _, _, h1, h2, by (first | lia | omega), ⟨h5, by (first | lia | omega), by (first | lia | omega)⟩, rfl⟩
        · first | refine ifF hr0 ?_ | rw [decide_eq_false hr0, if_neg Bool.false_ne_true]
          exact tree_else hx hF h8 hf8 ht hF9 fun M'' F' f' w10 h1 h2 h3 h4 h5 h6 => ⟨F', f', _, _, _, _, _, _, h1, h2, by (first | lia | omega), ⟨h5, by (first | lia | omega), by (first | lia | omega)⟩, rfl⟩
    · intro τ M' zr313
      refine el_8_5 zr313 ?_; clear zr313; intro F f v5 v6 v7 v8 v9 v10 hF h8 ht zq314 zq315
      refine el_0_3 zq314 ?_; clear zq314; intro _ hh _
      obtain rfl := zq315
      refine ⟨fun m τ M'' => ∃ (F : List Frm) (f : Frm) (v5 v6 v7 v8 v9 v10 : Option D), Frs B M'' lf ln xs (F ++ [f]) ∧ (∀ g ∈ F, g.ps.length ≤ 8) ∧ total (F ++ [f]) ≤ 187 ∧ high (F ++ [f]) ≤ 26 ∧ m = F.length ∧ τ = [some (.ref lc), some (.int first), some (.int sh), some (.ref ln), some (.ref lf), v5, v6, v7, v8, v9, v10], ⟨F.length, F, f, _, _, _, _, _, _, hF, h8, by (first | lia | omega), by (first | lia | omega), rfl, rfl⟩, ?_⟩
      intro m τ M'' zr316
      refine el_8_6 zr316 ?_; clear zr316; intro F f v5 v6 v7 v8 v9 v10 hF h8 ht hh zq317 zq318
      obtain rfl := zq317
      obtain rfl := zq318
      refine in_ec _ hF.fr ?_
      show if decide ((1 : Int) < (((F ++ [f]).map Frm.d).length : Nat)) = true then _ else _
      rcases List.eq_nil_or_concat F with rfl | ⟨F', g, rfl⟩
      · first | refine ifF (by simp) ?_ | rw [decide_eq_false (by simp), if_neg Bool.false_ne_true]
        have hfl := hF.at' f (by simp)
        have h0 : atI (([] ++ [f] : List Frm).map Frm.d) 0 = some f.d := atI_nat (j := 0) rfl
        refine ⟨_, _, hF.fr, h0, _, _, hF.fr, h0, _, hfl.1, ?_⟩
        refine in_ec M (hB.trans hF.sub) ?_
        have hwf : (Tree.block f.n f.ps).wf := by
          have h1 := hF.wf f (by simp)
          rw [Tree.wf]; exact ⟨h1.1, hfl.2.2.2.2, h1.2⟩
        have hq := q f.n f.ps (by have e1 : total ([] ++ [f]) = Tree.knotss f.ps + 1 + 0 := rfl; (first | lia | omega)) (by have e1 : high ([] ++ [f]) = max (Tree.depths f.ps) 0 + 1 := rfl; (first | lia | omega)) hwf
        have ew : D.tup [.str "block", .str f.n, .tup (f.ps.map Tree.d)] = (Tree.block f.n f.ps).d := by rw [← ds_map]; rfl
        rw [← ew] at hq
        exact hq
      · rw [List.concat_eq_append] at *
        first | refine ifT (by simp; (first | lia | omega)) ?_ | rw [decide_eq_true (by simp; (first | lia | omega)), if_pos rfl]
        refine el_0_2 (hF.popped) ?_; intro hP hPl
        have hg := hP.at' g (by simp)
        have hlast : atI ((F' ++ [g]).map Frm.d) (-1) = some g.d := by rw [List.map_append]; exact atI_last _ _
        have ew : D.tup [.str "block", .str f.n, .tup (f.ps.map Tree.d)] = (Tree.block f.n f.ps).d := by rw [← ds_map]; rfl
        refine in_ceec (⟨rfl, _, hF.fr⟩) ((F' ++ [g]).map Frm.d) f.d (by rw [hF.fr]; simp) ?_
        refine ⟨_, _, hP.fr, hlast, ⟨rfl, _, hg.1⟩, _, hPl, _, hg.1, ?_, ?_⟩
        · rw [List.length_map]; exact small1000 (by have := hg.2.2.2.2; (first | lia | omega))
        · have hwf : (Tree.block f.n f.ps).wf := by
            have h1 := hF.wf f (by simp)
            have h2 := (hF.at' f (by simp)).2.2.2.2
            rw [Tree.wf]; exact ⟨h1.1, h2, h1.2⟩
          have hW := hP.push (.block f.n f.ps) (by have := h8 g (by simp); (first | lia | omega)) hwf
          rw [← ew] at hW
          refine ⟨F'.length, by simp, F', { g with ps := g.ps ++ [.block f.n f.ps] }, _, _, _, _, _, _, hW, fun k hk => h8 k (by simp [hk]), ?_, by have h1 := high_le (high_closed g f) F'; rw [List.append_assoc] at hh; (first | lia | omega), rfl, rfl⟩
          rw [total_app, total_app] at ht
          rw [total_app]
          have e1 : total [f] = Tree.knotss f.ps + 1 + 0 := rfl
          have e2 : total [g] = Tree.knotss g.ps + 1 + 0 := rfl
          show total F' + (Tree.knotss (g.ps ++ [.block f.n f.ps]) + 1 + 0) ≤ _
          rw [knotss_app]
          show total F' + (Tree.knotss g.ps + ((Tree.knotss f.ps + 1) + 0) + 1 + 0) ≤ _
          (first | lia | omega)
section
variable {M0 M : DH} {lf lw : Addr} {done ws : List PT'}
end
theorem tx_app (a b : List Nat) : tx a ++ tx b = tx (a ++ b) := by
  show (⟨a.toArray ++ b.toArray⟩ : Str) = ⟨(a ++ b).toArray⟩
  congr 1
  simp
noncomputable def encJ : List Tree → List Nat
  | [] => []
  | p :: ps => 44 :: (enc p ++ encJ ps)
theorem encT_J : ∀ ps : List Tree, encT ps = encJ ps ++ [41]
  | [] => rfl
  | p :: ps => by rw [encT, encJ, encT_J ps]; simp
mutual
theorem enc_len : ∀ t : Tree, t.wf → (enc t).length + 1 ≤ 14 * t.knots
  | .blank k, h => by
    rw [Tree.wf] at h
    rw [enc, List.length_cons, Tree.knots]
    have := (figs_len k (by (first | lia | omega)) h.2).2
    (first | lia | omega)
  | .block n ps, h => by
    rw [Tree.wf] at h
    rw [enc, List.length_append, Tree.knots]
    have h1 : n.cps.toList.length ≤ 12 := by
      cases e : n.cps.toList with
      | nil => simp
      | cons c r =>
        rw [e] at h
        have h' : (decide (r.length < 12) && isL c && r.all fun k => isL k || isF k) = true := h.1
        simp only [Bool.and_eq_true, decide_eq_true_eq] at h'
        rw [List.length_cons]; (first | lia | omega)
    cases ps with
    | nil => rw [encP, List.length_nil]; (first | lia | omega)
    | cons p ps =>
      rw [encP, List.length_cons, List.length_append]
      have h2 := enc_len p h.2.2.1
      have h3 := encT_len ps h.2.2.2
      rw [Tree.knotss]; (first | lia | omega)
theorem encT_len : ∀ ts : List Tree, Tree.wfs ts → (encT ts).length ≤ 14 * Tree.knotss ts + 1
  | [], _ => by rw [encT]; decide
  | t :: ts, h => by
    rw [encT, List.length_cons, List.length_append, Tree.knotss]
    have h2 := enc_len t h.1
    have h3 := encT_len ts h.2
    (first | lia | omega)
end
noncomputable def spWr (n : Nat) : SpD := fun ds M Q => ∃ t : Tree, ds = [t.d] ∧ t.depth ≤ n ∧ t.knots ≤ 1000 ∧ t.wf ∧ Q (.str (tx (enc t))) M
theorem len14 {n : Nat} (h : n ≤ 20000) : n ≤ sizeLine := by have h3 : sizeLine = 16777216 := sizeLine_eq; (first | lia | omega)
theorem wfs_mem : ∀ {ps : List Tree} {i : Nat} {u : Tree}, Tree.wfs ps → ps[i]? = some u → u.wf
  | [], _, _, _, e => by simp at e
  | t :: ts, 0, _, h, e => by simp at e; subst e; exact h.1
  | t :: ts, i + 1, _, h, e => wfs_mem h.2 (by simpa using e)
noncomputable def spGreat : SpD := fun ds M Q => ∃ (c deep many : Int) (l : Addr) (xs : List D), ds = [.int c, .ref l, .int deep, .int many] ∧ M l = some (.lst xs) ∧ NamesV xs ∧ 1 ≤ deep ∧ deep ≤ 40 ∧ deep ≤ many ∧ many ≤ 210 ∧ ∀ t : Tree, (t.depth : Int) ≤ deep → (t.knots : Int) ≤ many → t.wf → Q t.d M
theorem ok_great (T : Txt K mg) (F__law_draw : FnD P w K mg base 1 "_law_draw" ["cell", "k", "many"] spDraw) : FnD P w K mg base 2 "_law_great" ["cell", "names", "deep", "many"] spGreat := by
  have m_max := T.m_max
  have m_min := T.m_min
  have m_range := T.m_range
  have m_tuple := T.m_tuple
  refine def_ok T.f__law_great sc__law_great (fun ds M Q h => ?_) fun f cdv A outer s H E hr => ⟨_, (ss_cons (s_set (i := 4) sc__law_great.nd (d_tup (a_cons d_str (a_cons (d_ix (d_var 1) d_int) (a_cons (d_tup a_nil) a_nil)))))
 (ss_cons (s_set (i := 5) sc__law_great.nd (d_op od_sub (d_var 3) (d_var 2)))
 (ss_cons (s_for1 PassesOwn.never rfl m_range (a_cons (d_op od_sub (d_var 2) d_int) a_nil) (g_name (i := 6) sc__law_great.nd) (ss_cons (s_set (i := 7) sc__law_great.nd (d_lst a_nil))
 (ss_cons (s_for1 PassesOwn.never rfl m_range (a_cons (d_callB (cd_max2 rfl) rfl m_max bt_max (a_cons d_int (a_cons (d_callB (cd_min2 rfl) rfl m_min bt_min (a_cons d_int (a_cons (d_var 5) a_nil))) a_nil))) a_nil) (g_name (i := 8) sc__law_great.nd) (ss_one (s_expr (d_bm PySem.F.plainAttrs_list PySem.F.slot_list_append PySem.F.type_list_append md_append (d_var 7) (a_cons (d_tup (a_cons d_str (a_cons (d_op od_sub (d_op od_pow d_int d_int) (d_op od_mulS (d_var 8) (d_call F__law_draw (hr.mono (by (first | lia | omega))) (a_cons (d_var 0) (a_cons d_int (a_cons (d_op od_pow d_int d_int) a_nil)))))) a_nil))) a_nil)))))
 (ss_cons (s_set (i := 5) sc__law_great.nd (d_op od_sub (d_var 5) d_int))
 (ss_cons (s_if (dt_cmp (od_eq hr) (d_call F__law_draw (hr.mono (by (first | lia | omega))) (a_cons (d_var 0) (a_cons (d_op od_add d_int (d_var 6)) (a_cons d_int a_nil)))) d_int (nomark _)) (ss_one (s_set (i := 7) sc__law_great.nd (d_op od_add (d_var 7) (d_lst (a_cons (d_var 4) a_nil))))) (ss_one (s_set (i := 7) sc__law_great.nd (d_op od_add (d_lst (a_cons (d_var 4) a_nil)) (d_var 7)))))
 (ss_one (s_set (i := 4) sc__law_great.nd (d_tup (a_cons d_str (a_cons (d_ix (d_var 1) (d_op od_mod (d_var 6) d_int)) (a_cons (d_callTy cd_tuple rfl m_tuple bt_tuple (a_cons (d_var 7) a_nil)) a_nil)))))))))))
 (ss_one (s_ret (d_var 4)))))), fun ds M Q h => ?_⟩
  · obtain ⟨c, deep, many, l, xs, rfl, _⟩ := h; rfl
  · refine el_5_8 h ?_; clear h; intro c deep many l xs zq319 hl hx hd1 hd2 hm1 hm2 q
    obtain rfl := zq319
    have hat : ∀ i : Int, 0 ≤ i → i < 4 → ∃ z : Str, atI xs i = some (.str z) ∧ nameL z.cps.toList = true := fun i h0 h4 => by
      refine el_1_1 (Int.eq_ofNat_of_zero_le h0) ?_; intro n zq320
      obtain rfl := zq320
      have hn : n < xs.length := by rw [hx.1]; (first | lia | omega)
      refine el_1_2 (hx.2 xs[n] (List.getElem_mem hn)) ?_; intro z e h
      exact in_ec z (by rw [← e]; exact atI_nat (List.getElem?_eq_getElem hn)) h
    refine el_1_2 (hat 0 (by decide) (by decide)) ?_; intro z0 hz0 hw0
    refine in_eecc _ _ hl hz0 ?_
    refine ⟨⟨by (first | lia | omega), by (first | lia | omega)⟩, fun i τ M' => ∃ (t : Tree) (lf : Int) (v6 v7 v8 : Option D), Sub M M' ∧ t.depth ≤ i + 1 ∧ (-300 ≤ lf + 8 * (i : Int) ∧ lf ≤ many - deep) ∧ (t.knots : Int) + (if lf < 0 then 0 else lf) ≤ (i : Int) + 1 + (many - deep) ∧ t.wf ∧ τ = [some (.int c), some (.ref l), some (.int deep), some (.int many), some t.d, some (.int lf), v6, v7, v8], ⟨.block z0 [], many - deep, none, none, none, Sub.refl M, Nat.le_refl 1, ⟨by (first | lia | omega), by (first | lia | omega)⟩, ?_, ?_, rfl⟩, ?_, ?_⟩
    · show ((1 : Nat) : Int) + _ ≤ _
      rw [if_neg (by (first | lia | omega))]; (first | lia | omega)
    · rw [Tree.wf]; exact ⟨hw0, by decide, trivial⟩
    · intro i τ M' hi zr321
      refine el_5_6 zr321 ?_; clear zr321; intro t lf v6 v7 v8 hS h1 h2 h3 hw zq322
      obtain rfl := zq322
      show ∀ p, M' p = none → _
      intro p hp
      obtain ⟨m, hm, m0, m8, ml⟩ : ∃ m : Int, m = (if (if lf < 8 then lf else 8) > 0 then (if lf < 8 then lf else 8) else 0) ∧ 0 ≤ m ∧ m ≤ 8 ∧ m = (if lf < 0 then 0 else lf) - (if lf - 8 < 0 then 0 else lf - 8) := by
        refine ⟨_, rfl, ?_, ?_, ?_⟩ <;> (repeat' split) <;> (first | lia | omega)
      show (-(2 ^ 62) ≤ (if (if lf < 8 then lf else 8) > 0 then (if lf < 8 then lf else 8) else 0) ∧ (if (if lf < 8 then lf else 8) > 0 then (if lf < 8 then lf else 8) else 0) < 2 ^ 62) ∧ walkR (fun i => (i : Int)) (if (if lf < 8 then lf else 8) > 0 then (if lf < 8 then lf else 8) else 0).toNat _ _ _ _ _
      rw [← hm]
      refine ⟨⟨by (first | lia | omega), by (first | lia | omega)⟩, fun k τ M'' => ∃ (us : List Tree) (v8 : Option D), us.length = k ∧ Tree.knotss us = k ∧ Tree.depths us ≤ 1 ∧ Tree.wfs us ∧ M'' = updM M' p (.lst (us.map Tree.d)) ∧ τ = [some (.int c), some (.ref l), some (.int deep), some (.int many), some t.d, some (.int lf), some (.int i), some (.ref p), v8], ⟨[], v8, rfl, rfl, Nat.zero_le _, trivial, rfl, rfl⟩, ?_, ?_⟩
      · intro k τ M'' hk zr323
        refine el_2_6 zr323 ?_; clear zr323; intro us w8 hu1 hu2 hu3 hu4 zq324 zq325
        obtain rfl := zq324
        obtain rfl := zq325
        have hp9 : CPow 10 9 := ⟨by decide, by decide, by decide⟩
        have hp8 : CPow 10 8 := ⟨by decide, by decide, by decide⟩
        refine in_ccceeeccc (⟨rfl, _, updM_same⟩) hp9 hp8 c 49 ((10 : Int) ^ (8 : Int).toNat) rfl (⟨by decide, by decide⟩) (by decide) (fun r h0 hr1 => ?_)
        refine ⟨.inl ⟨by show -(2 ^ 64) < (k : Int); (first | lia | omega), by show (k : Int) < 2 ^ 64; (first | lia | omega)⟩, _, updM_same, ?_, us ++ [.blank ((10 : Int) ^ (9 : Int).toNat - (k : Int) * r)], _, ?_, ?_, ?_, ?_, ?_, rfl⟩
        · rw [List.length_map]; exact small1000 (by (first | lia | omega))
        · rw [List.length_append, hu1]; rfl
        · rw [knotss_app, hu2]; rfl
        · rw [depths_app]; show max _ (max 1 0) ≤ 1; (first | lia | omega)
        · refine (wfs_app _ _).mpr ⟨hu4, ?_, trivial⟩
          rw [Tree.wf]
          have e9 : (10 : Int) ^ (9 : Int).toNat = 1000000000 := by decide
          have e8 : (10 : Int) ^ (8 : Int).toNat = 100000000 := by decide
          rw [e9]
          rw [e8] at hr1
          have hkr : 0 ≤ (k : Int) * r := Int.mul_nonneg (by (first | lia | omega)) h0
          have hkr2 : (k : Int) * r ≤ 7 * 100000000 := Int.mul_le_mul (by (first | lia | omega)) (by (first | lia | omega)) h0 (by decide)
          exact ⟨by (first | lia | omega), by (first | lia | omega)⟩
        · rw [updM_upd, List.map_append]; rfl
      · intro τ M'' zr326
        refine el_2_6 zr326 ?_; clear zr326; intro us w8 hu1 hu2 hu3 hu4 zq327 zq328
        obtain rfl := zq327
        obtain rfl := zq328
        have hmk : ((Tree.knotss us : Nat) : Int) = m := by (first | lia | omega)
        obtain ⟨z, hz, hzw⟩ := hat ((i : Int) % 4) (by (first | lia | omega)) (by (first | lia | omega))
        have hW : ∀ (leaves : List Tree) (M8 : DH) (u7 : Option D), Sub M M8 → leaves.length = us.length + 1 → Tree.knotss leaves = Tree.knotss us + t.knots → Tree.depths leaves ≤ i + 1 → Tree.wfs leaves → ∃ (t : Tree) (lf' : Int) (v6 v7 v8 : Option D), Sub M M8 ∧ t.depth ≤ i + 1 + 1 ∧ (-300 ≤ lf' + 8 * ((i + 1 : Nat) : Int) ∧ lf' ≤ many - deep) ∧ (t.knots : Int) + (if lf' < 0 then 0 else lf') ≤ ((i + 1 : Nat) : Int) + 1 + (many - deep) ∧ t.wf ∧ [some (.int c), some (.ref l), some (.int deep), some (.int many), some (Tree.block z leaves).d, some (.int (lf - 8)), some (.int i), u7, w8] = [some (.int c), some (.ref l), some (.int deep), some (.int many), some t.d, some (.int lf'), v6, v7, v8] := fun leaves M8 u7 g1 g2 g3 g4 g5 => by
          refine ⟨.block z leaves, lf - 8, _, _, _, g1, ?_, ⟨by (first | lia | omega), by (first | lia | omega)⟩, ?_, ?_, rfl⟩
          · rw [Tree.depth]; (first | lia | omega)
          · rw [Tree.knots, g3]; push_cast; (first | lia | omega)
          · rw [Tree.wf]; exact ⟨hzw, by (first | lia | omega), g5⟩
        refine ⟨c, 20 + (i : Int), 2, rfl, ⟨by (first | lia | omega), by (first | lia | omega)⟩, by decide, fun r h0 hr1 => ?_⟩
        show if decide (r = 1) = true then _ else _
        have hS2 : Sub M (updM M' p (.lst (us.map Tree.d))) := hS.trans (Sub.new hp)
        have hP2 : updM M' p (.lst (us.map Tree.d)) p = some (.lst (us.map Tree.d)) := updM_same
        generalize updM M' p (.lst (us.map Tree.d)) = M2 at *
        by_cases hr2 : r = 1
        · first | refine ifT hr2 ?_ | rw [decide_eq_true hr2, if_pos rfl]
          show ∀ p2, M2 p2 = none → _
          intro p2 hp2
          refine ⟨us.map Tree.d, [t.d], Sub.new hp2 _ _ hP2, updM_same, by rw [List.length_map]; exact line1000 (by show us.length + 1 ≤ _; (first | lia | omega)), fun p3 hp3 => ?_⟩
          have hS3 : Sub M (updM (updM M2 p2 (.lst [t.d])) p3 (.lst (us.map Tree.d ++ [t.d]))) := (hS2.trans (Sub.new hp2)).trans (Sub.new hp3)
          refine in_ceeccec (by show (0 : Int) < 4; decide) _ _ (hS3 _ _ hl) hz _ updM_same ?_
          have ew : (Tree.block z (us ++ [t])).d = D.tup [.str "block", .str z, .tup (us.map Tree.d ++ [t.d])] := by rw [Tree.d, ds_map, List.map_append]; rfl
          have := hW (us ++ [t]) _ (some (.ref p3)) hS3 (by rw [List.length_append]; rfl) (by rw [knotss_app]; show _ + (t.knots + 0) = _; (first | lia | omega)) (by rw [depths_app]; show max _ (max t.depth 0) ≤ _; (first | lia | omega)) ((wfs_app _ _).mpr ⟨hu4, hw, trivial⟩)
          rw [ew] at this
          exact this
        · first | refine ifF hr2 ?_ | rw [decide_eq_false hr2, if_neg Bool.false_ne_true]
          show ∀ p2, M2 p2 = none → _
          intro p2 hp2
          refine ⟨[t.d], us.map Tree.d, updM_same, Sub.new hp2 _ _ hP2, by rw [List.length_map]; exact line1000 (by show 1 + us.length ≤ _; (first | lia | omega)), fun p3 hp3 => ?_⟩
          have hS3 : Sub M (updM (updM M2 p2 (.lst [t.d])) p3 (.lst ([t.d] ++ us.map Tree.d))) := (hS2.trans (Sub.new hp2)).trans (Sub.new hp3)
          refine in_ceeccec (by show (0 : Int) < 4; decide) _ _ (hS3 _ _ hl) hz _ updM_same ?_
          have ew : (Tree.block z (t :: us)).d = D.tup [.str "block", .str z, .tup ([t.d] ++ us.map Tree.d)] := by rw [Tree.d, ds_map]; rfl
          have := hW (t :: us) _ (some (.ref p3)) hS3 rfl (by show t.knots + _ = _; (first | lia | omega)) (by show max t.depth _ ≤ _; (first | lia | omega)) ⟨hw, hu4⟩
          rw [ew] at this
          exact this
    · intro τ M' zr329
      refine el_5_6 zr329 ?_; clear zr329; intro t lf v6 v7 v8 hS h1 h2 h3 hw zq330
      obtain rfl := zq330
      have : (if lf < 0 then 0 else lf) ≥ 0 := by split <;> (first | lia | omega)
      exact ⟨M, hS, q t (by (first | lia | omega)) (by (first | lia | omega)) hw⟩
noncomputable def encH : List Tree → List Nat
  | [] => []
  | p :: ps => 40 :: (enc p ++ encJ ps)
theorem encJ_snoc (u : Tree) : ∀ ps : List Tree, encJ (ps ++ [u]) = encJ ps ++ 44 :: enc u
  | [] => by show 44 :: (enc u ++ []) = _; rw [List.append_nil]; rfl
  | p :: ps => by rw [List.cons_append, encJ, encJ_snoc u ps, encJ]; simp
theorem encH_snoc (u : Tree) : ∀ ps : List Tree, encH (ps ++ [u]) = encH ps ++ (if 0 < ps.length then 44 else 40) :: enc u
  | [] => by show 40 :: (enc u ++ []) = _; rw [List.append_nil]; rfl
  | p :: ps => by rw [List.cons_append, encH, encJ_snoc u ps, encH, if_pos (by simp)]; simp
theorem enc_H (z : Str) (p : Tree) (ps : List Tree) : enc (.block z (p :: ps)) = z.cps.toList ++ encH (p :: ps) ++ [41] := by
  rw [enc, encP, encT_J, encH]; simp
theorem encJ_len : ∀ ps : List Tree, Tree.wfs ps → (encJ ps).length ≤ 14 * Tree.knotss ps
  | [], _ => Nat.zero_le _
  | t :: ts, h => by
    rw [encJ, List.length_cons, List.length_append, Tree.knotss]
    have h2 := enc_len t h.1
    have h3 := encJ_len ts h.2
    (first | lia | omega)
theorem encH_len (ps : List Tree) (h : Tree.wfs ps) : (encH ps).length ≤ 14 * Tree.knotss ps := by
  cases ps with
  | nil => exact Nat.zero_le _
  | cons p ps =>
    rw [encH, List.length_cons, List.length_append, Tree.knotss]
    have h2 := enc_len p h.1
    have h3 := encJ_len ps h.2
    (first | lia | omega)
theorem wfs_take : ∀ (ps : List Tree) (i : Nat), Tree.wfs ps → Tree.wfs (ps.take i)
  | [], i, _ => by rw [List.take_nil]; trivial
  | t :: ts, 0, _ => trivial
  | t :: ts, i + 1, h => ⟨h.1, wfs_take ts i h.2⟩
theorem name_len {cs : List Nat} (h : nameL cs = true) : cs.length ≤ 12 := by
  cases cs with
  | nil => exact Nat.zero_le _
  | cons c r =>
    have h' : (decide (r.length < 12) && isL c && r.all fun k => isL k || isF k) = true := h
    simp only [Bool.and_eq_true, decide_eq_true_eq] at h'
    rw [List.length_cons]; (first | lia | omega)
theorem ok_text (T : Txt K mg) : ∀ n : Nat, FnD P w K mg base (n + 1) "_law_text" ["tree"] (spWr n)
  | 0 => (fn_none T.f__law_text fun ds M Q ⟨t, _, h, _⟩ => by have := depth_pos t; (first | lia | omega)).mono (by (first | lia | omega))
  | n + 1 => by
    have m_int := T.m_int
    have m_len := T.m_len
    have m_range := T.m_range
    have m_str := T.m_str
    have F__law_text := ok_text T n
    refine def_ok T.f__law_text sc__law_text (fun ds M Q h => ?_) fun f cdv A outer s H E hr => ⟨_, (ss_cons (s_if (dt_cmp (od_eq hr) (d_ix (d_var 0) d_int) d_str (nomark _)) (ss_one (s_ret (d_op od_add d_str (d_callTy cd_str rfl m_str bt_str (a_cons (d_ix (d_var 0) d_int) a_nil))))) ss_nil)
 (ss_cons (s_set (i := 1) sc__law_text.nd (d_ix (d_var 0) d_int))
 (ss_cons (s_for1 PassesOwn.never rfl m_range (a_cons (d_callB cd_len rfl m_len bt_len (a_cons (d_ix (d_var 0) d_int) a_nil)) a_nil) (g_name (i := 2) sc__law_text.nd) (ss_one (s_set (i := 1) sc__law_text.nd (d_op od_add (d_op od_add (d_var 1) (d_ix d_str (d_callTy cd_int rfl m_int bt_int (a_cons (d_cmp od_gt (d_var 2) d_int (nomark _)) a_nil)))) (d_call F__law_text (hr.mono (by (first | lia | omega))) (a_cons (d_ix (d_ix (d_var 0) d_int) (d_var 2)) a_nil))))))
 (ss_cons (s_if (dt_cmp od_gt (d_callB cd_len rfl m_len bt_len (a_cons (d_ix (d_var 0) d_int) a_nil)) d_int (nomark _)) (ss_one (s_ret (d_op od_add (d_var 1) d_str))) ss_nil)
 (ss_one (s_ret (d_var 1))))))), fun ds M Q h => ?_⟩
    · obtain ⟨t, rfl, _⟩ := h; rfl
    · refine el_1_5 h ?_; clear h; intro t zq331 hd hk hw q
      obtain rfl := zq331
      cases t with
      | blank k =>
        rw [Tree.wf] at hw
        have hl := (figs_len k (by (first | lia | omega)) hw.2).2
        refine ⟨⟨by (first | lia | omega), by (first | lia | omega)⟩, ?_⟩
        show (Str.ofString "?").length + (numT k).length ≤ sizeLine ∧ (endsOf Q).rt (.str (Str.ofString "?" ++ numT k)) M
        refine ⟨by rw [num_len]; show 1 + _ ≤ _; exact line1000 (by (first | lia | omega)), ?_⟩
        have e : Str.ofString "?" ++ numT k = tx (enc (.blank k)) := by
          rw [← figs_tx, show Str.ofString "?" = tx [63] by decide +kernel, tx_app, enc]; rfl
        rw [e]
        exact rt_done q
      | block z ps =>
        have hw' : nameL z.cps.toList = true ∧ ps.length ≤ 9 ∧ Tree.wfs ps := by rw [Tree.wf] at hw; exact hw
        have hel := enc_len (.block z ps) hw
        rw [Tree.depth] at hd
        rw [Tree.knots] at hk hel
        have hzl := name_len hw'.1
        have hdl : (Tree.ds ps).length = ps.length := by rw [ds_map, List.length_map]
        show (-(2 ^ 62) ≤ ((((Tree.ds ps).length : Nat) : Int)) ∧ ((((Tree.ds ps).length : Nat) : Int)) < 2 ^ 62) ∧ walkR (fun i => (i : Int)) ((((Tree.ds ps).length : Nat) : Int)).toNat _ _ _ _ _
        rw [hdl]
        refine ⟨⟨by (first | lia | omega), by (first | lia | omega)⟩, fun i τ M' => ∃ v2 : Option D, τ = [some (Tree.block z ps).d, some (.str (tx (z.cps.toList ++ encH (ps.take i)))), v2] ∧ M' = M, ⟨none, by rw [List.take_zero, encH, List.append_nil, tx_eta]; rfl, rfl⟩, ?_, ?_⟩
        · intro i τ M' hi zr332
          refine el_1_2 zr332 ?_; clear zr332; intro v2 zq333 zq334
          obtain rfl := zq333
          obtain rfl := zq334
          have hi' : i < ps.length := by rw [Int.toNat_natCast] at hi; exact hi
          have e' : ps[i]? = some ps[i] := List.getElem?_eq_getElem hi'
          generalize ps[i] = u at e'
          have g1 := depth_get e'
          have g2 := knots_get e'
          have g3 := encH_len (ps.take i) (wfs_take ps i hw'.2.2)
          have g4 := knotss_take_le ps i
          have g5 := enc_len u (wfs_mem hw'.2.2 e')
          have hlen : (tx (z.cps.toList ++ encH (ps.take i))).length ≤ 14 * 1000 + 12 := by rw [tx_len, List.length_append]; (first | lia | omega)
          have hat : atI (Tree.ds ps) ((i : Nat) : Int) = some u.d := atI_nat (by rw [ds_map, List.getElem?_map, e']; rfl)
          obtain ⟨sg, hsg, hse⟩ : ∃ k : Nat, atI (Str.ofString "(,").cps.toList (if decide ((0 : Int) < ((i : Nat) : Int)) = true then 1 else 0) = some k ∧ k = (if 0 < (ps.take i).length then 44 else 40) := by
            rw [List.length_take, Nat.min_eq_left (by (first | lia | omega))]
            by_cases c0 : 0 < i
            · rw [decide_eq_true (by (first | lia | omega)), if_pos rfl, if_pos c0]; exact ⟨44, by decide +kernel, rfl⟩
            · rw [decide_eq_false (by (first | lia | omega)), if_neg Bool.false_ne_true, if_neg c0]; exact ⟨40, by decide +kernel, rfl⟩
          refine in_cec (by decide +kernel) sg hsg ?_
          refine ⟨by show (tx _).length + 1 ≤ _; exact len14 (by (first | lia | omega)), ?_⟩
          show onSome (atI (Tree.ds ps) ((i : Nat) : Int)) _
          rw [hat]
          refine ⟨u, rfl, by (first | lia | omega), by (first | lia | omega), wfs_mem hw'.2.2 e', ?_⟩
          show (tx (z.cps.toList ++ encH (ps.take i)) ++ (⟨#[sg]⟩ : Str)).length + (tx (enc u)).length ≤ sizeLine ∧ _
          refine ⟨by rw [str_app, tx_len (enc u)]; show _ + 1 + _ ≤ _; have h3 : sizeLine = 16777216 := sizeLine_eq; (first | lia | omega), some (.int i), ?_, rfl⟩
          have et : tx (z.cps.toList ++ encH (ps.take i)) ++ (⟨#[sg]⟩ : Str) ++ tx (enc u) = tx (z.cps.toList ++ encH (ps.take (i + 1))) := by
            rw [show (⟨#[sg]⟩ : Str) = tx [sg] from rfl, tx_app, tx_app, List.take_add_one, e']
            show _ = tx (z.cps.toList ++ encH (ps.take i ++ [u]))
            rw [encH_snoc, hse]
            congr 1
            simp
          rw [← et]
          rfl
        · intro τ M' zr335
          refine el_1_2 zr335 ?_; clear zr335; intro v2 zq336 zq337
          obtain rfl := zq336
          obtain rfl := zq337
          rw [Int.toNat_natCast, List.take_length]
          show if decide ((0 : Int) < (((Tree.ds ps).length : Nat) : Int)) = true then _ else _
          rw [hdl]
          cases ps with
          | nil =>
            first | refine ifF (by simp) ?_ | rw [decide_eq_false (by simp), if_neg Bool.false_ne_true]
            have e : tx (z.cps.toList ++ encH []) = tx (enc (.block z [])) := by rw [enc, encP, encH]
            rw [← e] at q
            exact rt_done q
          | cons p ps =>
            first | refine ifT (by rw [List.length_cons]; (first | lia | omega)) ?_ | rw [decide_eq_true (by rw [List.length_cons]; (first | lia | omega)), if_pos rfl]
            have g3 := encH_len (p :: ps) hw'.2.2
            refine ⟨by rw [tx_len, List.length_append]; show _ + 1 ≤ _; exact len14 (by (first | lia | omega)), ?_⟩
            have e : tx (z.cps.toList ++ encH (p :: ps)) ++ Str.ofString ")" = tx (enc (.block z (p :: ps))) := by
              rw [show Str.ofString ")" = tx [41] by decide +kernel, tx_app, enc_H]
            show (endsOf Q).rt (.str (tx (z.cps.toList ++ encH (p :: ps)) ++ Str.ofString ")")) _
            rw [e]
            exact rt_done q
theorem num10 {n : Int} (h0 : 0 ≤ n) (h1 : n < 10 ^ 10) : (numT n).length ≤ 10 := PySem.W.KT.len_num h0 h1
theorem cut_take {α : Type} (xs : List α) (n : Nat) : DL.cutD xs none (some (n : Int)) = xs.take n := by
  unfold DL.cutD
  rw [HT.sIx_nat]
  show (xs.drop 0).take (min n xs.length - 0) = _
  rw [List.drop_zero, Nat.sub_zero, List.take_eq_take_iff]
  (first | lia | omega)
noncomputable def fO (z : Str) : D → Option D
  | .int k => match atI z.cps.toList k with
    | some c => if decide (c ∈ (Str.ofString "(,").cps.toList) = true then some (.int (k + 1)) else none
    | none => none
  | _ => none
theorem fO_int (z : Str) {d y : D} (h : fO z d = some y) : ∃ k : Int, y = .int k := by
  cases d with
  | int k =>
    have h' : (match atI z.cps.toList k with | some c => if decide (c ∈ (Str.ofString "(,").cps.toList) = true then some (D.int (k + 1)) else none | none => none) = some y := h
    cases e : atI z.cps.toList k with
    | none => rw [e] at h'; cases h'
    | some c =>
      rw [e] at h'
      have h2 : (if decide (c ∈ (Str.ofString "(,").cps.toList) = true then some (D.int (k + 1)) else none) = some y := h'
      split at h2
      · cases h2; exact ⟨_, rfl⟩
      · cases h2
  | _ => cases h
theorem list_some {xs : List D} {r : Int} (h0 : 0 ≤ r) (h1 : r < (xs.length : Int)) : ∃ d, atI xs r = some d ∧ d ∈ xs := by
  refine el_1_1 (Int.eq_ofNat_of_zero_le h0) ?_; intro n zq338
  obtain rfl := zq338
  have hn : n < xs.length := by (first | lia | omega)
  exact in_ec (xs[n]) (atI_nat (List.getElem?_eq_getElem hn)) (List.getElem_mem hn)
noncomputable def spOdd : SpD := fun ds M Q => ∃ (z : Str) (c : Int), ds = [.str z, .int c] ∧ z.length ≤ 4000 ∧ ∀ z' : Str, z'.length ≤ 9000 → Q (.str z') M
theorem ok_odd (T : Txt K mg) (F__law_draw : FnD P w K mg base 1 "_law_draw" ["cell", "k", "many"] spDraw) : FnD P w K mg base 2 "_law_odd_leaf" ["text", "cell"] spOdd := by
  have m_len := T.m_len
  have m_range := T.m_range
  have m_str := T.m_str
  refine def_ok T.f__law_odd_leaf sc__law_odd_leaf (fun ds M Q h => ?_) fun f cdv A outer s H E hr => ⟨_, (ss_cons (s_set (i := 2) sc__law_odd_leaf.nd (d_call F__law_draw (hr.mono (by (first | lia | omega))) (a_cons (d_var 1) (a_cons d_int (a_cons (d_op od_pow d_int d_int) a_nil)))))
 (ss_cons (s_if (dt_cmp (od_eq hr) (d_call F__law_draw (hr.mono (by (first | lia | omega))) (a_cons (d_var 1) (a_cons d_int (a_cons d_int a_nil)))) d_int (nomark _)) (ss_cons (s_set (i := 3) sc__law_odd_leaf.nd (d_op od_add d_int (d_op od_mod (d_var 2) d_int)))
 (ss_one (s_ret (d_op od_add (d_op od_add (d_op od_mulB d_str (d_var 3)) d_str) (d_op od_mulB d_str (d_op od_sub (d_var 3) (d_op od_mod (d_op od_fdiv (d_var 2) d_int) d_int))))))) ss_nil)
 (ss_cons (s_set (i := 4) sc__law_odd_leaf.nd (d_lst (a_cons (d_op od_add d_str (d_callTy cd_str rfl m_str bt_str (a_cons (d_var 2) a_nil))) (a_cons (d_op od_add d_str (d_callTy cd_str rfl m_str bt_str (a_cons (d_op od_add (d_op od_add (d_op od_pow d_int d_int) d_int) (d_var 2)) a_nil))) (a_cons (d_op od_add d_str (d_callTy cd_str rfl m_str bt_str (a_cons (d_op od_sub (d_op od_pow d_int d_int) (d_var 2)) a_nil))) (a_cons (d_op od_add (d_op od_mulB d_str d_int) (d_ix d_str (d_op od_mod (d_var 2) d_int))) a_nil))))))
 (ss_cons (s_set (i := 4) sc__law_odd_leaf.nd (d_op od_add (d_var 4) (d_lst (a_cons (d_op od_add (d_op od_mulB d_str d_int) (d_ix d_str (d_op od_mod (d_var 2) d_int))) (a_cons d_str (a_cons d_str (a_cons d_str (a_cons d_str (a_cons d_str (a_cons d_str (a_cons d_str a_nil)))))))))))
 (ss_cons (s_set (i := 5) sc__law_odd_leaf.nd (d_op od_add (d_lst (a_cons d_int a_nil)) (d_compR (Nc := ["k", "text"]) (js := [none, some 0]) (comp_okF ["text", "cell", "n", "deep", "some", "spots", "at"] (defScope s__law_odd_leaf).names rfl rfl rfl rfl (by decide +kernel) (by decide +kernel) (by decide +kernel) rfl (by decide +kernel)) rfl m_range (a_cons (d_callB cd_len rfl m_len bt_len (a_cons (d_var 0) a_nil)) a_nil) (fun C s H fp => (g_name (i := 0) (by show List.Nodup (["k", "text"] : List Str); decide +kernel))) (fun C s H fp => Or.inr ⟨_, rfl, (dt_cmp (od_inX hr) (d_ix (d_var 1) (d_var 0)) d_str (rfl))⟩) (fun C s H fp => (d_op od_add (d_var 0) d_int)))))
 (ss_cons (s_set (i := 6) sc__law_odd_leaf.nd (d_ix (d_var 5) (d_call F__law_draw (hr.mono (by (first | lia | omega))) (a_cons (d_var 1) (a_cons d_int (a_cons (d_callB cd_len rfl m_len bt_len (a_cons (d_var 5) a_nil)) a_nil))))))
 (ss_one (s_ret (d_op od_add (d_op od_add (d_op od_add (d_sl sd_sl (d_var 0) o_none (o_some (d_var 6))) (d_ix (d_var 4) (d_call F__law_draw (hr.mono (by (first | lia | omega))) (a_cons (d_var 1) (a_cons d_int (a_cons (d_callB cd_len rfl m_len bt_len (a_cons (d_var 4) a_nil)) a_nil)))))) d_str) (d_sl sd_sl (d_var 0) (o_some (d_var 6)) o_none)))))))))), fun ds M Q h => ?_⟩
  · obtain ⟨z, c, rfl, _⟩ := h; rfl
  · refine el_2_3 h ?_; clear h; intro z c zq339 hz q
    obtain rfl := zq339
    have hp6 : CPow 10 6 := ⟨by decide, by decide, by decide⟩
    refine in_ceeeccc hp6 c 43 ((10 : Int) ^ (6 : Int).toNat) rfl (⟨by decide, by decide⟩) (by decide) (fun n n0 n1 => ?_)
    have e6 : (10 : Int) ^ (6 : Int).toNat = 1000000 := by decide
    rw [e6] at n1
    refine in_eeeccc c 46 8 rfl (⟨by decide, by decide⟩) (by decide) (fun r h0 h1 => ?_)
    show if decide (r = 1) = true then _ else _
    by_cases hr1 : r = 1
    · first | refine ifT hr1 ?_ | rw [decide_eq_true hr1, if_pos rfl]
      have hm0 : 0 ≤ n % 600 ∧ n % 600 < 600 := ⟨by (first | lia | omega), by (first | lia | omega)⟩
      refine ⟨by show (0 : Int) < 600; decide, ⟨by show 2 ≤ 10000; decide, by (first | lia | omega), by (first | lia | omega)⟩, ?_⟩
      have l1 := DL.mul_len (Str.ofString "a(") (29 + n % 600)
      have l1' : (Txt.mul (Str.ofString "a(") (29 + n % 600)).length ≤ 2 * (29 + n % 600).toNat + 2 := l1
      have l2 := DL.mul_len (Str.ofString ")") (29 + n % 600 - n / 600 % 2)
      have l2' : (Txt.mul (Str.ofString ")") (29 + n % 600 - n / 600 % 2)).length ≤ 1 * (29 + n % 600 - n / 600 % 2).toNat + 1 := l2
      refine ⟨by show _ + 1 ≤ _; exact len14 (by (first | lia | omega)), ⟨by decide, by decide⟩, by show (0 : Int) < 2; decide, ⟨by show 1 ≤ 10000; decide, by (first | lia | omega), by (first | lia | omega)⟩, ?_⟩
      refine ⟨by rw [str_app]; show _ + 1 + _ ≤ _; exact len14 (by (first | lia | omega)), ?_⟩
      refine rt_done (q _ ?_)
      rw [str_app, str_app]
      show _ + 1 + _ ≤ _
      (first | lia | omega)
    · first | refine ifF hr1 ?_ | rw [decide_eq_false hr1, if_neg Bool.false_ne_true]
      have hp9 : CPow 10 9 := ⟨by decide, by decide, by decide⟩
      have e9 : (10 : Int) ^ (9 : Int).toNat = 1000000000 := by decide
      have hn2 : 0 ≤ n % 2 ∧ n % 2 < 2 := ⟨by (first | lia | omega), by (first | lia | omega)⟩
      obtain ⟨sg, hsg⟩ : ∃ k : Nat, atI (Str.ofString "b7").cps.toList (n % 2) = some k := by
        have : n % 2 = 0 ∨ n % 2 = 1 := by (first | lia | omega)
        rcases this with e | e <;> rw [e] <;> exact ⟨_, rfl⟩
      have b1 : (10 : Int) ^ (9 : Int).toNat + 1 + n < 10 ^ 10 ∧ 0 ≤ (10 : Int) ^ (9 : Int).toNat + 1 + n := by rw [e9]; (first | lia | omega)
      have b2 : (10 : Int) ^ (9 : Int).toNat - n < 10 ^ 10 ∧ 0 ≤ (10 : Int) ^ (9 : Int).toNat - n := by rw [e9]; (first | lia | omega)
      have c0 := num10 (n := n) (by (first | lia | omega)) (by (first | lia | omega))
      have c1 := num10 b1.2 b1.1
      have c2 := num10 b2.2 b2.1
      have c3 : (Txt.mul (Str.ofString "a") 12).length ≤ 1 * 12 + 1 := DL.mul_len (Str.ofString "a") 12
      have c4 : (Txt.mul (Str.ofString "a") 11).length ≤ 1 * 11 + 1 := DL.mul_len (Str.ofString "a") 11
      refine ⟨⟨by (first | lia | omega), by (first | lia | omega)⟩, by show 2 + _ ≤ _; exact line1000 (by (first | lia | omega)), hp9, ⟨b1.2, b1.1⟩, by show 1 + _ ≤ _; exact line1000 (by (first | lia | omega)), hp9, ⟨b2.2, b2.1⟩, by show 1 + _ ≤ _; exact line1000 (by (first | lia | omega)), ⟨by decide, by decide, by decide⟩, by show (0 : Int) < 2; decide, by decide +kernel, sg, hsg, by show _ + 1 ≤ _; exact line1000 (by (first | lia | omega)), ?_⟩
      show ∀ p, M p = none → _
      intro p1 hp1
      refine ⟨⟨by decide, by decide, by decide⟩, by show (0 : Int) < 2; decide, by decide +kernel, sg, hsg, by show _ + 1 ≤ _; exact line1000 (by (first | lia | omega)), ?_⟩
      show ∀ p, _ = none → _
      intro p2 hp2
      refine in_eeccc _ _ (Sub.new hp2 _ _ updM_same) updM_same (by show 4 + 8 ≤ sizeLine; decide) (fun p3 hp3 => ?_)
      have hS3 : Sub M (updM (updM (updM M p1 (.lst [D.str (Str.ofString "?0" ++ numT n), D.str (Str.ofString "?" ++ numT ((10 : Int) ^ (9 : Int).toNat + 1 + n)), D.str (Str.ofString "?" ++ numT ((10 : Int) ^ (9 : Int).toNat - n)), D.str (Txt.mul (Str.ofString "a") 12 ++ (⟨#[sg]⟩ : Str))])) p2 (.lst [D.str (Txt.mul (Str.ofString "a") 11 ++ (⟨#[sg]⟩ : Str)), D.str (Str.ofString "b,b,b,b,b,b,b,b,b"), D.str (Str.ofString "a()"), D.str (Str.ofString "?"), D.str (Str.ofString "b(c"), D.str (Str.ofString "?1(b)"), D.str (Str.ofString "b(c,)"), D.str (Str.ofString "7")])) p3 (.lst ([D.str (Str.ofString "?0" ++ numT n), D.str (Str.ofString "?" ++ numT ((10 : Int) ^ (9 : Int).toNat + 1 + n)), D.str (Str.ofString "?" ++ numT ((10 : Int) ^ (9 : Int).toNat - n)), D.str (Txt.mul (Str.ofString "a") 12 ++ (⟨#[sg]⟩ : Str))] ++ [D.str (Txt.mul (Str.ofString "a") 11 ++ (⟨#[sg]⟩ : Str)), D.str (Str.ofString "b,b,b,b,b,b,b,b,b"), D.str (Str.ofString "a()"), D.str (Str.ofString "?"), D.str (Str.ofString "b(c"), D.str (Str.ofString "?1(b)"), D.str (Str.ofString "b(c,)"), D.str (Str.ofString "7")]))) := ((Sub.new hp1).trans (Sub.new hp2)).trans (Sub.new hp3)
      have hX3 : updM (updM (updM M p1 (.lst [D.str (Str.ofString "?0" ++ numT n), D.str (Str.ofString "?" ++ numT ((10 : Int) ^ (9 : Int).toNat + 1 + n)), D.str (Str.ofString "?" ++ numT ((10 : Int) ^ (9 : Int).toNat - n)), D.str (Txt.mul (Str.ofString "a") 12 ++ (⟨#[sg]⟩ : Str))])) p2 (.lst [D.str (Txt.mul (Str.ofString "a") 11 ++ (⟨#[sg]⟩ : Str)), D.str (Str.ofString "b,b,b,b,b,b,b,b,b"), D.str (Str.ofString "a()"), D.str (Str.ofString "?"), D.str (Str.ofString "b(c"), D.str (Str.ofString "?1(b)"), D.str (Str.ofString "b(c,)"), D.str (Str.ofString "7")])) p3 (.lst ([D.str (Str.ofString "?0" ++ numT n), D.str (Str.ofString "?" ++ numT ((10 : Int) ^ (9 : Int).toNat + 1 + n)), D.str (Str.ofString "?" ++ numT ((10 : Int) ^ (9 : Int).toNat - n)), D.str (Txt.mul (Str.ofString "a") 12 ++ (⟨#[sg]⟩ : Str))] ++ [D.str (Txt.mul (Str.ofString "a") 11 ++ (⟨#[sg]⟩ : Str)), D.str (Str.ofString "b,b,b,b,b,b,b,b,b"), D.str (Str.ofString "a()"), D.str (Str.ofString "?"), D.str (Str.ofString "b(c"), D.str (Str.ofString "?1(b)"), D.str (Str.ofString "b(c,)"), D.str (Str.ofString "7")])) p3 = some (.lst ([D.str (Str.ofString "?0" ++ numT n), D.str (Str.ofString "?" ++ numT ((10 : Int) ^ (9 : Int).toNat + 1 + n)), D.str (Str.ofString "?" ++ numT ((10 : Int) ^ (9 : Int).toNat - n)), D.str (Txt.mul (Str.ofString "a") 12 ++ (⟨#[sg]⟩ : Str))] ++ [D.str (Txt.mul (Str.ofString "a") 11 ++ (⟨#[sg]⟩ : Str)), D.str (Str.ofString "b,b,b,b,b,b,b,b,b"), D.str (Str.ofString "a()"), D.str (Str.ofString "?"), D.str (Str.ofString "b(c"), D.str (Str.ofString "?1(b)"), D.str (Str.ofString "b(c,)"), D.str (Str.ofString "7")])) := updM_same
      have hxl : ∀ d ∈ ([D.str (Str.ofString "?0" ++ numT n), D.str (Str.ofString "?" ++ numT ((10 : Int) ^ (9 : Int).toNat + 1 + n)), D.str (Str.ofString "?" ++ numT ((10 : Int) ^ (9 : Int).toNat - n)), D.str (Txt.mul (Str.ofString "a") 12 ++ (⟨#[sg]⟩ : Str))] ++ [D.str (Txt.mul (Str.ofString "a") 11 ++ (⟨#[sg]⟩ : Str)), D.str (Str.ofString "b,b,b,b,b,b,b,b,b"), D.str (Str.ofString "a()"), D.str (Str.ofString "?"), D.str (Str.ofString "b(c"), D.str (Str.ofString "?1(b)"), D.str (Str.ofString "b(c,)"), D.str (Str.ofString "7")] : List D), ∃ z : Str, d = .str z ∧ z.length ≤ 30 := fun d hd => by
        simp only [List.cons_append, List.nil_append, List.mem_cons, List.not_mem_nil, or_false] at hd
        rcases hd with rfl | rfl | rfl | rfl | rfl | rfl | rfl | rfl | rfl | rfl | rfl | rfl
        · exact ⟨_, rfl, by rw [str_app]; show 2 + _ ≤ _; (first | lia | omega)⟩
        · exact ⟨_, rfl, by rw [str_app]; show 1 + _ ≤ _; (first | lia | omega)⟩
        · exact ⟨_, rfl, by rw [str_app]; show 1 + _ ≤ _; (first | lia | omega)⟩
        · exact ⟨_, rfl, by rw [str_app]; show _ + 1 ≤ _; (first | lia | omega)⟩
        · exact ⟨_, rfl, by rw [str_app]; show _ + 1 ≤ _; (first | lia | omega)⟩
        · exact in_ec _ rfl (by decide +kernel)
        · exact in_ec _ rfl (by decide +kernel)
        · exact in_ec _ rfl (by decide +kernel)
        · exact in_ec _ rfl (by decide +kernel)
        · exact in_ec _ rfl (by decide +kernel)
        · exact in_ec _ rfl (by decide +kernel)
        · exact in_ec _ rfl (by decide +kernel)
      have hx12 : ([D.str (Str.ofString "?0" ++ numT n), D.str (Str.ofString "?" ++ numT ((10 : Int) ^ (9 : Int).toNat + 1 + n)), D.str (Str.ofString "?" ++ numT ((10 : Int) ^ (9 : Int).toNat - n)), D.str (Txt.mul (Str.ofString "a") 12 ++ (⟨#[sg]⟩ : Str))] ++ [D.str (Txt.mul (Str.ofString "a") 11 ++ (⟨#[sg]⟩ : Str)), D.str (Str.ofString "b,b,b,b,b,b,b,b,b"), D.str (Str.ofString "a()"), D.str (Str.ofString "?"), D.str (Str.ofString "b(c"), D.str (Str.ofString "?1(b)"), D.str (Str.ofString "b(c,)"), D.str (Str.ofString "7")] : List D).length = 12 := rfl
      dsimp only [DL.hName]
      generalize updM (updM (updM M p1 (.lst [D.str (Str.ofString "?0" ++ numT n), D.str (Str.ofString "?" ++ numT ((10 : Int) ^ (9 : Int).toNat + 1 + n)), D.str (Str.ofString "?" ++ numT ((10 : Int) ^ (9 : Int).toNat - n)), D.str (Txt.mul (Str.ofString "a") 12 ++ (⟨#[sg]⟩ : Str))])) p2 (.lst [D.str (Txt.mul (Str.ofString "a") 11 ++ (⟨#[sg]⟩ : Str)), D.str (Str.ofString "b,b,b,b,b,b,b,b,b"), D.str (Str.ofString "a()"), D.str (Str.ofString "?"), D.str (Str.ofString "b(c"), D.str (Str.ofString "?1(b)"), D.str (Str.ofString "b(c,)"), D.str (Str.ofString "7")])) p3 (.lst ([D.str (Str.ofString "?0" ++ numT n), D.str (Str.ofString "?" ++ numT ((10 : Int) ^ (9 : Int).toNat + 1 + n)), D.str (Str.ofString "?" ++ numT ((10 : Int) ^ (9 : Int).toNat - n)), D.str (Txt.mul (Str.ofString "a") 12 ++ (⟨#[sg]⟩ : Str))] ++ [D.str (Txt.mul (Str.ofString "a") 11 ++ (⟨#[sg]⟩ : Str)), D.str (Str.ofString "b,b,b,b,b,b,b,b,b"), D.str (Str.ofString "a()"), D.str (Str.ofString "?"), D.str (Str.ofString "b(c"), D.str (Str.ofString "?1(b)"), D.str (Str.ofString "b(c,)"), D.str (Str.ofString "7")])) = M3 at *
      generalize ([D.str (Str.ofString "?0" ++ numT n), D.str (Str.ofString "?" ++ numT ((10 : Int) ^ (9 : Int).toNat + 1 + n)), D.str (Str.ofString "?" ++ numT ((10 : Int) ^ (9 : Int).toNat - n)), D.str (Txt.mul (Str.ofString "a") 12 ++ (⟨#[sg]⟩ : Str))] ++ [D.str (Txt.mul (Str.ofString "a") 11 ++ (⟨#[sg]⟩ : Str)), D.str (Str.ofString "b,b,b,b,b,b,b,b,b"), D.str (Str.ofString "a()"), D.str (Str.ofString "?"), D.str (Str.ofString "b(c"), D.str (Str.ofString "?1(b)"), D.str (Str.ofString "b(c,)"), D.str (Str.ofString "7")] : List D) = xs at *
      show ∀ p, M3 p = none → _
      intro p4 hp4
      refine ⟨by have h3 : sizeLine = 16777216 := sizeLine_eq; (first | lia | omega), ⟨by (first | lia | omega), by (first | lia | omega)⟩, by rw [List.length_map, List.length_range]; (first | lia | omega), fO z, fun d hd p acc hp => ?_, fun p5 hp5 => ?_⟩
      · refine el_1_2 (List.mem_map.mp hd) ?_; intro k hk zq340
        obtain rfl := zq340
        rw [List.mem_range] at hk
        have hk' : k < z.cps.toList.length := by
          have : z.length = z.cps.toList.length := by show z.cps.size = _; simp
          (first | lia | omega)
        refine ⟨Fgt.set rfl, by have h3 : sizeLine = 16777216 := sizeLine_eq; (first | lia | omega), z.cps.toList[k], atI_nat (List.getElem?_eq_getElem hk'), z.cps.toList[k], rfl, ?_⟩
        have ef : fO z (.int (k : Nat)) = if decide (z.cps.toList[k] ∈ (Str.ofString "(,").cps.toList) = true then some (.int ((k : Int) + 1)) else none := by
          show (match atI z.cps.toList (k : Int) with | some c => if decide (c ∈ (Str.ofString "(,").cps.toList) = true then some (D.int ((k : Int) + 1)) else none | none => none) = _
          rw [atI_nat (List.getElem?_eq_getElem hk')]
        show if decide (z.cps.toList[k] ∈ (Str.ofString "(,").cps.toList) = true then _ else _
        by_cases hin : decide (z.cps.toList[k] ∈ (Str.ofString "(,").cps.toList) = true
        · rw [if_pos hin]; exact ⟨rfl, by rw [ef, if_pos hin]⟩
        · rw [if_neg hin]; exact ⟨rfl, by rw [ef, if_neg hin]⟩
      · generalize hzs : ((List.range ((z.length : Nat) : Int).toNat).map fun i : Nat => D.int (i : Int)).filterMap (fO z) = zs at *
        have hzi : ∀ d ∈ zs, ∃ k : Int, d = .int k := fun d hd => by
          rw [← hzs] at hd
          refine el_1_2 (List.mem_filterMap.mp hd) ?_; intro x _ hx
          exact fO_int z hx
        have hzl : zs.length ≤ z.length := by
          rw [← hzs]
          have := List.length_filterMap_le (fO z) ((List.range ((z.length : Nat) : Int).toNat).map fun i : Nat => D.int (i : Int))
          rw [List.length_map, List.length_range] at this
          (first | lia | omega)
        refine ⟨[.int 0], zs, Sub.new hp5 _ _ updM_same, updM_same, by show 1 + _ ≤ _; exact len14 (by (first | lia | omega)), fun p6 hp6 => ?_⟩
        have hS6 := ((Sub.new (o := .lst [.int 0]) hp4).trans (Sub.new (o := .lst zs) hp5)).trans (Sub.new (o := .lst ([.int 0] ++ zs)) hp6)
        have hX6 := hS6 _ _ hX3
        have hS6' := hS3.trans hS6
        have hY6 : updM (updM (updM M3 p4 (.lst [.int 0])) p5 (.lst zs)) p6 (.lst ([.int 0] ++ zs)) p6 = some (.lst ([.int 0] ++ zs)) := updM_same
        generalize updM (updM (updM M3 p4 (.lst [.int 0])) p5 (.lst zs)) p6 (.lst ([.int 0] ++ zs)) = M6 at *
        have hyi : ∀ d ∈ ([.int 0] ++ zs : List D), ∃ k : Int, d = .int k := fun d hd => by
          rcases List.mem_append.mp hd with h | h
          · exact ⟨0, by simpa using h⟩
          · exact hzi d h
        have hyl : ([.int 0] ++ zs : List D).length = zs.length + 1 := by rw [List.length_append]; show 1 + _ = _; (first | lia | omega)
        generalize ([.int 0] ++ zs : List D) = ys at *
        refine ⟨_, hY6, c, 44, _, rfl, ⟨by decide, by decide⟩, by rw [hyl]; (first | lia | omega), fun r2 a0 a1 => ?_⟩
        refine el_1_2 (list_some a0 a1) ?_; intro d hd1 hd2
        refine el_1_1 (hyi d hd2) ?_; intro at_ zq341
        obtain rfl := zq341
        refine in_eecc _ _ hY6 hd1 ?_
        have l1 := Txt.slice_le z none (some at_)
        have l2 := Txt.slice_le z (some at_) none
        refine ⟨by have h3 : sizeLine = 16777216 := sizeLine_eq; (first | lia | omega), _, hX6, c, 45, _, rfl, ⟨by decide, by decide⟩, by rw [hx12]; decide, fun r3 b0 b1 => ?_⟩
        refine el_1_2 (list_some b0 b1) ?_; intro d3 hd3 hm3
        refine el_1_2 (hxl d3 hm3) ?_; intro z3 zq342 hz3
        obtain rfl := zq342
        refine in_eecc _ _ hX6 hd3 ?_
        show (Txt.slice z none (some at_)).length + z3.length ≤ sizeLine ∧ (Txt.slice z none (some at_) ++ z3).length + (Str.ofString ",").length ≤ sizeLine ∧ z.length ≤ sizeLine ∧ (Txt.slice z none (some at_) ++ z3 ++ Str.ofString ",").length + (Txt.slice z (some at_) none).length ≤ sizeLine ∧ (endsOf Q).rt (.str (Txt.slice z none (some at_) ++ z3 ++ Str.ofString "," ++ Txt.slice z (some at_) none)) M6
        refine ⟨len14 (by (first | lia | omega)), by rw [str_app]; show _ + 1 ≤ _; exact len14 (by (first | lia | omega)), len14 (by (first | lia | omega)), by rw [str_app, str_app]; show _ + 1 + _ ≤ _; exact len14 (by (first | lia | omega)), M, hS6', q _ ?_⟩
        rw [str_app, str_app, str_app]; show _ + 1 + _ ≤ _; (first | lia | omega)
noncomputable def spSpo : SpD := fun ds M Q => ∃ (z : Str) (l : Addr) (cells : List Int) (first : Int), ds = [.str z, .ref l, .int first] ∧ M l = some (.lst (cells.map .int)) ∧ z.length ≤ 9000 ∧ ∀ z' : Str, z'.length ≤ 80000 → Q (.str z') M
theorem ok_spo (T : Txt K mg) (F__law_draw : FnD P w K mg base 1 "_law_draw" ["cell", "k", "many"] spDraw) : FnD P w K mg base 2 "_law_spoiled" ["text", "cells", "first"] spSpo := by
  have m_len := T.m_len
  refine def_ok T.f__law_spoiled sc__law_spoiled (fun ds M Q h => ?_) fun f cdv A outer s H E hr => ⟨_, (ss_cons (s_set (i := 3) sc__law_spoiled.nd (d_call F__law_draw (hr.mono (by (first | lia | omega))) (a_cons (d_var 2) (a_cons d_int (a_cons d_int a_nil)))))
 (ss_cons (s_for PassesOwn.never rfl (d_sl sd_sl (d_var 1) o_none (o_some (d_var 3))) (g_name (i := 4) sc__law_spoiled.nd) (ss_cons (s_set (i := 5) sc__law_spoiled.nd d_str)
 (ss_cons (s_set (i := 6) sc__law_spoiled.nd (d_ix (d_var 5) (d_call F__law_draw (hr.mono (by (first | lia | omega))) (a_cons (d_var 4) (a_cons d_int (a_cons (d_callB cd_len rfl m_len bt_len (a_cons (d_var 5) a_nil)) a_nil))))))
 (ss_cons (s_set (i := 7) sc__law_spoiled.nd (d_call F__law_draw (hr.mono (by (first | lia | omega))) (a_cons (d_var 4) (a_cons d_int (a_cons (d_op od_add (d_callB cd_len rfl m_len bt_len (a_cons (d_var 0) a_nil)) d_int) a_nil)))))
 (ss_cons (s_set (i := 8) sc__law_spoiled.nd (d_call F__law_draw (hr.mono (by (first | lia | omega))) (a_cons (d_var 4) (a_cons d_int (a_cons d_int a_nil)))))
 (ss_one (s_if (dt_cmp (od_eq hr) (d_var 8) d_int (nomark _)) (ss_one (s_set (i := 0) sc__law_spoiled.nd (d_op od_add (d_op od_add (d_sl sd_sl (d_var 0) o_none (o_some (d_var 7))) (d_var 6)) (d_sl sd_sl (d_var 0) (o_some (d_var 7)) o_none)))) (ss_one (s_if (dt_cmp (od_eq hr) (d_var 8) d_int (nomark _)) (ss_one (s_set (i := 0) sc__law_spoiled.nd (d_op od_add (d_sl sd_sl (d_var 0) o_none (o_some (d_var 7))) (d_sl sd_sl (d_var 0) (o_some (d_op od_add (d_var 7) d_int)) o_none)))) (ss_one (s_set (i := 0) sc__law_spoiled.nd (d_op od_add (d_op od_add (d_sl sd_sl (d_var 0) o_none (o_some (d_var 7))) (d_var 6)) (d_sl sd_sl (d_var 0) (o_some (d_op od_add (d_var 7) d_int)) o_none)))))))))))))
 (ss_one (s_ret (d_var 0))))), fun ds M Q h => ?_⟩
  · obtain ⟨z, l, cells, first, rfl, _⟩ := h; rfl
  · refine el_4_4 h ?_; clear h; intro z l cells first zq343 hl hz q
    obtain rfl := zq343
    refine in_eeeccc first 54 4 rfl (⟨by decide, by decide⟩) (by decide) (fun left h0 h1 => ?_)
    refine el_1_1 (Int.eq_ofNat_of_zero_le h0) ?_; intro n zq344
    obtain rfl := zq344
    refine in_ec _ hl (fun p hp => ?_)
    rw [cut_take, ← List.map_take]
    have hS0 : Sub M (updM M p (.lst ((cells.take n).map D.int))) := Sub.new hp
    have hP0 : updM M p (.lst ((cells.take n).map D.int)) p = some (.lst ((cells.take n).map D.int)) := updM_same
    generalize updM M p (.lst ((cells.take n).map D.int)) = M0 at *
    have hlen : ((cells.take n).map D.int).length ≤ 3 := by rw [List.length_map, List.length_take]; (first | lia | omega)
    have hs : (Str.ofString "abz?0123456789(),(),,)) !\"#$&'*+-./:;<=>@AZ[\\]^_`{|}~").length ≤ 100 ∧ 0 < (Str.ofString "abz?0123456789(),(),,)) !\"#$&'*+-./:;<=>@AZ[\\]^_`{|}~").length := by decide +kernel
    generalize Str.ofString "abz?0123456789(),(),,)) !\"#$&'*+-./:;<=>@AZ[\\]^_`{|}~" = SM at *
    have hpw : ∀ i : Nat, i ≤ 3 → 9001 * 2 ^ i ≤ 80000 := by decide
    refine ⟨_, hP0, fun i τ M' => ∃ (z : Str) (v4 v5 v6 v7 v8 : Option D), M' = M0 ∧ z.length + 1 ≤ 9001 * 2 ^ i ∧ τ = [some (.str z), some (.ref l), some (.int first), some (.int (n : Nat)), v4, v5, v6, v7, v8], ⟨z, none, none, none, none, none, rfl, by show _ ≤ 9001 * 1; (first | lia | omega), rfl⟩, fun i τ M' _ ⟨_, _, _, _, _, _, e, _⟩ => by rw [e]; exact hP0, ?_, ?_⟩
    · intro i d τ M' ed zr345
      refine el_6_3 zr345 ?_; clear zr345; intro z v4 v5 v6 v7 v8 zq346 hz zq347
      obtain rfl := zq346
      obtain rfl := zq347
      have hi : i < ((cells.take n).map D.int).length := (List.getElem?_eq_some_iff.mp ed).1
      rw [List.getElem?_map] at ed
      cases ec : (cells.take n)[i]? with
      | none => rw [ec] at ed; cases ed
      | some c =>
      rw [ec] at ed
      cases ed
      have hp2 := hpw i (by (first | lia | omega))
      have hp3 := hpw (i + 1) (by (first | lia | omega))
      have e2 : 9001 * 2 ^ (i + 1) = 9001 * 2 ^ i * 2 := by rw [Nat.pow_succ, Nat.mul_assoc]
      have sm : sizeLine = 16777216 := sizeLine_eq
      refine ⟨by (first | lia | omega), c, 40, _, rfl, ⟨by decide, by decide⟩, by (first | lia | omega), fun r h0 h1 => ?_⟩
      have hsl : SM.length = SM.cps.toList.length := by show SM.cps.size = _; simp
      obtain ⟨cc, hcc⟩ := at_some (xs := SM.cps.toList) (i := r) h0 (by (first | lia | omega))
      refine ⟨by (first | lia | omega), cc, hcc, by (first | lia | omega), c, 41, _, rfl, ⟨by decide, by decide⟩, by (first | lia | omega), fun at_ a0 a1 => ?_⟩
      refine in_eeeccc c 42 3 rfl (⟨by decide, by decide⟩) (by decide) (fun way w0 w1 => ?_)
      have l1 := Txt.slice_le z none (some at_)
      have l2 := Txt.slice_le z (some at_) none
      have l3 := Txt.slice_le z (some (at_ + 1)) none
      show if decide (way = 0) = true then _ else _
      by_cases hw0 : way = 0
      · first | refine ifT hw0 ?_ | rw [decide_eq_true hw0, if_pos rfl]
        refine ⟨by (first | lia | omega), by show _ + 1 ≤ _; (first | lia | omega), by (first | lia | omega), by rw [str_app]; show _ + 1 + _ ≤ _; (first | lia | omega), _, _, _, _, _, _, rfl, ?_, rfl⟩
        rw [str_app, str_app]; show _ + 1 + _ + 1 ≤ _; (first | lia | omega)
      · first | refine ifF hw0 ?_ | rw [decide_eq_false hw0, if_neg Bool.false_ne_true]
        show if decide (way = 1) = true then _ else _
        by_cases hw1 : way = 1
        · first | refine ifT hw1 ?_ | rw [decide_eq_true hw1, if_pos rfl]
          refine ⟨by (first | lia | omega), by (first | lia | omega), by (first | lia | omega), _, _, _, _, _, _, rfl, ?_, rfl⟩
          rw [str_app]; (first | lia | omega)
        · first | refine ifF hw1 ?_ | rw [decide_eq_false hw1, if_neg Bool.false_ne_true]
          refine ⟨by (first | lia | omega), by show _ + 1 ≤ _; (first | lia | omega), by (first | lia | omega), by rw [str_app]; show _ + 1 + _ ≤ _; (first | lia | omega), _, _, _, _, _, _, rfl, ?_, rfl⟩
          rw [str_app, str_app]; show _ + 1 + _ + 1 ≤ _; (first | lia | omega)
    · intro τ M' zr348
      refine el_6_3 zr348 ?_; clear zr348; intro z v4 v5 v6 v7 v8 zq349 hz zq350
      obtain rfl := zq349
      obtain rfl := zq350
      have := hpw _ hlen
      exact ⟨M, hS0, q z (by (first | lia | omega))⟩
theorem cut_map {α β : Type} (g : α → β) (xs : List α) (lo hi : Option Int) : DL.cutD (xs.map g) lo hi = (DL.cutD xs lo hi).map g := by
  unfold DL.cutD
  rw [List.length_map, ← List.map_drop, ← List.map_take]
theorem rd_got {cs : List Nat} {t : Tree} {r : List Nat} {k : Nat} (h : rd cs = .got t r k) : cs = enc t ∧ t.wf ∧ t.depth ≤ 30 ∧ t.knots ≤ 200 := by
  unfold rd at h
  cases er : rdT 31 cs 0 1 with
  | no e => rw [er] at h; cases h
  | got t' rest kn =>
    rw [er] at h
    refine el_0_6 (rdT_enc _ _ _ _ _ _ _ er) ?_; intro h1 h2 h3 _ h5 h6
    cases rest with
    | nil =>
      cases h
      exact ⟨by rw [h1, List.append_nil], h2, by (first | lia | omega), by (first | lia | omega)⟩
    | cons c s => cases h
theorem ok_law (T : Txt K mg) {qual : Str} {f : Addr} {fd : FuncData} (F : Fun K "law" qual s_law f fd) : FnOk P w K mg base CX0 kLaw f fd ["script"] (lowSp K spLaw) := by
  have F__law_draw := ok_draw (P := P) (w := w) (base := base) T
  have F__law_cell_at := ok_cell (P := P) (w := w) (base := base) T
  have F__law_names := ok_names (P := P) (w := w) (base := base) T F__law_draw
  have F__law_tree := ok_tree T F__law_draw F__law_names (ok_leaf T F__law_draw)
  have F__law_great := ok_great (P := P) (w := w) (base := base) T F__law_draw
  have F__law_text := ok_text (P := P) (w := w) (base := base) T 40
  have F__law_odd_leaf := ok_odd (P := P) (w := w) (base := base) T F__law_draw
  have F__law_spoiled := ok_spo (P := P) (w := w) (base := base) T F__law_draw
  have F__law_scan := ok_scan (P := P) (w := w) (base := base) T
  have F__law_refusal := ok_refu (P := P) (w := w) (base := base) T
  have F__law_is_tree := ok_isTr (P := P) (w := w) (base := base) T 30
  have F_read := ok_readG (P := P) (w := w) (base := base) T
  refine def_fn F sc_law (fun ds M Q h => ?_) fun cdv A outer s H E hr => ⟨_, (ss_cons (s_set (i := 1) sc_law.nd (d_call F__law_cell_at (hr.mono (by (first | lia | omega))) (a_cons (d_var 0) (a_cons d_int a_nil))))
 (ss_cons (s_set (i := 2) sc_law.nd (d_call F__law_tree (hr.mono (by (first | lia | omega))) (a_cons (d_sl sd_sl (d_var 0) (o_some d_int) o_none) (a_cons (d_var 1) (a_cons (d_call F__law_draw (hr.mono (by (first | lia | omega))) (a_cons (d_var 1) (a_cons d_int (a_cons d_int a_nil)))) a_nil)))))
 (ss_cons (s_if (dt_cmp (od_eqX hr) (d_call F__law_draw (hr.mono (by (first | lia | omega))) (a_cons (d_var 1) (a_cons d_int (a_cons d_int a_nil)))) d_int (nomark _)) (ss_one (s_set (i := 2) sc_law.nd (d_call F__law_great (hr.mono (by (first | lia | omega))) (a_cons (d_var 1) (a_cons (d_call F__law_names (hr.mono (by (first | lia | omega))) (a_cons (d_var 1) a_nil)) (a_cons (d_op od_add d_int (d_call F__law_draw (hr.mono (by (first | lia | omega))) (a_cons (d_var 1) (a_cons d_int (a_cons d_int a_nil))))) (a_cons (d_op od_add d_int (d_call F__law_draw (hr.mono (by (first | lia | omega))) (a_cons (d_var 1) (a_cons d_int (a_cons d_int a_nil))))) a_nil))))))) ss_nil)
 (ss_cons (s_set (i := 3) sc_law.nd (d_call F__law_text (hr.mono (by (first | lia | omega))) (a_cons (d_var 2) a_nil)))
 (ss_cons (s_if (dt_cmp (od_eqX hr) (d_call F__law_draw (hr.mono (by (first | lia | omega))) (a_cons (d_var 1) (a_cons d_int (a_cons d_int a_nil)))) d_int (nomark _)) (ss_one (s_set (i := 3) sc_law.nd (d_call F__law_odd_leaf (hr.mono (by (first | lia | omega))) (a_cons (d_var 3) (a_cons (d_call F__law_cell_at (hr.mono (by (first | lia | omega))) (a_cons (d_var 0) (a_cons d_int a_nil))) a_nil))))) ss_nil)
 (ss_cons (s_set (i := 3) sc_law.nd (d_call F__law_spoiled (hr.mono (by (first | lia | omega))) (a_cons (d_var 3) (a_cons (d_sl sd_sl (d_var 0) (o_some d_int) o_none) (a_cons (d_var 1) a_nil)))))
 (ss_cons (s_set (i := 4) sc_law.nd (d_call F__law_scan (hr.mono (by (first | lia | omega))) (a_cons (d_var 3) a_nil)))
 (ss_cons (s_set (i := 5) sc_law.nd (d_call F__law_refusal (hr.mono (by (first | lia | omega))) (a_cons (d_var 3) a_nil)))
 (ss_cons (s_if (dt_cmp (od_ne hr) (d_var 4) d_str (nomark _)) (ss_one (s_ret (d_cmp (od_eqX hr) (d_var 5) (d_lst (a_cons (d_cmp (od_eqX hr) (d_var 4) d_str (nomark _)) (a_cons (d_cmp (od_eqX hr) (d_var 4) d_str (nomark _)) (a_cons d_bl (a_cons d_bl (a_cons d_bl a_nil)))))) (nomark _)))) ss_nil)
 (ss_cons (s_if (dt_cmp (od_ne hr) (d_var 5) (d_lst a_nil) (nomark _)) (ss_one (s_ret d_bl)) ss_nil)
 (ss_cons (s_set (i := 6) sc_law.nd (d_call F_read (hr.mono (by (first | lia | omega))) (a_cons (d_var 3) a_nil)))
 (ss_one (s_ret (d_and (d_call F__law_is_tree (hr.mono (by (first | lia | omega))) (a_cons (d_var 6) a_nil)) (d_one (d_cmp (od_eqX hr) (d_call F__law_text (hr.mono (by (first | lia | omega))) (a_cons (d_var 6) a_nil)) (d_var 3) (nomark _))))))))))))))))), fun ds M Q h => ?_⟩
  · obtain ⟨ns, rfl, _⟩ := h; rfl
  · refine el_1_3 h ?_; clear h; intro ns zq351 hl q
    obtain rfl := zq351
    refine in_eecc ns 0 rfl (by decide) (fun first => ?_)
    show ∀ p, M p = none → _
    intro p hp
    refine in_eeeccc first 50 4 rfl (⟨by decide, by decide⟩) (by decide) (fun r h0 h1 => ?_)
    refine in_eeeecc p (DL.cutD ns (some 1) none) first _ rfl (by rw [updM_same, cut_map]) (fun n0 ps0 hk0 hd0 hw0 => ?_)
    have hM : Sub M (updM M p (.lst (DL.cutD (ns.map D.int) (some 1) none))) := Sub.new hp
    generalize updM M p (.lst (DL.cutD (ns.map D.int) (some 1) none)) = M1 at *
    have ht1 : (Tree.block n0 ps0).knots ≤ 210 := by rw [Tree.knots]; (first | lia | omega)
    have ht2 : (Tree.block n0 ps0).depth ≤ 40 := by rw [Tree.depth]; (first | lia | omega)
    generalize Tree.block n0 ps0 = t at *
    dsimp only [DL.hName]
    refine seq_any (fun τ' M' => ∃ t : Tree, Sub M M' ∧ t.knots ≤ 210 ∧ t.depth ≤ 40 ∧ t.wf ∧ τ' = [some (.rol (ns.map .int)), some (.int first), some t.d, none, none, none, none]) ?_ (fun R hR => ?_)
    · intro τ' M2 zr352
      refine el_1_5 zr352 ?_; clear zr352; intro t hS k1 k2 k3 zq353
      obtain rfl := zq353
      have hel := enc_len t k3
      refine ⟨t, rfl, k2, by (first | lia | omega), k3, ?_⟩
      dsimp only [DL.hName]
      refine seq_any (fun τ' M' => ∃ z : Str, Sub M M' ∧ z.length ≤ 9000 ∧ τ' = [some (.rol (ns.map .int)), some (.int first), some t.d, some (.str z), none, none, none]) ?_ (fun R hR => ?_)
      · intro τ' M3 zr354
        refine el_1_3 zr354 ?_; clear zr354; intro z hS3 hz zq355
        obtain rfl := zq355
        show ∀ p, M3 p = none → _
        intro p2 hp2
        refine in_eeeeccc z p2 (DL.cutD ns (some 1) none) first rfl (by rw [updM_same, cut_map]) hz (fun z2 hz2 => ?_)
        have hS4 := hS3.trans (Sub.new (o := .lst (DL.cutD (ns.map D.int) (some 1) none)) hp2)
        generalize updM M3 p2 (.lst (DL.cutD (ns.map D.int) (some 1) none)) = M4 at *
        obtain ⟨cs, rfl⟩ : ∃ cs, z2 = tx cs := ⟨z2.cps.toList, (tx_eta z2).symm⟩
        rw [tx_len] at hz2
        refine ⟨cs, rfl, by (first | lia | omega), ?_⟩
        refine ⟨cs, rfl, by (first | lia | omega), fun lw hlw => ?_⟩
        have hS5 := hS4.trans (Sub.new (o := .lst (refD (rd cs))) hlw)
        have hW5 : updM M4 lw (.lst (refD (rd cs))) lw = some (.lst (refD (rd cs))) := updM_same
        generalize updM M4 lw (.lst (refD (rd cs))) = M5 at *
        refine el_0_2 (rd_scan cs) ?_; intro a1 a2
        cases er : rd cs with
        | no e =>
          rw [a1 e er]
          rw [er] at hW5
          cases e with
          | true =>
            show ∀ p, M5 p = none → _
            intro p6 hp6
            exact in_eeccccec _ _ (Sub.new hp6 _ _ hW5) updM_same (by decide) (by decide) M (hS5.trans (Sub.new hp6)) q
          | false =>
            show ∀ p, M5 p = none → _
            intro p6 hp6
            exact in_eeccccec _ _ (Sub.new hp6 _ _ hW5) updM_same (by decide) (by decide) M (hS5.trans (Sub.new hp6)) q
        | got u r k =>
          rw [a2 u r k er]
          rw [er] at hW5
          refine el_0_4 (rd_got er) ?_; intro b1 b2 b3 b4
          show ∀ p, M5 p = none → _
          intro p6 hp6
          refine in_eeccc ([]) ([]) (Sub.new hp6 _ _ hW5) updM_same (.inl rfl) ?_
          have hS6 := hS5.trans (Sub.new (o := .lst []) hp6)
          generalize updM M5 p6 (.lst []) = M6 at *
          refine ⟨cs, u, r, k, rfl, by (first | lia | omega), er, ?_⟩
          refine ⟨u, rfl, by (first | lia | omega), by (first | lia | omega), ?_⟩
          refine ⟨u, rfl, by (first | lia | omega), by (first | lia | omega), b2, ?_⟩
          show (endsOf Q).rt (.bl (decide (tx (enc u) = tx cs))) M6
          rw [b1, decide_eq_true rfl]
          exact in_ec M hS6 q
      · refine in_eeeccc first 47 3 rfl (⟨by decide, by decide⟩) (by decide) (fun r2 c0 c1 => ?_)
        show if decide (r2 = 1) = true then _ else _
        by_cases c : r2 = 1
        · first | refine ifT c ?_ | rw [decide_eq_true c, if_pos rfl]
          refine in_eecc ns 1 rfl (by decide) (fun cell => ?_)
          exact ⟨_, cell, rfl, by rw [tx_len]; (first | lia | omega), fun z hz => hR _ _ ⟨z, hS, hz, rfl⟩⟩
        · first | refine ifF c ?_ | rw [decide_eq_false c, if_neg Bool.false_ne_true]
          exact hR _ _ ⟨tx (enc t), hS, by rw [tx_len]; (first | lia | omega), rfl⟩
    · refine in_eeeccc first 51 3 rfl (⟨by decide, by decide⟩) (by decide) (fun way g0 g1 => ?_)
      show if decide (way = 1) = true then _ else _
      by_cases c : way = 1
      · first | refine ifT c ?_ | rw [decide_eq_true c, if_pos rfl]
        refine in_ec first rfl (fun ln xs hln hx => ?_)
        refine in_eeeccc first 52 33 rfl (⟨by decide, by decide⟩) (by decide) (fun r2 a0 a1 => ?_)
        refine in_eeeccc first 53 8 rfl (⟨by decide, by decide⟩) (by decide) (fun r3 b0 b1 => ?_)
        exact ⟨first, _, _, ln, xs, rfl, updM_same, hx, by (first | lia | omega), by (first | lia | omega), by (first | lia | omega), by (first | lia | omega), fun t k2 k1 k3 => hR _ _ ⟨t, hM.trans (Sub.new hln), by (first | lia | omega), by (first | lia | omega), k3, rfl⟩⟩
      · first | refine ifF c ?_ | rw [decide_eq_false c, if_neg Bool.false_ne_true]
        exact hR _ _ ⟨t, hM, ht1, ht2, hw0, rfl⟩
end
theorem all_mk {l : PySem.W.OpenLaw} {w : World} {K : PySem.W.Frag} {h : Heap} {mg : Str → Option Value} {fa : Addr} (X : K.In h) (G : h.Ns mainGlobals mg) (hfa : mg "law" = some (.ref fa))
    {oC0 : Addr} {od0 an0 : Option Addr} {sl0 : Array (Option Value)} {oc0 kV0 dc0 pm0 cd0 ct0 : Value} {f0 : Addr} {od1 an1 : Option Addr} {sl1 : Array (Option Value)} {oc1 kV1 dc1 pm1 cd1 ct1 : Value} {f1 : Addr} {od2 an2 : Option Addr} {sl2 : Array (Option Value)} {oc2 kV2 dc2 pm2 cd2 ct2 : Value} {f2 : Addr} {od3 an3 : Option Addr} {sl3 : Array (Option Value)} {oc3 kV3 dc3 pm3 cd3 ct3 : Value} {f3 : Addr} {od4 an4 : Option Addr} {sl4 : Array (Option Value)} {oc4 kV4 dc4 pm4 cd4 ct4 : Value} {f4 : Addr} {od5 an5 : Option Addr} {sl5 : Array (Option Value)} {oc5 kV5 dc5 pm5 cd5 ct5 : Value} {f5 : Addr} {od6 an6 : Option Addr} {sl6 : Array (Option Value)} {oc6 kV6 dc6 pm6 cd6 ct6 : Value} {f6 : Addr} {od7 an7 : Option Addr} {sl7 : Array (Option Value)} {oc7 kV7 dc7 pm7 cd7 ct7 : Value} {f7 : Addr} {od8 an8 : Option Addr} {sl8 : Array (Option Value)} {oc8 kV8 dc8 pm8 cd8 ct8 : Value} {f8 : Addr} {od9 an9 : Option Addr} {sl9 : Array (Option Value)} {oc9 kV9 dc9 pm9 cd9 ct9 : Value} {f9 : Addr} {od10 an10 : Option Addr} {sl10 : Array (Option Value)} {oc10 kV10 dc10 pm10 cd10 ct10 : Value} {f10 : Addr} {od11 an11 : Option Addr} {sl11 : Array (Option Value)} {oc11 kV11 dc11 pm11 cd11 ct11 : Value} {f11 : Addr} {od12 an12 : Option Addr} {sl12 : Array (Option Value)} {oc12 kV12 dc12 pm12 cd12 ct12 : Value} {f12 : Addr} {od13 an13 : Option Addr} {sl13 : Array (Option Value)} {oc13 kV13 dc13 pm13 cd13 ct13 : Value} {f13 : Addr} {od14 an14 : Option Addr} {sl14 : Array (Option Value)} {oc14 kV14 dc14 pm14 cd14 ct14 : Value} {f14 : Addr} {od15 an15 : Option Addr} {sl15 : Array (Option Value)} {oc15 kV15 dc15 pm15 cd15 ct15 : Value} {f15 : Addr} {od16 an16 : Option Addr} {sl16 : Array (Option Value)} {oc16 kV16 dc16 pm16 cd16 ct16 : Value} {f16 : Addr} {od17 an17 : Option Addr} {sl17 : Array (Option Value)} {oc17 kV17 dc17 pm17 cd17 ct17 : Value} {f17 : Addr} {od18 an18 : Option Addr} {sl18 : Array (Option Value)} {oc18 kV18 dc18 pm18 cd18 ct18 : Value} {f18 : Addr} {od19 an19 : Option Addr} {sl19 : Array (Option Value)} {oc19 kV19 dc19 pm19 cd19 ct19 : Value} {f19 : Addr} {od20 an20 : Option Addr} {sl20 : Array (Option Value)} {oc20 kV20 dc20 pm20 cd20 ct20 : Value} {f20 : Addr} {od21 an21 : Option Addr} {sl21 : Array (Option Value)} {oc21 kV21 dc21 pm21 cd21 ct21 : Value} {f21 : Addr} {od22 an22 : Option Addr} {sl22 : Array (Option Value)} {oc22 kV22 dc22 pm22 cd22 ct22 : Value} {f22 : Addr} {od23 an23 : Option Addr} {sl23 : Array (Option Value)} {oc23 kV23 dc23 pm23 cd23 ct23 : Value} {f23 : Addr} {od24 an24 : Option Addr} {sl24 : Array (Option Value)} {oc24 kV24 dc24 pm24 cd24 ct24 : Value} {f24 : Addr} {od25 an25 : Option Addr} {sl25 : Array (Option Value)} {oc25 kV25 dc25 pm25 cd25 ct25 : Value} {f25 : Addr} {od26 an26 : Option Addr} {sl26 : Array (Option Value)} {oc26 kV26 dc26 pm26 cd26 ct26 : Value} {f26 : Addr} {od27 an27 : Option Addr} {sl27 : Array (Option Value)} {oc27 kV27 dc27 pm27 cd27 ct27 : Value} {f27 : Addr} {tk0 : Tok} {tk1 : Tok} {tk2 : Tok} {tk3 : Tok} {tk4 : Tok} {tk5 : Tok} {xa0 xa1 xa2 xa3 xa4 xa5 xa6 xa7 : Addr}
    (ka0 : PySem.W.nsIn K mainGlobals "Reader" = some (some (.ref oC0))) (kb0 : PySem.W.plainGet K oC0 Str.empty = true) (kc0 : PySem.W.hasDictIn K oC0 = true) (kd0 : PySem.W.plainOver K oC0 = true) (ke0 : PySem.W.findIn K (.ref oC0) "__setattr__" = some (some (.builtin "object.__setattr__"))) (kf0 : PySem.W.makesIn K oC0 = true) (kg0 : PySem.W.keepIn K (.ref oC0) = true)
    (kh0_0 : PySem.W.findIn K (.ref oC0) "at" = some none)
    (kh0_1 : PySem.W.findIn K (.ref oC0) "knots" = some none)
    (kh0_2 : PySem.W.findIn K (.ref oC0) "text" = some none)
    (a0 : PySem.W.nsIn K mainGlobals "is_letter" = some (some (.ref f0))) (l0 : K.lookup f0 = some ⟨oc0, od0, .func (PySem.W.fnOf "is_letter" "is_letter" (defArgs s_is_letter) (defBody s_is_letter) (defScope s_is_letter) .none kV0 dc0 pm0 an0 cd0 ct0), sl0⟩) (c0 : PySem.W.codeIn K cd0 "is_letter" = true) (k0 : PySem.W.keepIn K (.ref f0) = true)
    (a1 : PySem.W.nsIn K mainGlobals "is_figure" = some (some (.ref f1))) (l1 : K.lookup f1 = some ⟨oc1, od1, .func (PySem.W.fnOf "is_figure" "is_figure" (defArgs s_is_figure) (defBody s_is_figure) (defScope s_is_figure) .none kV1 dc1 pm1 an1 cd1 ct1), sl1⟩) (c1 : PySem.W.codeIn K cd1 "is_figure" = true) (k1 : PySem.W.keepIn K (.ref f1) = true)
    (a2 : PySem.W.nsIn K mainGlobals "is_name" = some (some (.ref f2))) (l2 : K.lookup f2 = some ⟨oc2, od2, .func (PySem.W.fnOf "is_name" "is_name" (defArgs s_is_name) (defBody s_is_name) (defScope s_is_name) .none kV2 dc2 pm2 an2 cd2 ct2), sl2⟩) (c2 : PySem.W.codeIn K cd2 "is_name" = true) (k2 : PySem.W.keepIn K (.ref f2) = true)
    (a3 : PySem.W.nsIn K mainGlobals "blank_number" = some (some (.ref f3))) (l3 : K.lookup f3 = some ⟨oc3, od3, .func (PySem.W.fnOf "blank_number" "blank_number" (defArgs s_blank_number) (defBody s_blank_number) (defScope s_blank_number) .none kV3 dc3 pm3 an3 cd3 ct3), sl3⟩) (c3 : PySem.W.codeIn K cd3 "blank_number" = true) (k3 : PySem.W.keepIn K (.ref f3) = true)
    (a4 : PySem.W.nsIn K mainGlobals "read" = some (some (.ref f4))) (l4 : K.lookup f4 = some ⟨oc4, od4, .func (PySem.W.fnOf "read" "read" (defArgs s_read) (defBody s_read) (defScope s_read) .none kV4 dc4 pm4 an4 cd4 ct4), sl4⟩) (c4 : PySem.W.codeIn K cd4 "read" = true) (k4 : PySem.W.keepIn K (.ref f4) = true)
    (a5 : PySem.W.nsIn K mainGlobals "_law_cell_at" = some (some (.ref f5))) (l5 : K.lookup f5 = some ⟨oc5, od5, .func (PySem.W.fnOf "_law_cell_at" "_law_cell_at" (defArgs s__law_cell_at) (defBody s__law_cell_at) (defScope s__law_cell_at) .none kV5 dc5 pm5 an5 cd5 ct5), sl5⟩) (c5 : PySem.W.codeIn K cd5 "_law_cell_at" = true) (k5 : PySem.W.keepIn K (.ref f5) = true)
    (a6 : PySem.W.nsIn K mainGlobals "_law_draw" = some (some (.ref f6))) (l6 : K.lookup f6 = some ⟨oc6, od6, .func (PySem.W.fnOf "_law_draw" "_law_draw" (defArgs s__law_draw) (defBody s__law_draw) (defScope s__law_draw) .none kV6 dc6 pm6 an6 cd6 ct6), sl6⟩) (c6 : PySem.W.codeIn K cd6 "_law_draw" = true) (k6 : PySem.W.keepIn K (.ref f6) = true)
    (a7 : PySem.W.nsIn K mainGlobals "_law_names" = some (some (.ref f7))) (l7 : K.lookup f7 = some ⟨oc7, od7, .func (PySem.W.fnOf "_law_names" "_law_names" (defArgs s__law_names) (defBody s__law_names) (defScope s__law_names) .none kV7 dc7 pm7 an7 cd7 ct7), sl7⟩) (c7 : PySem.W.codeIn K cd7 "_law_names" = true) (k7 : PySem.W.keepIn K (.ref f7) = true)
    (a8 : PySem.W.nsIn K mainGlobals "_law_leaf" = some (some (.ref f8))) (l8 : K.lookup f8 = some ⟨oc8, od8, .func (PySem.W.fnOf "_law_leaf" "_law_leaf" (defArgs s__law_leaf) (defBody s__law_leaf) (defScope s__law_leaf) .none kV8 dc8 pm8 an8 cd8 ct8), sl8⟩) (c8 : PySem.W.codeIn K cd8 "_law_leaf" = true) (k8 : PySem.W.keepIn K (.ref f8) = true)
    (a9 : PySem.W.nsIn K mainGlobals "_law_tree" = some (some (.ref f9))) (l9 : K.lookup f9 = some ⟨oc9, od9, .func (PySem.W.fnOf "_law_tree" "_law_tree" (defArgs s__law_tree) (defBody s__law_tree) (defScope s__law_tree) .none kV9 dc9 pm9 an9 cd9 ct9), sl9⟩) (c9 : PySem.W.codeIn K cd9 "_law_tree" = true) (k9 : PySem.W.keepIn K (.ref f9) = true)
    (a10 : PySem.W.nsIn K mainGlobals "_law_great" = some (some (.ref f10))) (l10 : K.lookup f10 = some ⟨oc10, od10, .func (PySem.W.fnOf "_law_great" "_law_great" (defArgs s__law_great) (defBody s__law_great) (defScope s__law_great) .none kV10 dc10 pm10 an10 cd10 ct10), sl10⟩) (c10 : PySem.W.codeIn K cd10 "_law_great" = true) (k10 : PySem.W.keepIn K (.ref f10) = true)
    (a11 : PySem.W.nsIn K mainGlobals "_law_text" = some (some (.ref f11))) (l11 : K.lookup f11 = some ⟨oc11, od11, .func (PySem.W.fnOf "_law_text" "_law_text" (defArgs s__law_text) (defBody s__law_text) (defScope s__law_text) .none kV11 dc11 pm11 an11 cd11 ct11), sl11⟩) (c11 : PySem.W.codeIn K cd11 "_law_text" = true) (k11 : PySem.W.keepIn K (.ref f11) = true)
    (a12 : PySem.W.nsIn K mainGlobals "_law_begun" = some (some (.ref f12))) (l12 : K.lookup f12 = some ⟨oc12, od12, .func (PySem.W.fnOf "_law_begun" "_law_begun" (defArgs s__law_begun) (defBody s__law_begun) (defScope s__law_begun) .none kV12 dc12 pm12 an12 cd12 ct12), sl12⟩) (c12 : PySem.W.codeIn K cd12 "_law_begun" = true) (k12 : PySem.W.keepIn K (.ref f12) = true)
    (a13 : PySem.W.nsIn K mainGlobals "_law_behind" = some (some (.ref f13))) (l13 : K.lookup f13 = some ⟨oc13, od13, .func (PySem.W.fnOf "_law_behind" "_law_behind" (defArgs s__law_behind) (defBody s__law_behind) (defScope s__law_behind) .none kV13 dc13 pm13 an13 cd13 ct13), sl13⟩) (c13 : PySem.W.codeIn K cd13 "_law_behind" = true) (k13 : PySem.W.keepIn K (.ref f13) = true)
    (a14 : PySem.W.nsIn K mainGlobals "_law_scan" = some (some (.ref f14))) (l14 : K.lookup f14 = some ⟨oc14, od14, .func (PySem.W.fnOf "_law_scan" "_law_scan" (defArgs s__law_scan) (defBody s__law_scan) (defScope s__law_scan) .none kV14 dc14 pm14 an14 cd14 ct14), sl14⟩) (c14 : PySem.W.codeIn K cd14 "_law_scan" = true) (k14 : PySem.W.keepIn K (.ref f14) = true)
    (a15 : PySem.W.nsIn K mainGlobals "_law_spoiled" = some (some (.ref f15))) (l15 : K.lookup f15 = some ⟨oc15, od15, .func (PySem.W.fnOf "_law_spoiled" "_law_spoiled" (defArgs s__law_spoiled) (defBody s__law_spoiled) (defScope s__law_spoiled) .none kV15 dc15 pm15 an15 cd15 ct15), sl15⟩) (c15 : PySem.W.codeIn K cd15 "_law_spoiled" = true) (k15 : PySem.W.keepIn K (.ref f15) = true)
    (a16 : PySem.W.nsIn K mainGlobals "_law_odd_leaf" = some (some (.ref f16))) (l16 : K.lookup f16 = some ⟨oc16, od16, .func (PySem.W.fnOf "_law_odd_leaf" "_law_odd_leaf" (defArgs s__law_odd_leaf) (defBody s__law_odd_leaf) (defScope s__law_odd_leaf) .none kV16 dc16 pm16 an16 cd16 ct16), sl16⟩) (c16 : PySem.W.codeIn K cd16 "_law_odd_leaf" = true) (k16 : PySem.W.keepIn K (.ref f16) = true)
    (a17 : PySem.W.nsIn K mainGlobals "_law_is_tree" = some (some (.ref f17))) (l17 : K.lookup f17 = some ⟨oc17, od17, .func (PySem.W.fnOf "_law_is_tree" "_law_is_tree" (defArgs s__law_is_tree) (defBody s__law_is_tree) (defScope s__law_is_tree) .none kV17 dc17 pm17 an17 cd17 ct17), sl17⟩) (c17 : PySem.W.codeIn K cd17 "_law_is_tree" = true) (k17 : PySem.W.keepIn K (.ref f17) = true)
    (a18 : PySem.W.nsIn K mainGlobals "_law_refusal" = some (some (.ref f18))) (l18 : K.lookup f18 = some ⟨oc18, od18, .func (PySem.W.fnOf "_law_refusal" "_law_refusal" (defArgs s__law_refusal) (defBody s__law_refusal) (defScope s__law_refusal) .none kV18 dc18 pm18 an18 cd18 ct18), sl18⟩) (c18 : PySem.W.codeIn K cd18 "_law_refusal" = true) (k18 : PySem.W.keepIn K (.ref f18) = true)
    (a19 : PySem.W.nsIn K mainGlobals "law" = some (some (.ref f19))) (l19 : K.lookup f19 = some ⟨oc19, od19, .func (PySem.W.fnOf "law" "law" (defArgs s_law) (defBody s_law) (defScope s_law) .none kV19 dc19 pm19 an19 cd19 ct19), sl19⟩) (c19 : PySem.W.codeIn K cd19 "law" = true) (k19 : PySem.W.keepIn K (.ref f19) = true)
    (a20 : PySem.W.findIn K (.ref oC0) "__init__" = some (some (.ref f20))) (i20 : PySem.W.isFn K (.ref f20) = true) (l20 : K.lookup f20 = some ⟨oc20, od20, .func (PySem.W.fnOf "__init__" "Reader.__init__" (defArgs s_Reader___init__) (defBody s_Reader___init__) (defScope s_Reader___init__) .none kV20 dc20 pm20 an20 cd20 ct20), sl20⟩) (c20 : PySem.W.codeIn K cd20 "Reader.__init__" = true) (k20 : PySem.W.keepIn K (.ref f20) = true)
    (a21 : PySem.W.findIn K (.ref oC0) "sign_here" = some (some (.ref f21))) (i21 : PySem.W.isFn K (.ref f21) = true) (l21 : K.lookup f21 = some ⟨oc21, od21, .func (PySem.W.fnOf "sign_here" "Reader.sign_here" (defArgs s_Reader_sign_here) (defBody s_Reader_sign_here) (defScope s_Reader_sign_here) .none kV21 dc21 pm21 an21 cd21 ct21), sl21⟩) (c21 : PySem.W.codeIn K cd21 "Reader.sign_here" = true) (k21 : PySem.W.keepIn K (.ref f21) = true)
    (a22 : PySem.W.findIn K (.ref oC0) "begin_knot" = some (some (.ref f22))) (i22 : PySem.W.isFn K (.ref f22) = true) (l22 : K.lookup f22 = some ⟨oc22, od22, .func (PySem.W.fnOf "begin_knot" "Reader.begin_knot" (defArgs s_Reader_begin_knot) (defBody s_Reader_begin_knot) (defScope s_Reader_begin_knot) .none kV22 dc22 pm22 an22 cd22 ct22), sl22⟩) (c22 : PySem.W.codeIn K cd22 "Reader.begin_knot" = true) (k22 : PySem.W.keepIn K (.ref f22) = true)
    (a23 : PySem.W.findIn K (.ref oC0) "read_tree" = some (some (.ref f23))) (i23 : PySem.W.isFn K (.ref f23) = true) (l23 : K.lookup f23 = some ⟨oc23, od23, .func (PySem.W.fnOf "read_tree" "Reader.read_tree" (defArgs s_Reader_read_tree) (defBody s_Reader_read_tree) (defScope s_Reader_read_tree) .none kV23 dc23 pm23 an23 cd23 ct23), sl23⟩) (c23 : PySem.W.codeIn K cd23 "Reader.read_tree" = true) (k23 : PySem.W.keepIn K (.ref f23) = true)
    (a24 : PySem.W.findIn K (.ref oC0) "read_blank" = some (some (.ref f24))) (i24 : PySem.W.isFn K (.ref f24) = true) (l24 : K.lookup f24 = some ⟨oc24, od24, .func (PySem.W.fnOf "read_blank" "Reader.read_blank" (defArgs s_Reader_read_blank) (defBody s_Reader_read_blank) (defScope s_Reader_read_blank) .none kV24 dc24 pm24 an24 cd24 ct24), sl24⟩) (c24 : PySem.W.codeIn K cd24 "Reader.read_blank" = true) (k24 : PySem.W.keepIn K (.ref f24) = true)
    (a25 : PySem.W.findIn K (.ref oC0) "read_block" = some (some (.ref f25))) (i25 : PySem.W.isFn K (.ref f25) = true) (l25 : K.lookup f25 = some ⟨oc25, od25, .func (PySem.W.fnOf "read_block" "Reader.read_block" (defArgs s_Reader_read_block) (defBody s_Reader_read_block) (defScope s_Reader_read_block) .none kV25 dc25 pm25 an25 cd25 ct25), sl25⟩) (c25 : PySem.W.codeIn K cd25 "Reader.read_block" = true) (k25 : PySem.W.keepIn K (.ref f25) = true)
    (a26 : PySem.W.findIn K (.ref oC0) "read_name" = some (some (.ref f26))) (i26 : PySem.W.isFn K (.ref f26) = true) (l26 : K.lookup f26 = some ⟨oc26, od26, .func (PySem.W.fnOf "read_name" "Reader.read_name" (defArgs s_Reader_read_name) (defBody s_Reader_read_name) (defScope s_Reader_read_name) .none kV26 dc26 pm26 an26 cd26 ct26), sl26⟩) (c26 : PySem.W.codeIn K cd26 "Reader.read_name" = true) (k26 : PySem.W.keepIn K (.ref f26) = true)
    (a27 : PySem.W.findIn K (.ref oC0) "read_parts" = some (some (.ref f27))) (i27 : PySem.W.isFn K (.ref f27) = true) (l27 : K.lookup f27 = some ⟨oc27, od27, .func (PySem.W.fnOf "read_parts" "Reader.read_parts" (defArgs s_Reader_read_parts) (defBody s_Reader_read_parts) (defScope s_Reader_read_parts) .none kV27 dc27 pm27 an27 cd27 ct27), sl27⟩) (c27 : PySem.W.codeIn K cd27 "Reader.read_parts" = true) (k27 : PySem.W.keepIn K (.ref f27) = true)
    (z0 : PySem.W.nsIn K mainGlobals "ValueError" = some none)
    (z1 : PySem.W.nsIn K mainGlobals "all" = some none)
    (z2 : PySem.W.nsIn K mainGlobals "bool" = some none)
    (z3 : PySem.W.nsIn K mainGlobals "int" = some none)
    (z4 : PySem.W.nsIn K mainGlobals "isinstance" = some none)
    (z5 : PySem.W.nsIn K mainGlobals "len" = some none)
    (z6 : PySem.W.nsIn K mainGlobals "max" = some none)
    (z7 : PySem.W.nsIn K mainGlobals "min" = some none)
    (z8 : PySem.W.nsIn K mainGlobals "range" = some none)
    (z9 : PySem.W.nsIn K mainGlobals "str" = some none)
    (z10 : PySem.W.nsIn K mainGlobals "tuple" = some none)
    (y0 : PySem.W.nsIn K mainGlobals "MOST_BLANK" = some (some (.int 1000000000 tk0)))
    (y1 : PySem.W.nsIn K mainGlobals "MOST_BLANK_FIGURES" = some (some (.int 10 tk1)))
    (y2 : PySem.W.nsIn K mainGlobals "MOST_DEPTH" = some (some (.int 30 tk2)))
    (y3 : PySem.W.nsIn K mainGlobals "MOST_KNOTS" = some (some (.int 200 tk3)))
    (y4 : PySem.W.nsIn K mainGlobals "MOST_NAME_SIGNS" = some (some (.int 12 tk4)))
    (y5 : PySem.W.nsIn K mainGlobals "MOST_PARTS" = some (some (.int 9 tk5)))
    (q0 : PySem.W.nsIn K mainGlobals "FormError" = some (some (.ref xa0))) (e0 : PySem.W.excIn K xa0 bmVE "ValueError.__new__" = true)
    (q1 : PySem.W.nsIn K mainGlobals "NoPlace" = some (some (.ref xa1))) (e1 : PySem.W.excIn K xa1 bmVE "ValueError.__new__" = true)
    (q2 : PySem.W.nsIn K mainGlobals "BadText" = some (some (.ref xa2))) (e2 : PySem.W.excIn K xa2 bmVE "ValueError.__new__" = true)
    (q3 : PySem.W.nsIn K mainGlobals "TooLong" = some (some (.ref xa3))) (e3 : PySem.W.excIn K xa3 bmVE "ValueError.__new__" = true)
    (q4 : PySem.W.nsIn K mainGlobals "BadPaper" = some (some (.ref xa4))) (e4 : PySem.W.excIn K xa4 bmVE "ValueError.__new__" = true)
    (q5 : PySem.W.nsIn K mainGlobals "BadName" = some (some (.ref xa5))) (e5 : PySem.W.excIn K xa5 bmVE "ValueError.__new__" = true)
    (q6 : PySem.W.nsIn K mainGlobals "Twice" = some (some (.ref xa6))) (e6 : PySem.W.excIn K xa6 bmVE "ValueError.__new__" = true)
    (q7 : PySem.W.nsIn K mainGlobals "NoForm" = some (some (.ref xa7))) (e7 : PySem.W.excIn K xa7 bmVE "ValueError.__new__" = true)
    (kt : kitTab K [xa0, xa1, xa2, xa3, xa4, xa5, xa6, xa7] = ([[true, false, false, false, false, false, false, false], [true, true, false, false, false, false, false, false], [true, false, true, false, false, false, false, false], [true, false, false, true, false, false, false, false], [true, false, false, false, true, false, false, false], [true, false, false, false, false, true, false, false], [true, false, false, false, false, false, true, false], [true, false, false, false, false, false, false, true]] : List (List Bool)).map fun r => r.map some) (ia : isaTab K [xa0, xa1, xa2, xa3, xa4, xa5, xa6, xa7] = ([[true, false, false, false, false, false, false, false], [true, true, false, false, false, false, false, false], [true, false, true, false, false, false, false, false], [true, false, false, true, false, false, false, false], [true, false, false, false, true, false, false, false], [true, false, false, false, false, true, false, false], [true, false, false, false, false, false, true, false], [true, false, false, false, false, false, false, true]] : List (List Bool)).map fun r => r.map some)
    (ve : ([xa0, xa1, xa2, xa3, xa4, xa5, xa6, xa7] : List Addr).map (fun c => PySem.W.kitOne K (.ref c) (.type "ValueError")) = ([xa0, xa1, xa2, xa3, xa4, xa5, xa6, xa7] : List Addr).map fun _ => some true)
    (fc : ([xa0, xa1, xa2, xa3, xa4, xa5, xa6, xa7] : List Addr).map (fun c => PySem.W.findIn K (.ref c) "__class__") = ([xa0, xa1, xa2, xa3, xa4, xa5, xa6, xa7] : List Addr).map fun _ => some (some (.builtin "object.__class__")))
    (fg : ([xa0, xa1, xa2, xa3, xa4, xa5, xa6, xa7] : List Addr).map (fun c => PySem.W.findIn K (.ref c) "__getattribute__") = ([xa0, xa1, xa2, xa3, xa4, xa5, xa6, xa7] : List Addr).map fun _ => some (some (.builtin "BaseException.__getattribute__")))
    (fga : ([xa0, xa1, xa2, xa3, xa4, xa5, xa6, xa7] : List Addr).map (fun c => PySem.W.findIn K (.ref c) "__getattr__") = ([xa0, xa1, xa2, xa3, xa4, xa5, xa6, xa7] : List Addr).map fun _ => some none)
    : ∃ fd : FuncData, (∀ (s : Shared) (v : Value), BindsTo s fd ⟨[v], []⟩ [("script", v)]) ∧ ∀ base : Heap, K.In base → base.Ns mainGlobals mg → FnOk l.prog w K mg base CX0 kLaw fa fd ["script"] (lowSp K spLaw) := by
  have e := hfa.symm.trans (PySem.W.mg_of X G a19)
  cases e
  have ph0 := PySem.W.mg_of X G ka0
  have ch0 := cl_of ph0
  have F0 := fun_mk (st := s_is_letter) l0 c0 k0
  have b0 := F0.binds (ps := ["sign"]) fun _ _ _ _ _ _ => allN1 fun _ => rfl
  have F1 := fun_mk (st := s_is_figure) l1 c1 k1
  have b1 := F1.binds (ps := ["sign"]) fun _ _ _ _ _ _ => allN1 fun _ => rfl
  have F2 := fun_mk (st := s_is_name) l2 c2 k2
  have b2 := F2.binds (ps := ["text"]) fun _ _ _ _ _ _ => allN1 fun _ => rfl
  have F3 := fun_mk (st := s_blank_number) l3 c3 k3
  have b3 := F3.binds (ps := ["figures"]) fun _ _ _ _ _ _ => allN1 fun _ => rfl
  have F4 := fun_mk (st := s_read) l4 c4 k4
  have b4 := F4.binds (ps := ["text"]) fun _ _ _ _ _ _ => allN1 fun _ => rfl
  have F5 := fun_mk (st := s__law_cell_at) l5 c5 k5
  have b5 := F5.binds (ps := ["script", "k"]) fun _ _ _ _ _ _ => allN2 fun _ _ => rfl
  have F6 := fun_mk (st := s__law_draw) l6 c6 k6
  have b6 := F6.binds (ps := ["cell", "k", "many"]) fun _ _ _ _ _ _ => allN3 fun _ _ _ => rfl
  have F7 := fun_mk (st := s__law_names) l7 c7 k7
  have b7 := F7.binds (ps := ["cell"]) fun _ _ _ _ _ _ => allN1 fun _ => rfl
  have F8 := fun_mk (st := s__law_leaf) l8 c8 k8
  have b8 := F8.binds (ps := ["cell", "first", "names", "shares"]) fun _ _ _ _ _ _ => allN4 fun _ _ _ _ => rfl
  have F9 := fun_mk (st := s__law_tree) l9 c9 k9
  have b9 := F9.binds (ps := ["cells", "first", "shares"]) fun _ _ _ _ _ _ => allN3 fun _ _ _ => rfl
  have F10 := fun_mk (st := s__law_great) l10 c10 k10
  have b10 := F10.binds (ps := ["cell", "names", "deep", "many"]) fun _ _ _ _ _ _ => allN4 fun _ _ _ _ => rfl
  have F11 := fun_mk (st := s__law_text) l11 c11 k11
  have b11 := F11.binds (ps := ["tree"]) fun _ _ _ _ _ _ => allN1 fun _ => rfl
  have F12 := fun_mk (st := s__law_begun) l12 c12 k12
  have b12 := F12.binds (ps := ["sign", "many", "counts"]) fun _ _ _ _ _ _ => allN3 fun _ _ _ => rfl
  have F13 := fun_mk (st := s__law_behind) l13 c13 k13
  have b13 := F13.binds (ps := ["sign", "counts"]) fun _ _ _ _ _ _ => allN2 fun _ _ => rfl
  have F14 := fun_mk (st := s__law_scan) l14 c14 k14
  have b14 := F14.binds (ps := ["text"]) fun _ _ _ _ _ _ => allN1 fun _ => rfl
  have F15 := fun_mk (st := s__law_spoiled) l15 c15 k15
  have b15 := F15.binds (ps := ["text", "cells", "first"]) fun _ _ _ _ _ _ => allN3 fun _ _ _ => rfl
  have F16 := fun_mk (st := s__law_odd_leaf) l16 c16 k16
  have b16 := F16.binds (ps := ["text", "cell"]) fun _ _ _ _ _ _ => allN2 fun _ _ => rfl
  have F17 := fun_mk (st := s__law_is_tree) l17 c17 k17
  have b17 := F17.binds (ps := ["tree"]) fun _ _ _ _ _ _ => allN1 fun _ => rfl
  have F18 := fun_mk (st := s__law_refusal) l18 c18 k18
  have b18 := F18.binds (ps := ["text"]) fun _ _ _ _ _ _ => allN1 fun _ => rfl
  have F20 := fun_mk (st := s_Reader___init__) l20 c20 k20
  have b20 := F20.binds (ps := ["self", "text"]) fun _ _ _ _ _ _ => allN2 fun _ _ => rfl
  have F21 := fun_mk (st := s_Reader_sign_here) l21 c21 k21
  have b21 := F21.binds (ps := ["self"]) fun _ _ _ _ _ _ => allN1 fun _ => rfl
  have F22 := fun_mk (st := s_Reader_begin_knot) l22 c22 k22
  have b22 := F22.binds (ps := ["self", "depth"]) fun _ _ _ _ _ _ => allN2 fun _ _ => rfl
  have F23 := fun_mk (st := s_Reader_read_tree) l23 c23 k23
  have b23 := F23.binds (ps := ["self", "depth"]) fun _ _ _ _ _ _ => allN2 fun _ _ => rfl
  have F24 := fun_mk (st := s_Reader_read_blank) l24 c24 k24
  have b24 := F24.binds (ps := ["self"]) fun _ _ _ _ _ _ => allN1 fun _ => rfl
  have F25 := fun_mk (st := s_Reader_read_block) l25 c25 k25
  have b25 := F25.binds (ps := ["self", "depth"]) fun _ _ _ _ _ _ => allN2 fun _ _ => rfl
  have F26 := fun_mk (st := s_Reader_read_name) l26 c26 k26
  have b26 := F26.binds (ps := ["self"]) fun _ _ _ _ _ _ => allN1 fun _ => rfl
  have F27 := fun_mk (st := s_Reader_read_parts) l27 c27 k27
  have b27 := F27.binds (ps := ["self", "depth"]) fun _ _ _ _ _ _ => allN2 fun _ _ => rfl
  have p0 := PySem.W.mg_of X G q0
  have cc0 := cl_of p0
  have p1 := PySem.W.mg_of X G q1
  have cc1 := cl_of p1
  have p2 := PySem.W.mg_of X G q2
  have cc2 := cl_of p2
  have p3 := PySem.W.mg_of X G q3
  have cc3 := cl_of p3
  have p4 := PySem.W.mg_of X G q4
  have cc4 := cl_of p4
  have p5 := PySem.W.mg_of X G q5
  have cc5 := cl_of p5
  have p6 := PySem.W.mg_of X G q6
  have cc6 := cl_of p6
  have p7 := PySem.W.mg_of X G q7
  have cc7 := cl_of p7
  have xtab : XTab K [cl mg "FormError", cl mg "NoPlace", cl mg "BadText", cl mg "TooLong", cl mg "BadPaper", cl mg "BadName", cl mg "Twice", cl mg "NoForm"] [[true, false, false, false, false, false, false, false], [true, true, false, false, false, false, false, false], [true, false, true, false, false, false, false, false], [true, false, false, true, false, false, false, false], [true, false, false, false, true, false, false, false], [true, false, false, false, false, true, false, false], [true, false, false, false, false, false, true, false], [true, false, false, false, false, false, false, true]] := by
    rw [cc0, cc1, cc2, cc3, cc4, cc5, cc6, cc7]
    refine ⟨fun c hc => ?_, kt, ia, ve, fc, fg, fga⟩
    simp only [List.mem_cons, List.not_mem_nil, or_false] at hc
    rcases hc with rfl | rfl | rfl | rfl | rfl | rfl | rfl | rfl <;> assumption
  have TX : Txt K mg := { n_Reader := by rw [ch0]; exact ph0, c_Reader := by rw [ch0]; exact ⟨kb0, kc0, kd0, ke0⟩, a_Reader_at := by rw [ch0]; exact kh0_0, a_Reader_knots := by rw [ch0]; exact kh0_1, a_Reader_text := by rw [ch0]; exact kh0_2, f_is_letter := ⟨_, _, F0, b0, PySem.W.mg_of X G a0⟩, f_is_figure := ⟨_, _, F1, b1, PySem.W.mg_of X G a1⟩, f_is_name := ⟨_, _, F2, b2, PySem.W.mg_of X G a2⟩, f_blank_number := ⟨_, _, F3, b3, PySem.W.mg_of X G a3⟩, f_read := ⟨_, _, F4, b4, PySem.W.mg_of X G a4⟩, f__law_cell_at := ⟨_, _, F5, b5, PySem.W.mg_of X G a5⟩, f__law_draw := ⟨_, _, F6, b6, PySem.W.mg_of X G a6⟩, f__law_names := ⟨_, _, F7, b7, PySem.W.mg_of X G a7⟩, f__law_leaf := ⟨_, _, F8, b8, PySem.W.mg_of X G a8⟩, f__law_tree := ⟨_, _, F9, b9, PySem.W.mg_of X G a9⟩, f__law_great := ⟨_, _, F10, b10, PySem.W.mg_of X G a10⟩, f__law_text := ⟨_, _, F11, b11, PySem.W.mg_of X G a11⟩, f__law_begun := ⟨_, _, F12, b12, PySem.W.mg_of X G a12⟩, f__law_behind := ⟨_, _, F13, b13, PySem.W.mg_of X G a13⟩, f__law_scan := ⟨_, _, F14, b14, PySem.W.mg_of X G a14⟩, f__law_spoiled := ⟨_, _, F15, b15, PySem.W.mg_of X G a15⟩, f__law_odd_leaf := ⟨_, _, F16, b16, PySem.W.mg_of X G a16⟩, f__law_is_tree := ⟨_, _, F17, b17, PySem.W.mg_of X G a17⟩, f__law_refusal := ⟨_, _, F18, b18, PySem.W.mg_of X G a18⟩, f_Reader___init__ := by rw [ch0]; exact ⟨_, _, F20, b20, ⟨kf0, a20, i20, kg0⟩⟩, f_Reader_sign_here := by rw [ch0]; exact ⟨_, _, F21, b21, ⟨a21, i21, k21⟩⟩, f_Reader_begin_knot := by rw [ch0]; exact ⟨_, _, F22, b22, ⟨a22, i22, k22⟩⟩, f_Reader_read_tree := by rw [ch0]; exact ⟨_, _, F23, b23, ⟨a23, i23, k23⟩⟩, f_Reader_read_blank := by rw [ch0]; exact ⟨_, _, F24, b24, ⟨a24, i24, k24⟩⟩, f_Reader_read_block := by rw [ch0]; exact ⟨_, _, F25, b25, ⟨a25, i25, k25⟩⟩, f_Reader_read_name := by rw [ch0]; exact ⟨_, _, F26, b26, ⟨a26, i26, k26⟩⟩, f_Reader_read_parts := by rw [ch0]; exact ⟨_, _, F27, b27, ⟨a27, i27, k27⟩⟩, m_ValueError := PySem.W.mg_none_of X G z0, m_all := PySem.W.mg_none_of X G z1, m_bool := PySem.W.mg_none_of X G z2, m_int := PySem.W.mg_none_of X G z3, m_isinstance := PySem.W.mg_none_of X G z4, m_len := PySem.W.mg_none_of X G z5, m_max := PySem.W.mg_none_of X G z6, m_min := PySem.W.mg_none_of X G z7, m_range := PySem.W.mg_none_of X G z8, m_str := PySem.W.mg_none_of X G z9, m_tuple := PySem.W.mg_none_of X G z10, g_MOST_BLANK := ⟨_, PySem.W.mg_of X G y0⟩, g_MOST_BLANK_FIGURES := ⟨_, PySem.W.mg_of X G y1⟩, g_MOST_DEPTH := ⟨_, PySem.W.mg_of X G y2⟩, g_MOST_KNOTS := ⟨_, PySem.W.mg_of X G y3⟩, g_MOST_NAME_SIGNS := ⟨_, PySem.W.mg_of X G y4⟩, g_MOST_PARTS := ⟨_, PySem.W.mg_of X G y5⟩, n_FormError := by rw [cc0]; exact p0, n_NoPlace := by rw [cc1]; exact p1, n_BadText := by rw [cc2]; exact p2, n_TooLong := by rw [cc3]; exact p3, n_BadPaper := by rw [cc4]; exact p4, n_BadName := by rw [cc5]; exact p5, n_Twice := by rw [cc6]; exact p6, n_NoForm := by rw [cc7]; exact p7, xc := xtab }
  refine in_ec (PySem.W.fnOf "law" "law" (defArgs s_law) (defBody s_law) (defScope s_law) .none kV19 dc19 pm19 an19 cd19 ct19) (fun s v => .of_eq rfl) (fun base _ _ => ?_)
  exact ok_law TX (fun_mk (st := s_law) l19 c19 k19)
theorem walk {l : PySem.W.OpenLaw} {q : Program} {loose : List Str} {XP : (Str → Option Value) → Heap → Prop} {YP : World → Heap → Prop} {d : DefRec} {K : Params → PySem.W.Frag} (hn : l.most = some 63) (hdf : d.params.defaults = [])
    (hY : ∀ (w : World) (h : Heap), YP w h → (K w.params).In h)
    (F : ∀ (w : World) (mg : Str → Option Value) (fa : Addr) (h : Heap), (K w.params).In h → h.Ns mainGlobals mg → mg d.name = some (.ref fa) →
      ∃ fd : FuncData, (∀ (s : Shared) (u : Value), BindsTo s fd ⟨[u], []⟩ [("script", u)]) ∧ ∀ base : Heap, (K w.params).In base → base.Ns mainGlobals mg → FnOk l.prog w (K w.params) mg base CX0 kLaw fa fd ["script"] (lowSp (K w.params) spLaw)) :
    PySem.W.WalkO q loose XP YP l.row.toRowW d [] (fun f vs => PySem.call f vs) :=
  L2.walk_of (n := 63) (k := kLaw) (x := "script") (CX := fun _ => CX0) (sp := fun w => lowSp (K w.params) spLaw) hn (by decide) hdf ⟨rfl, by decide, by decide⟩ hY F (fun _ _ a ns hl hO hS => law_low hO hl hS) fun _ _ _ _ _ z => z
end Law
theorem PySem.W.Fast.tw17075195856133048809 : True := trivial
theorem PySem.W.Fast.te17075195856133048809 : True := trivial
open PySem PySem.W PyProof.Rows
set_option maxRecDepth 100000 in
set_option maxHeartbeats 0 in
theorem PySem.Challenge.cw_commonform_k11_whole_texts_read_or_refus_holds : PySem.Challenge.rw_commonform_k11_whole_texts_read_or_refus.Holds := by
  w_on; o_law; k_head; (case hw => w_witness2)
  k_fill
  refine Law.walk (l := PySem.Challenge.rw_commonform_k11_whole_texts_read_or_refus) rfl rfl (fun w h Y => PySem.W.kIn_of Y) ?F
  case F =>
    intro w mg fa h KX G hmg
    refine' Law.all_mk KX G hmg ?ka0 ?kb0 ?kc0 ?kd0 ?ke0 ?kf0 ?kg0 ?kh0_0 ?kh0_1 ?kh0_2 ?a0 ?l0 ?c0 ?k0 ?a1 ?l1 ?c1 ?k1 ?a2 ?l2 ?c2 ?k2 ?a3 ?l3 ?c3 ?k3 ?a4 ?l4 ?c4 ?k4 ?a5 ?l5 ?c5 ?k5 ?a6 ?l6 ?c6 ?k6 ?a7 ?l7 ?c7 ?k7 ?a8 ?l8 ?c8 ?k8 ?a9 ?l9 ?c9 ?k9 ?a10 ?l10 ?c10 ?k10 ?a11 ?l11 ?c11 ?k11 ?a12 ?l12 ?c12 ?k12 ?a13 ?l13 ?c13 ?k13 ?a14 ?l14 ?c14 ?k14 ?a15 ?l15 ?c15 ?k15 ?a16 ?l16 ?c16 ?k16 ?a17 ?l17 ?c17 ?k17 ?a18 ?l18 ?c18 ?k18 ?a19 ?l19 ?c19 ?k19 ?a20 ?i20 ?l20 ?c20 ?k20 ?a21 ?i21 ?l21 ?c21 ?k21 ?a22 ?i22 ?l22 ?c22 ?k22 ?a23 ?i23 ?l23 ?c23 ?k23 ?a24 ?i24 ?l24 ?c24 ?k24 ?a25 ?i25 ?l25 ?c25 ?k25 ?a26 ?i26 ?l26 ?c26 ?k26 ?a27 ?i27 ?l27 ?c27 ?k27 ?z0 ?z1 ?z2 ?z3 ?z4 ?z5 ?z6 ?z7 ?z8 ?z9 ?z10 ?y0 ?y1 ?y2 ?y3 ?y4 ?y5 ?q0 ?e0 ?q1 ?e1 ?q2 ?e2 ?q3 ?e3 ?q4 ?e4 ?q5 ?e5 ?q6 ?e6 ?q7 ?e7 ?kt ?ia ?ve ?fc ?fg ?fga
    (case ka0 => k_is)
    (case kb0 => k_is)
    (case kc0 => k_is)
    (case kd0 => k_is)
    (case ke0 => k_is)
    (case kf0 => k_is)
    (case kg0 => k_is)
    (case kh0_0 => k_is)
    (case kh0_1 => k_is)
    (case kh0_2 => k_is)
    (case a0 => k_is)
    (case l0 => k_is)
    (case c0 => k_is)
    (case k0 => k_is)
    (case a1 => k_is)
    (case l1 => k_is)
    (case c1 => k_is)
    (case k1 => k_is)
    (case a2 => k_is)
    (case l2 => k_is)
    (case c2 => k_is)
    (case k2 => k_is)
    (case a3 => k_is)
    (case l3 => k_is)
    (case c3 => k_is)
    (case k3 => k_is)
    (case a4 => k_is)
    (case l4 => k_is)
    (case c4 => k_is)
    (case k4 => k_is)
    (case a5 => k_is)
    (case l5 => k_is)
    (case c5 => k_is)
    (case k5 => k_is)
    (case a6 => k_is)
    (case l6 => k_is)
    (case c6 => k_is)
    (case k6 => k_is)
    (case a7 => k_is)
    (case l7 => k_is)
    (case c7 => k_is)
    (case k7 => k_is)
    (case a8 => k_is)
    (case l8 => k_is)
    (case c8 => k_is)
    (case k8 => k_is)
    (case a9 => k_is)
    (case l9 => k_is)
    (case c9 => k_is)
    (case k9 => k_is)
    (case a10 => k_is)
    (case l10 => k_is)
    (case c10 => k_is)
    (case k10 => k_is)
    (case a11 => k_is)
    (case l11 => k_is)
    (case c11 => k_is)
    (case k11 => k_is)
    (case a12 => k_is)
    (case l12 => k_is)
    (case c12 => k_is)
    (case k12 => k_is)
    (case a13 => k_is)
    (case l13 => k_is)
    (case c13 => k_is)
    (case k13 => k_is)
    (case a14 => k_is)
    (case l14 => k_is)
    (case c14 => k_is)
    (case k14 => k_is)
    (case a15 => k_is)
    (case l15 => k_is)
    (case c15 => k_is)
    (case k15 => k_is)
    (case a16 => k_is)
    (case l16 => k_is)
    (case c16 => k_is)
    (case k16 => k_is)
    (case a17 => k_is)
    (case l17 => k_is)
    (case c17 => k_is)
    (case k17 => k_is)
    (case a18 => k_is)
    (case l18 => k_is)
    (case c18 => k_is)
    (case k18 => k_is)
    (case a19 => k_is)
    (case l19 => k_is)
    (case c19 => k_is)
    (case k19 => k_is)
    (case a20 => k_is)
    (case i20 => k_is)
    (case l20 => k_is)
    (case c20 => k_is)
    (case k20 => k_is)
    (case a21 => k_is)
    (case i21 => k_is)
    (case l21 => k_is)
    (case c21 => k_is)
    (case k21 => k_is)
    (case a22 => k_is)
    (case i22 => k_is)
    (case l22 => k_is)
    (case c22 => k_is)
    (case k22 => k_is)
    (case a23 => k_is)
    (case i23 => k_is)
    (case l23 => k_is)
    (case c23 => k_is)
    (case k23 => k_is)
    (case a24 => k_is)
    (case i24 => k_is)
    (case l24 => k_is)
    (case c24 => k_is)
    (case k24 => k_is)
    (case a25 => k_is)
    (case i25 => k_is)
    (case l25 => k_is)
    (case c25 => k_is)
    (case k25 => k_is)
    (case a26 => k_is)
    (case i26 => k_is)
    (case l26 => k_is)
    (case c26 => k_is)
    (case k26 => k_is)
    (case a27 => k_is)
    (case i27 => k_is)
    (case l27 => k_is)
    (case c27 => k_is)
    (case k27 => k_is)
    (case z0 => k_is)
    (case z1 => k_is)
    (case z2 => k_is)
    (case z3 => k_is)
    (case z4 => k_is)
    (case z5 => k_is)
    (case z6 => k_is)
    (case z7 => k_is)
    (case z8 => k_is)
    (case z9 => k_is)
    (case z10 => k_is)
    (case y0 => k_is)
    (case y1 => k_is)
    (case y2 => k_is)
    (case y3 => k_is)
    (case y4 => k_is)
    (case y5 => k_is)
    (case q0 => k_is)
    (case e0 => k_exc)
    (case q1 => k_is)
    (case e1 => k_exc)
    (case q2 => k_is)
    (case e2 => k_exc)
    (case q3 => k_is)
    (case e3 => k_exc)
    (case q4 => k_is)
    (case e4 => k_exc)
    (case q5 => k_is)
    (case e5 => k_exc)
    (case q6 => k_is)
    (case e6 => k_exc)
    (case q7 => k_is)
    (case e7 => k_exc)
    (case kt => rfl)
    (case ia => rfl)
    (case ve => rfl)
    (case fc => rfl)
    (case fg => rfl)
    (case fga => rfl)
