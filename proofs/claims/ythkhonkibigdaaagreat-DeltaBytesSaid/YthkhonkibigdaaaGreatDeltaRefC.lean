/-
  The reference of deltas, walked: may a node be changed so?
-/
import Derived.Test.YthkhonkibigdaaaGreatDeltaRefB
import Derived.Deep.CutBlock
import Derived.Deep.CutRange
namespace Go.Proofs.YthkhonkibigdaaaGreat.Delta
open Go.RowKit Mem _root_.Go.Proofs.YthkhonkibigdaaaGreat.Arena _root_.Go.Proofs.YthkhonkibigdaaaGreat.Path
set_option linter.unusedVariables false
attribute [local go_sem ↓] Go.wp_at_zero Go.wp_at_succ

theorem large_split (t : Int) : t = 21 ∨ t = 22 ∨ t = 23 ∨ t = 24 ∨ t = 25 ∨ ((t == 21) = false ∧ (t == 22) = false ∧ (t == 23) = false ∧ (t == 24) = false ∧ (t == 25) = false) := by
  simp only [beq_eq_false_iff_ne]
  omega
def large (t : Int) : Bool := decide (t = 21 ∨ t = 22 ∨ t = 23 ∨ t = 24 ∨ t = 25)
theorem large_no {t : Int} (h : (t == 21) = false ∧ (t == 22) = false ∧ (t == 23) = false ∧ (t == 24) = false ∧ (t == 25) = false) : large t = false := by
  simp only [beq_eq_false_iff_ne] at h
  unfold large
  exact decide_eq_false (by omega)
theorem ops_split (op : Int) : op = 1 ∨ op = 2 ∨ op = 3 ∨ op = 4 ∨ op = 5 ∨ op = 6 ∨ op = 7 ∨ ((op == 1) = false ∧ (op == 2) = false ∧ (op == 3) = false ∧ (op == 4) = false ∧ (op == 5) = false ∧ (op == 6) = false ∧ (op == 7) = false) := by
  simp only [beq_eq_false_iff_ne]
  omega
theorem dmay_no {t op n : Int} (h : (op == 1) = false ∧ (op == 2) = false ∧ (op == 3) = false ∧ (op == 4) = false ∧ (op == 5) = false ∧ (op == 6) = false ∧ (op == 7) = false) : dmay t op n = false := by
  simp only [beq_eq_false_iff_ne] at h
  unfold dmay
  rw [if_neg (by omega), if_neg (by omega), if_neg (by omega), if_neg (by omega), if_neg (by omega), if_neg (by omega), if_neg (by omega)]

end Go.Proofs.YthkhonkibigdaaaGreat.Delta
