/-
  The reference of deltas, walked: may a node be changed so?
-/
import Derived.Test.YthkhonkibigdaaaDeltaRefB
import Derived.Deep.CutBlock
import Derived.Deep.CutRange
namespace Go.Proofs.Ythkhonkibigdaaa.Delta
open Go.RowKit Mem _root_.Go.Proofs.Ythkhonkibigdaaa.Arena _root_.Go.Proofs.Ythkhonkibigdaaa.Path
set_option linter.unusedVariables false
attribute [local go_sem ↓] Go.wp_at_zero Go.wp_at_succ

theorem large_split (t : Int) : t = 21 ∨ t = 22 ∨ t = 23 ∨ t = 24 ∨ t = 25 ∨ ((t == 21) = false ∧ (t == 22) = false ∧ (t == 23) = false ∧ (t == 24) = false ∧ (t == 25) = false) := by
  simp only [beq_eq_false_iff_ne]
  omega
def large (t : Int) : Bool := decide (t = 21 ∨ t = 22 ∨ t = 23 ∨ t = 24 ∨ t = 25)
theorem large_no {t : Int} (h : (t == 21) = false ∧ (t == 22) = false ∧ (t == 23) = false ∧ (t == 24) = false ∧ (t == 25) = false) : large t = false := by
  simp only [beq_eq_false_iff_ne] at h
  unfold large
  exact decide_eq_false (by omega)
theorem ops_split (op : Int) : op = 1 ∨ op = 2 ∨ op = 3 ∨ op = 4 ∨ op = 5 ∨ op = 6 ∨ op = 7 ∨ ((op == 1) = false ∧ (op == 2) = false ∧ (op == 3) = false ∧ (op == 4) = false ∧ (op == 5) = false ∧ (op == 6) = false ∧ (op == 7) = false) := by
  simp only [beq_eq_false_iff_ne]
  omega
theorem dmay_no {t op n : Int} (h : (op == 1) = false ∧ (op == 2) = false ∧ (op == 3) = false ∧ (op == 4) = false ∧ (op == 5) = false ∧ (op == 6) = false ∧ (op == 7) = false) : dmay t op n = false := by
  simp only [beq_eq_false_iff_ne] at h
  unfold dmay
  rw [if_neg (by omega), if_neg (by omega), if_neg (by omega), if_neg (by omega), if_neg (by omega), if_neg (by omega), if_neg (by omega)]

set_option maxRecDepth 100000 in
set_option maxHeartbeats 4000000 in
theorem ref_may_any (t k op n : Int) (w : World) :
    Calls Try.prog 27 #[.agg #[.int .i64 t, .int .i64 k], .int .i64 op, .int .i64 n] w fun e w' => e = .returned (.bool (dmay t op n)) ∧ Below w.heap.size w w' := by
  have hB0 : Below w.heap.size w (w.alloc (.cells #[.int .i64 t, .int .i64 k] 45)) := (Below.refl _ _).alloc (Nat.le_refl _) _
  obtain ⟨x0, x1⟩ := (Blk.new w 45 #[.int .i64 t, .int .i64 k]).two
  have HB := Lib.hid (fun n lo hi W => ref_between_any n lo hi W)
  have HL := Lib.hid (large_split t)
  have HO := Lib.hid (ops_split op)
  go_enter Try.func27, Try.ntmps27
  go_upto_region 2 with fail
  generalize w.alloc (.cells #[.int .i64 t, .int .i64 k] 45) = w1 at *
  go_cut [8] from 11 to 29 (fun c wx => c = .bool (large t) ∧ wx = w1)
  case first =>
    rcases HL.out with rfl | rfl | rfl | rfl | rfl | h
    · go_wp2_with fail
      go_meet
      exact ⟨rfl, rfl⟩
    · go_wp2_with fail
      go_meet
      exact ⟨rfl, rfl⟩
    · go_wp2_with fail
      go_meet
      exact ⟨rfl, rfl⟩
    · go_wp2_with fail
      go_meet
      exact ⟨rfl, rfl⟩
    · go_wp2_with fail
      go_meet
      exact ⟨rfl, rfl⟩
    · have HF := Lib.hid (large_no h)
      obtain ⟨e1, e2, e3, e4, e5⟩ := h
      go_wp2_with fail
      go_meet
      exact ⟨by rw [HF.out], rfl⟩
  case rest =>
    obtain ⟨rfl, rfl⟩ := hcut
    rcases HO.out with rfl | rfl | rfl | rfl | rfl | rfl | rfl | ho
    · have HE := Lib.hid (show dmay t 1 n = (bt t 7 11 && bt n 7 11) from rfl)
      cases h1 : bt t 7 11
      all_goals rw [h1] at HE
      all_goals go_wp2_with (go_at_call 56; refine (HB.out _ _ _ _).mono ?_; rintro e w1 ⟨rfl, rfl⟩)
      all_goals go_ret
      all_goals exact ⟨by rw [HE.out]; rfl, hB0⟩
    · have HE := Lib.hid (show dmay t 2 n = (bt t 12 17 && bt n 12 17) from rfl)
      cases h1 : bt t 12 17
      all_goals rw [h1] at HE
      all_goals go_wp2_with (go_at_call 56; refine (HB.out _ _ _ _).mono ?_; rintro e w1 ⟨rfl, rfl⟩)
      all_goals go_ret
      all_goals exact ⟨by rw [HE.out]; rfl, hB0⟩
    · have HE := Lib.hid (show dmay t 3 n = (bt t 18 19 && bt n 18 19) from rfl)
      cases h1 : bt t 18 19
      all_goals rw [h1] at HE
      all_goals go_wp2_with (go_at_call 56; refine (HB.out _ _ _ _).mono ?_; rintro e w1 ⟨rfl, rfl⟩)
      all_goals go_ret
      all_goals exact ⟨by rw [HE.out]; rfl, hB0⟩
    · have HE := Lib.hid (show dmay t 4 n = (decide (t = 1) || (decide (t = 2) && bt n 0 1)) from rfl)
      by_cases t1 : t = 1
      · subst t1
        go_wp2_with fail
        go_ret
        exact ⟨by rw [HE.out]; rfl, hB0⟩
      by_cases t2 : t = 2
      · subst t2
        go_wp2_with (go_at_call 56; refine (HB.out _ _ _ _).mono ?_; rintro e w2 ⟨rfl, rfl⟩)
        go_ret
        exact ⟨by rw [HE.out]; rfl, hB0⟩
      · have e1 : (t == 1) = false := by simpa using t1
        have e2 : (t == 2) = false := by simpa using t2
        rw [decide_eq_false t1, decide_eq_false t2] at HE
        clear t1 t2
        go_wp2_with fail
        go_ret
        exact ⟨by rw [HE.out]; rfl, hB0⟩
    · have HE := Lib.hid (show dmay t 5 n = (large t && decide (n = 0)) from rfl)
      generalize large t = b1 at *
      by_cases h0 : n = 0
      · subst h0
        cases b1
        all_goals go_wp2_with fail
        all_goals go_ret
        all_goals exact ⟨by rw [HE.out]; rfl, hB0⟩
      · have e0 : (n == 0) = false := by simpa using h0
        rw [decide_eq_false h0] at HE
        clear h0
        cases b1
        all_goals go_wp2_with fail
        all_goals go_ret
        all_goals exact ⟨by rw [HE.out]; rfl, hB0⟩
    · have HE := Lib.hid (show dmay t 6 n = (decide (t = 23 ∨ t = 24) && decide (n = 0)) from rfl)
      have ht : t = 23 ∨ t = 24 ∨ ((t == 23) = false ∧ (t == 24) = false ∧ decide (t = 23 ∨ t = 24) = false) := by
        simp only [beq_eq_false_iff_ne, decide_eq_false_iff_not]
        omega
      by_cases h0 : n = 0
      · subst h0
        rcases ht with rfl | rfl | ⟨e1, e2, e3⟩
        · go_wp2_with fail
          go_ret
          exact ⟨by rw [HE.out]; rfl, hB0⟩
        · go_wp2_with fail
          go_ret
          exact ⟨by rw [HE.out]; rfl, hB0⟩
        · rw [e3] at HE
          clear e3
          go_wp2_with fail
          go_ret
          exact ⟨by rw [HE.out]; rfl, hB0⟩
      · have e0 : (n == 0) = false := by simpa using h0
        rw [decide_eq_false h0] at HE
        clear h0
        rcases ht with rfl | rfl | ⟨e1, e2, e3⟩
        · go_wp2_with fail
          go_ret
          exact ⟨by rw [HE.out]; rfl, hB0⟩
        · go_wp2_with fail
          go_ret
          exact ⟨by rw [HE.out]; rfl, hB0⟩
        · rw [e3] at HE
          clear e3
          go_wp2_with fail
          go_ret
          exact ⟨by rw [HE.out]; rfl, hB0⟩
    · have HE := Lib.hid (show dmay t 7 n = decide (t = 25) from rfl)
      by_cases t1 : t = 25
      · subst t1
        go_wp2_with fail
        go_ret
        exact ⟨by rw [HE.out]; rfl, hB0⟩
      · have e1 : (t == 25) = false := by simpa using t1
        rw [decide_eq_false t1] at HE
        clear t1
        go_wp2_with fail
        go_ret
        exact ⟨by rw [HE.out]; rfl, hB0⟩
    · have HE := Lib.hid (dmay_no (t := t) (n := n) ho)
      obtain ⟨e1, e2, e3, e4, e5, e6, e7⟩ := ho
      go_wp2_with fail
      go_ret
      exact ⟨by rw [HE.out]; rfl, hB0⟩

end Go.Proofs.Ythkhonkibigdaaa.Delta
