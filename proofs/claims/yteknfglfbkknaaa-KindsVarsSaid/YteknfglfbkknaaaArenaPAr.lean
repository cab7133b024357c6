/-
  Package arena, walked: how many kids a node has.
-/
import Derived.Test.YteknfglfbkknaaaArenaMath
import Derived.Test.YteknfglfbkknaaaArenaAr
import Derived.Test.YteknfglfbkknaaaBaseG
namespace Go.Proofs.Yteknfglfbkknaaa.Arena
open Go.RowKit Mem

/-- So many kids, if a number is none below 0, and none above another one. -/
def upto (most n kids : Int) : Int := if n < 0 ∨ most < n then -1 else kids
set_option maxRecDepth 100000 in
theorem upTo_any (most t n kids : Int) (w : World) : Calls Try.prog 55 #[.int .i64 most, .agg #[.int .i64 t, .int .i64 n], .int .i64 kids] w fun e w' => e = .returned (.int .i64 (upto most n kids)) ∧ Below w.heap.size w w' := by
  have hB0 : Below w.heap.size w (w.alloc (.cells #[.int .i64 t, .int .i64 n] 39)) := (Below.refl _ _).alloc (Nat.le_refl _) _
  by_cases h1 : n < 0
  · have hE := Lib.hid (show upto most n kids = -1 by unfold upto; rw [if_pos (.inl h1)])
    go_enter Try.func55, Try.ntmps55
    go_wp2
    go_ret
    exact ⟨by rw [hE.out]; rfl, hB0⟩
  · by_cases h2 : most < n
    · have hE := Lib.hid (show upto most n kids = -1 by unfold upto; rw [if_pos (.inr h2)])
      go_enter Try.func55, Try.ntmps55
      go_wp2
      go_ret
      exact ⟨by rw [hE.out]; rfl, hB0⟩
    · have hE := Lib.hid (show upto most n kids = kids by unfold upto; rw [if_neg (by omega)])
      go_enter Try.func55, Try.ntmps55
      go_wp2
      go_ret
      exact ⟨by rw [hE.out]; rfl, hB0⟩

set_option maxRecDepth 100000 in
theorem arity_1 (n : Int) (w : World) : Calls Try.prog 37 #[.agg #[.int .i64 1, .int .i64 n]] w fun e w' => e = .returned (.int .i64 (ar (1, n))) ∧ Below w.heap.size w w' := by
  have hB0 : Below w.heap.size w (w.alloc (.cells #[.int .i64 1, .int .i64 n] 39)) := (Below.refl _ _).alloc (Nat.le_refl _) _
  go_enter Try.func37, Try.ntmps37
  go_wp2
  go_ret
  exact ⟨rfl, hB0⟩

set_option maxRecDepth 100000 in
theorem arity_2 (n : Int) (w : World) : Calls Try.prog 37 #[.agg #[.int .i64 2, .int .i64 n]] w fun e w' => e = .returned (.int .i64 (ar (2, n))) ∧ Below w.heap.size w w' := by
  have hB0 : Below w.heap.size w (w.alloc (.cells #[.int .i64 2, .int .i64 n] 39)) := (Below.refl _ _).alloc (Nat.le_refl _) _
  have hE : ar (2, n) = upto 1 n 0 := by unfold ar asks upto; simp
  rw [hE]
  clear hE
  go_enter Try.func37, Try.ntmps37
  go_wp2_with (go_at_call 55; (with_reducible refine (upTo_any _ _ _ _ _).mono ?_); rintro e w2 ⟨rfl, hb2⟩)
  go_ret
  exact ⟨rfl, hB0.trans (hb2.mono hB0.size)⟩

set_option maxRecDepth 100000 in
theorem arity_3 (n : Int) (w : World) : Calls Try.prog 37 #[.agg #[.int .i64 3, .int .i64 n]] w fun e w' => e = .returned (.int .i64 (ar (3, n))) ∧ Below w.heap.size w w' := by
  have hB0 : Below w.heap.size w (w.alloc (.cells #[.int .i64 3, .int .i64 n] 39)) := (Below.refl _ _).alloc (Nat.le_refl _) _
  have hE : ar (3, n) = upto 11 n 0 := by unfold ar asks upto; simp
  rw [hE]
  clear hE
  go_enter Try.func37, Try.ntmps37
  go_wp2_with (go_at_call 55; (with_reducible refine (upTo_any _ _ _ _ _).mono ?_); rintro e w2 ⟨rfl, hb2⟩)
  go_ret
  exact ⟨rfl, hB0.trans (hb2.mono hB0.size)⟩

set_option maxRecDepth 100000 in
theorem arity_4 (n : Int) (w : World) : Calls Try.prog 37 #[.agg #[.int .i64 4, .int .i64 n]] w fun e w' => e = .returned (.int .i64 (ar (4, n))) ∧ Below w.heap.size w w' := by
  have hB0 : Below w.heap.size w (w.alloc (.cells #[.int .i64 4, .int .i64 n] 39)) := (Below.refl _ _).alloc (Nat.le_refl _) _
  have hE : ar (4, n) = upto 11 n 1 := by unfold ar asks upto; simp
  rw [hE]
  clear hE
  go_enter Try.func37, Try.ntmps37
  go_wp2_with (go_at_call 55; (with_reducible refine (upTo_any _ _ _ _ _).mono ?_); rintro e w2 ⟨rfl, hb2⟩)
  go_ret
  exact ⟨rfl, hB0.trans (hb2.mono hB0.size)⟩

set_option maxRecDepth 100000 in
theorem arity_5 (n : Int) (w : World) : Calls Try.prog 37 #[.agg #[.int .i64 5, .int .i64 n]] w fun e w' => e = .returned (.int .i64 (ar (5, n))) ∧ Below w.heap.size w w' := by
  have hB0 : Below w.heap.size w (w.alloc (.cells #[.int .i64 5, .int .i64 n] 39)) := (Below.refl _ _).alloc (Nat.le_refl _) _
  have hE : ar (5, n) = upto 0 n 1 := by unfold ar asks upto; simp
  rw [hE]
  clear hE
  go_enter Try.func37, Try.ntmps37
  go_wp2_with (go_at_call 55; (with_reducible refine (upTo_any _ _ _ _ _).mono ?_); rintro e w2 ⟨rfl, hb2⟩)
  go_ret
  exact ⟨rfl, hB0.trans (hb2.mono hB0.size)⟩

set_option maxRecDepth 100000 in
theorem arity_6 (n : Int) (w : World) : Calls Try.prog 37 #[.agg #[.int .i64 6, .int .i64 n]] w fun e w' => e = .returned (.int .i64 (ar (6, n))) ∧ Below w.heap.size w w' := by
  have hB0 : Below w.heap.size w (w.alloc (.cells #[.int .i64 6, .int .i64 n] 39)) := (Below.refl _ _).alloc (Nat.le_refl _) _
  have hE : ar (6, n) = upto 0 n 1 := by unfold ar asks upto; simp
  rw [hE]
  clear hE
  go_enter Try.func37, Try.ntmps37
  go_wp2_with (go_at_call 55; (with_reducible refine (upTo_any _ _ _ _ _).mono ?_); rintro e w2 ⟨rfl, hb2⟩)
  go_ret
  exact ⟨rfl, hB0.trans (hb2.mono hB0.size)⟩

set_option maxRecDepth 100000 in
theorem arity_7 (n : Int) (w : World) : Calls Try.prog 37 #[.agg #[.int .i64 7, .int .i64 n]] w fun e w' => e = .returned (.int .i64 (ar (7, n))) ∧ Below w.heap.size w w' := by
  have hB0 : Below w.heap.size w (w.alloc (.cells #[.int .i64 7, .int .i64 n] 39)) := (Below.refl _ _).alloc (Nat.le_refl _) _
  have hE : ar (7, n) = upto 0 n 2 := by unfold ar asks upto; simp
  rw [hE]
  clear hE
  go_enter Try.func37, Try.ntmps37
  go_wp2_with (go_at_call 55; (with_reducible refine (upTo_any _ _ _ _ _).mono ?_); rintro e w2 ⟨rfl, hb2⟩)
  go_ret
  exact ⟨rfl, hB0.trans (hb2.mono hB0.size)⟩

set_option maxRecDepth 100000 in
theorem arity_8 (n : Int) (w : World) : Calls Try.prog 37 #[.agg #[.int .i64 8, .int .i64 n]] w fun e w' => e = .returned (.int .i64 (ar (8, n))) ∧ Below w.heap.size w w' := by
  have hB0 : Below w.heap.size w (w.alloc (.cells #[.int .i64 8, .int .i64 n] 39)) := (Below.refl _ _).alloc (Nat.le_refl _) _
  have hE : ar (8, n) = upto 0 n 2 := by unfold ar asks upto; simp
  rw [hE]
  clear hE
  go_enter Try.func37, Try.ntmps37
  go_wp2_with (go_at_call 55; (with_reducible refine (upTo_any _ _ _ _ _).mono ?_); rintro e w2 ⟨rfl, hb2⟩)
  go_ret
  exact ⟨rfl, hB0.trans (hb2.mono hB0.size)⟩

set_option maxRecDepth 100000 in
theorem arity_9 (n : Int) (w : World) : Calls Try.prog 37 #[.agg #[.int .i64 9, .int .i64 n]] w fun e w' => e = .returned (.int .i64 (ar (9, n))) ∧ Below w.heap.size w w' := by
  have hB0 : Below w.heap.size w (w.alloc (.cells #[.int .i64 9, .int .i64 n] 39)) := (Below.refl _ _).alloc (Nat.le_refl _) _
  have hE : ar (9, n) = upto 0 n 2 := by unfold ar asks upto; simp
  rw [hE]
  clear hE
  go_enter Try.func37, Try.ntmps37
  go_wp2_with (go_at_call 55; (with_reducible refine (upTo_any _ _ _ _ _).mono ?_); rintro e w2 ⟨rfl, hb2⟩)
  go_ret
  exact ⟨rfl, hB0.trans (hb2.mono hB0.size)⟩

set_option maxRecDepth 100000 in
theorem arity_10 (n : Int) (w : World) : Calls Try.prog 37 #[.agg #[.int .i64 10, .int .i64 n]] w fun e w' => e = .returned (.int .i64 (ar (10, n))) ∧ Below w.heap.size w w' := by
  have hB0 : Below w.heap.size w (w.alloc (.cells #[.int .i64 10, .int .i64 n] 39)) := (Below.refl _ _).alloc (Nat.le_refl _) _
  have hE : ar (10, n) = upto 0 n 2 := by unfold ar asks upto; simp
  rw [hE]
  clear hE
  go_enter Try.func37, Try.ntmps37
  go_wp2_with (go_at_call 55; (with_reducible refine (upTo_any _ _ _ _ _).mono ?_); rintro e w2 ⟨rfl, hb2⟩)
  go_ret
  exact ⟨rfl, hB0.trans (hb2.mono hB0.size)⟩

set_option maxRecDepth 100000 in
theorem arity_11 (n : Int) (w : World) : Calls Try.prog 37 #[.agg #[.int .i64 11, .int .i64 n]] w fun e w' => e = .returned (.int .i64 (ar (11, n))) ∧ Below w.heap.size w w' := by
  have hB0 : Below w.heap.size w (w.alloc (.cells #[.int .i64 11, .int .i64 n] 39)) := (Below.refl _ _).alloc (Nat.le_refl _) _
  have hE : ar (11, n) = upto 0 n 2 := by unfold ar asks upto; simp
  rw [hE]
  clear hE
  go_enter Try.func37, Try.ntmps37
  go_wp2_with (go_at_call 55; (with_reducible refine (upTo_any _ _ _ _ _).mono ?_); rintro e w2 ⟨rfl, hb2⟩)
  go_ret
  exact ⟨rfl, hB0.trans (hb2.mono hB0.size)⟩

set_option maxRecDepth 100000 in
theorem arity_12 (n : Int) (w : World) : Calls Try.prog 37 #[.agg #[.int .i64 12, .int .i64 n]] w fun e w' => e = .returned (.int .i64 (ar (12, n))) ∧ Below w.heap.size w w' := by
  have hB0 : Below w.heap.size w (w.alloc (.cells #[.int .i64 12, .int .i64 n] 39)) := (Below.refl _ _).alloc (Nat.le_refl _) _
  have hE : ar (12, n) = upto 0 n 2 := by unfold ar asks upto; simp
  rw [hE]
  clear hE
  go_enter Try.func37, Try.ntmps37
  go_wp2_with (go_at_call 55; (with_reducible refine (upTo_any _ _ _ _ _).mono ?_); rintro e w2 ⟨rfl, hb2⟩)
  go_ret
  exact ⟨rfl, hB0.trans (hb2.mono hB0.size)⟩

set_option maxRecDepth 100000 in
theorem arity_13 (n : Int) (w : World) : Calls Try.prog 37 #[.agg #[.int .i64 13, .int .i64 n]] w fun e w' => e = .returned (.int .i64 (ar (13, n))) ∧ Below w.heap.size w w' := by
  have hB0 : Below w.heap.size w (w.alloc (.cells #[.int .i64 13, .int .i64 n] 39)) := (Below.refl _ _).alloc (Nat.le_refl _) _
  have hE : ar (13, n) = upto 0 n 2 := by unfold ar asks upto; simp
  rw [hE]
  clear hE
  go_enter Try.func37, Try.ntmps37
  go_wp2_with (go_at_call 55; (with_reducible refine (upTo_any _ _ _ _ _).mono ?_); rintro e w2 ⟨rfl, hb2⟩)
  go_ret
  exact ⟨rfl, hB0.trans (hb2.mono hB0.size)⟩

set_option maxRecDepth 100000 in
theorem arity_14 (n : Int) (w : World) : Calls Try.prog 37 #[.agg #[.int .i64 14, .int .i64 n]] w fun e w' => e = .returned (.int .i64 (ar (14, n))) ∧ Below w.heap.size w w' := by
  have hB0 : Below w.heap.size w (w.alloc (.cells #[.int .i64 14, .int .i64 n] 39)) := (Below.refl _ _).alloc (Nat.le_refl _) _
  have hE : ar (14, n) = upto 0 n 2 := by unfold ar asks upto; simp
  rw [hE]
  clear hE
  go_enter Try.func37, Try.ntmps37
  go_wp2_with (go_at_call 55; (with_reducible refine (upTo_any _ _ _ _ _).mono ?_); rintro e w2 ⟨rfl, hb2⟩)
  go_ret
  exact ⟨rfl, hB0.trans (hb2.mono hB0.size)⟩

set_option maxRecDepth 100000 in
theorem arity_15 (n : Int) (w : World) : Calls Try.prog 37 #[.agg #[.int .i64 15, .int .i64 n]] w fun e w' => e = .returned (.int .i64 (ar (15, n))) ∧ Below w.heap.size w w' := by
  have hB0 : Below w.heap.size w (w.alloc (.cells #[.int .i64 15, .int .i64 n] 39)) := (Below.refl _ _).alloc (Nat.le_refl _) _
  have hE : ar (15, n) = upto 0 n 2 := by unfold ar asks upto; simp
  rw [hE]
  clear hE
  go_enter Try.func37, Try.ntmps37
  go_wp2_with (go_at_call 55; (with_reducible refine (upTo_any _ _ _ _ _).mono ?_); rintro e w2 ⟨rfl, hb2⟩)
  go_ret
  exact ⟨rfl, hB0.trans (hb2.mono hB0.size)⟩

set_option maxRecDepth 100000 in
theorem arity_16 (n : Int) (w : World) : Calls Try.prog 37 #[.agg #[.int .i64 16, .int .i64 n]] w fun e w' => e = .returned (.int .i64 (ar (16, n))) ∧ Below w.heap.size w w' := by
  have hB0 : Below w.heap.size w (w.alloc (.cells #[.int .i64 16, .int .i64 n] 39)) := (Below.refl _ _).alloc (Nat.le_refl _) _
  have hE : ar (16, n) = upto 0 n 2 := by unfold ar asks upto; simp
  rw [hE]
  clear hE
  go_enter Try.func37, Try.ntmps37
  go_wp2_with (go_at_call 55; (with_reducible refine (upTo_any _ _ _ _ _).mono ?_); rintro e w2 ⟨rfl, hb2⟩)
  go_ret
  exact ⟨rfl, hB0.trans (hb2.mono hB0.size)⟩

set_option maxRecDepth 100000 in
theorem arity_17 (n : Int) (w : World) : Calls Try.prog 37 #[.agg #[.int .i64 17, .int .i64 n]] w fun e w' => e = .returned (.int .i64 (ar (17, n))) ∧ Below w.heap.size w w' := by
  have hB0 : Below w.heap.size w (w.alloc (.cells #[.int .i64 17, .int .i64 n] 39)) := (Below.refl _ _).alloc (Nat.le_refl _) _
  have hE : ar (17, n) = upto 0 n 2 := by unfold ar asks upto; simp
  rw [hE]
  clear hE
  go_enter Try.func37, Try.ntmps37
  go_wp2_with (go_at_call 55; (with_reducible refine (upTo_any _ _ _ _ _).mono ?_); rintro e w2 ⟨rfl, hb2⟩)
  go_ret
  exact ⟨rfl, hB0.trans (hb2.mono hB0.size)⟩

set_option maxRecDepth 100000 in
theorem arity_18 (n : Int) (w : World) : Calls Try.prog 37 #[.agg #[.int .i64 18, .int .i64 n]] w fun e w' => e = .returned (.int .i64 (ar (18, n))) ∧ Below w.heap.size w w' := by
  have hB0 : Below w.heap.size w (w.alloc (.cells #[.int .i64 18, .int .i64 n] 39)) := (Below.refl _ _).alloc (Nat.le_refl _) _
  have hE : ar (18, n) = upto 0 n 2 := by unfold ar asks upto; simp
  rw [hE]
  clear hE
  go_enter Try.func37, Try.ntmps37
  go_wp2_with (go_at_call 55; (with_reducible refine (upTo_any _ _ _ _ _).mono ?_); rintro e w2 ⟨rfl, hb2⟩)
  go_ret
  exact ⟨rfl, hB0.trans (hb2.mono hB0.size)⟩

set_option maxRecDepth 100000 in
theorem arity_19 (n : Int) (w : World) : Calls Try.prog 37 #[.agg #[.int .i64 19, .int .i64 n]] w fun e w' => e = .returned (.int .i64 (ar (19, n))) ∧ Below w.heap.size w w' := by
  have hB0 : Below w.heap.size w (w.alloc (.cells #[.int .i64 19, .int .i64 n] 39)) := (Below.refl _ _).alloc (Nat.le_refl _) _
  have hE : ar (19, n) = upto 0 n 2 := by unfold ar asks upto; simp
  rw [hE]
  clear hE
  go_enter Try.func37, Try.ntmps37
  go_wp2_with (go_at_call 55; (with_reducible refine (upTo_any _ _ _ _ _).mono ?_); rintro e w2 ⟨rfl, hb2⟩)
  go_ret
  exact ⟨rfl, hB0.trans (hb2.mono hB0.size)⟩

set_option maxRecDepth 100000 in
theorem arity_20 (n : Int) (w : World) : Calls Try.prog 37 #[.agg #[.int .i64 20, .int .i64 n]] w fun e w' => e = .returned (.int .i64 (ar (20, n))) ∧ Below w.heap.size w w' := by
  have hB0 : Below w.heap.size w (w.alloc (.cells #[.int .i64 20, .int .i64 n] 39)) := (Below.refl _ _).alloc (Nat.le_refl _) _
  have hE : ar (20, n) = upto 200 n n := by unfold ar asks upto; simp
  rw [hE]
  clear hE
  go_enter Try.func37, Try.ntmps37
  go_wp2_with (go_at_call 55; (with_reducible refine (upTo_any _ _ _ _ _).mono ?_); rintro e w2 ⟨rfl, hb2⟩)
  go_ret
  exact ⟨rfl, hB0.trans (hb2.mono hB0.size)⟩

set_option maxRecDepth 100000 in
theorem arity_21 (n : Int) (w : World) : Calls Try.prog 37 #[.agg #[.int .i64 21, .int .i64 n]] w fun e w' => e = .returned (.int .i64 (ar (21, n))) ∧ Below w.heap.size w w' := by
  have hB0 : Below w.heap.size w (w.alloc (.cells #[.int .i64 21, .int .i64 n] 39)) := (Below.refl _ _).alloc (Nat.le_refl _) _
  have hE : ar (21, n) = upto 11 n 1 := by unfold ar asks upto; simp
  rw [hE]
  clear hE
  go_enter Try.func37, Try.ntmps37
  go_wp2_with (go_at_call 55; (with_reducible refine (upTo_any _ _ _ _ _).mono ?_); rintro e w2 ⟨rfl, hb2⟩)
  go_ret
  exact ⟨rfl, hB0.trans (hb2.mono hB0.size)⟩

set_option maxRecDepth 100000 in
theorem arity_22 (n : Int) (w : World) : Calls Try.prog 37 #[.agg #[.int .i64 22, .int .i64 n]] w fun e w' => e = .returned (.int .i64 (ar (22, n))) ∧ Below w.heap.size w w' := by
  have hB0 : Below w.heap.size w (w.alloc (.cells #[.int .i64 22, .int .i64 n] 39)) := (Below.refl _ _).alloc (Nat.le_refl _) _
  have hE : ar (22, n) = upto 11 n 2 := by unfold ar asks upto; simp
  rw [hE]
  clear hE
  go_enter Try.func37, Try.ntmps37
  go_wp2_with (go_at_call 55; (with_reducible refine (upTo_any _ _ _ _ _).mono ?_); rintro e w2 ⟨rfl, hb2⟩)
  go_ret
  exact ⟨rfl, hB0.trans (hb2.mono hB0.size)⟩

set_option maxRecDepth 100000 in
theorem arity_23 (n : Int) (w : World) : Calls Try.prog 37 #[.agg #[.int .i64 23, .int .i64 n]] w fun e w' => e = .returned (.int .i64 (ar (23, n))) ∧ Below w.heap.size w w' := by
  have hB0 : Below w.heap.size w (w.alloc (.cells #[.int .i64 23, .int .i64 n] 39)) := (Below.refl _ _).alloc (Nat.le_refl _) _
  have hE : ar (23, n) = upto 0 n 3 := by unfold ar asks upto; simp
  rw [hE]
  clear hE
  go_enter Try.func37, Try.ntmps37
  go_wp2_with (go_at_call 55; (with_reducible refine (upTo_any _ _ _ _ _).mono ?_); rintro e w2 ⟨rfl, hb2⟩)
  go_ret
  exact ⟨rfl, hB0.trans (hb2.mono hB0.size)⟩

set_option maxRecDepth 100000 in
theorem arity_24 (n : Int) (w : World) : Calls Try.prog 37 #[.agg #[.int .i64 24, .int .i64 n]] w fun e w' => e = .returned (.int .i64 (ar (24, n))) ∧ Below w.heap.size w w' := by
  have hB0 : Below w.heap.size w (w.alloc (.cells #[.int .i64 24, .int .i64 n] 39)) := (Below.refl _ _).alloc (Nat.le_refl _) _
  have hE : ar (24, n) = upto 0 n 2 := by unfold ar asks upto; simp
  rw [hE]
  clear hE
  go_enter Try.func37, Try.ntmps37
  go_wp2_with (go_at_call 55; (with_reducible refine (upTo_any _ _ _ _ _).mono ?_); rintro e w2 ⟨rfl, hb2⟩)
  go_ret
  exact ⟨rfl, hB0.trans (hb2.mono hB0.size)⟩

set_option maxRecDepth 100000 in
theorem arity_25 (n : Int) (w : World) : Calls Try.prog 37 #[.agg #[.int .i64 25, .int .i64 n]] w fun e w' => e = .returned (.int .i64 (ar (25, n))) ∧ Below w.heap.size w w' := by
  have hB0 : Below w.heap.size w (w.alloc (.cells #[.int .i64 25, .int .i64 n] 39)) := (Below.refl _ _).alloc (Nat.le_refl _) _
  have hE : ar (25, n) = upto 0 n 1 := by unfold ar asks upto; simp
  rw [hE]
  clear hE
  go_enter Try.func37, Try.ntmps37
  go_wp2_with (go_at_call 55; (with_reducible refine (upTo_any _ _ _ _ _).mono ?_); rintro e w2 ⟨rfl, hb2⟩)
  go_ret
  exact ⟨rfl, hB0.trans (hb2.mono hB0.size)⟩

set_option maxRecDepth 100000 in
theorem arity_26 (n : Int) (w : World) : Calls Try.prog 37 #[.agg #[.int .i64 26, .int .i64 n]] w fun e w' => e = .returned (.int .i64 (ar (26, n))) ∧ Below w.heap.size w w' := by
  have hB0 : Below w.heap.size w (w.alloc (.cells #[.int .i64 26, .int .i64 n] 39)) := (Below.refl _ _).alloc (Nat.le_refl _) _
  have hE : ar (26, n) = upto 0 n 0 := by unfold ar asks upto; simp
  rw [hE]
  clear hE
  go_enter Try.func37, Try.ntmps37
  go_wp2_with (go_at_call 55; (with_reducible refine (upTo_any _ _ _ _ _).mono ?_); rintro e w2 ⟨rfl, hb2⟩)
  go_ret
  exact ⟨rfl, hB0.trans (hb2.mono hB0.size)⟩

set_option maxRecDepth 100000 in
theorem arity_else (t n : Int) (h : t < 1 ∨ 26 < t) (w : World) : Calls Try.prog 37 #[.agg #[.int .i64 t, .int .i64 n]] w fun e w' => e = .returned (.int .i64 (ar (t, n))) ∧ Below w.heap.size w w' := by
  have hB0 : Below w.heap.size w (w.alloc (.cells #[.int .i64 t, .int .i64 n] 39)) := (Below.refl _ _).alloc (Nat.le_refl _) _
  have e1 : (t == 1) = false := by rw [beq_eq_false_iff_ne]; omega
  have e2 : (t == 2) = false := by rw [beq_eq_false_iff_ne]; omega
  have e3 : (t == 3) = false := by rw [beq_eq_false_iff_ne]; omega
  have e4 : (t == 4) = false := by rw [beq_eq_false_iff_ne]; omega
  have e5 : (t == 5) = false := by rw [beq_eq_false_iff_ne]; omega
  have e6 : (t == 6) = false := by rw [beq_eq_false_iff_ne]; omega
  have e7 : (t == 7) = false := by rw [beq_eq_false_iff_ne]; omega
  have e8 : (t == 8) = false := by rw [beq_eq_false_iff_ne]; omega
  have e9 : (t == 9) = false := by rw [beq_eq_false_iff_ne]; omega
  have e10 : (t == 10) = false := by rw [beq_eq_false_iff_ne]; omega
  have e11 : (t == 11) = false := by rw [beq_eq_false_iff_ne]; omega
  have e12 : (t == 12) = false := by rw [beq_eq_false_iff_ne]; omega
  have e13 : (t == 13) = false := by rw [beq_eq_false_iff_ne]; omega
  have e14 : (t == 14) = false := by rw [beq_eq_false_iff_ne]; omega
  have e15 : (t == 15) = false := by rw [beq_eq_false_iff_ne]; omega
  have e16 : (t == 16) = false := by rw [beq_eq_false_iff_ne]; omega
  have e17 : (t == 17) = false := by rw [beq_eq_false_iff_ne]; omega
  have e18 : (t == 18) = false := by rw [beq_eq_false_iff_ne]; omega
  have e19 : (t == 19) = false := by rw [beq_eq_false_iff_ne]; omega
  have e20 : (t == 20) = false := by rw [beq_eq_false_iff_ne]; omega
  have e21 : (t == 21) = false := by rw [beq_eq_false_iff_ne]; omega
  have e22 : (t == 22) = false := by rw [beq_eq_false_iff_ne]; omega
  have e23 : (t == 23) = false := by rw [beq_eq_false_iff_ne]; omega
  have e24 : (t == 24) = false := by rw [beq_eq_false_iff_ne]; omega
  have e25 : (t == 25) = false := by rw [beq_eq_false_iff_ne]; omega
  have e26 : (t == 26) = false := by rw [beq_eq_false_iff_ne]; omega
  rw [ar_else h]
  clear h
  go_enter Try.func37, Try.ntmps37
  go_wp2
  all_goals go_ret
  all_goals exact ⟨rfl, hB0⟩

theorem Arity_any (t n : Int) (w : World) : Calls Try.prog 37 #[.agg #[.int .i64 t, .int .i64 n]] w fun e w' => e = .returned (.int .i64 (ar (t, n))) ∧ Below w.heap.size w w' := by
  by_cases h : t < 1 ∨ 26 < t
  · exact arity_else t n h w
  · obtain ⟨k, rfl⟩ := Int.eq_ofNat_of_zero_le (show 0 ≤ t by omega)
    rcases (show k = 1 ∨ k = 2 ∨ k = 3 ∨ k = 4 ∨ k = 5 ∨ k = 6 ∨ k = 7 ∨ k = 8 ∨ k = 9 ∨ k = 10 ∨ k = 11 ∨ k = 12 ∨ k = 13 ∨ k = 14 ∨ k = 15 ∨ k = 16 ∨ k = 17 ∨ k = 18 ∨ k = 19 ∨ k = 20 ∨ k = 21 ∨ k = 22 ∨ k = 23 ∨ k = 24 ∨ k = 25 ∨ k = 26 by omega) with rfl | rfl | rfl | rfl | rfl | rfl | rfl | rfl | rfl | rfl | rfl | rfl | rfl | rfl | rfl | rfl | rfl | rfl | rfl | rfl | rfl | rfl | rfl | rfl | rfl | rfl
    · exact arity_1 n w
    · exact arity_2 n w
    · exact arity_3 n w
    · exact arity_4 n w
    · exact arity_5 n w
    · exact arity_6 n w
    · exact arity_7 n w
    · exact arity_8 n w
    · exact arity_9 n w
    · exact arity_10 n w
    · exact arity_11 n w
    · exact arity_12 n w
    · exact arity_13 n w
    · exact arity_14 n w
    · exact arity_15 n w
    · exact arity_16 n w
    · exact arity_17 n w
    · exact arity_18 n w
    · exact arity_19 n w
    · exact arity_20 n w
    · exact arity_21 n w
    · exact arity_22 n w
    · exact arity_23 n w
    · exact arity_24 n w
    · exact arity_25 n w
    · exact arity_26 n w

set_option maxRecDepth 100000 in
/-- Whether a node may not be. -/
theorem strange_any (x : Nd) (w : World) : Calls Try.prog 50 #[.agg #[.int .i64 x.1, .int .i64 x.2]] w fun e w' => e = .returned (.bool (decide (ar x < 0))) ∧ Below w.heap.size w w' := by
  have hB0 : Below w.heap.size w (w.alloc (.cells #[.int .i64 x.1, .int .i64 x.2] 39)) := (Below.refl _ _).alloc (Nat.le_refl _) _
  have hE := Lib.hid (show (ar x == -1) = decide (ar x < 0) by have := ar_le x; by_cases h : ar x < 0 <;> simp [h] <;> omega)
  obtain ⟨t, n⟩ := x
  obtain ⟨r, hr⟩ : ∃ r, ar (t, n) = r := ⟨_, rfl⟩
  have HA := Lib.hid (fun W => Arity_any t n W)
  rw [hr] at HA hE ⊢
  clear hr
  go_enter Try.func50, Try.ntmps50
  go_wp2_with (go_at_call 37; (with_reducible refine (HA.out _).mono ?_); rintro e w2 ⟨rfl, hb2⟩)
  go_ret
  exact ⟨by rw [hE.out]; rfl, hB0.trans (hb2.mono hB0.size)⟩

end Go.Proofs.Yteknfglfbkknaaa.Arena
