/-
  The reference of arenas, walked: how many kids a node has.
-/
import Derived.Test.YteknfglfbkknaaaArenaMath
import Derived.Test.YteknfglfbkknaaaBaseG
namespace Go.Proofs.Yteknfglfbkknaaa.Arena
open Go.RowKit Mem

set_option maxRecDepth 100000 in
theorem ref_arity_1 (n : Int) (w : World) : Calls Try.prog 51 #[.agg #[.int .i64 1, .int .i64 n]] w fun e w' => e = .returned (.int .i64 (ar (1, n))) ∧ Below w.heap.size w w' := by
  have hB0 : Below w.heap.size w (w.alloc (.cells #[.int .i64 1, .int .i64 n] 39)) := (Below.refl _ _).alloc (Nat.le_refl _) _
  go_enter Try.func51, Try.ntmps51
  go_wp2
  all_goals go_ret
  all_goals refine ⟨?_, hB0⟩
  all_goals (have hE : ∀ m : Int, ar (1, n) = m → Ending.returned (.int .i64 m) = .returned (.int .i64 (ar (1, n))) := fun m h => by rw [h])
  all_goals (refine hE _ ?_; simp [ar] <;> omega)

set_option maxRecDepth 100000 in
theorem ref_arity_2 (n : Int) (w : World) : Calls Try.prog 51 #[.agg #[.int .i64 2, .int .i64 n]] w fun e w' => e = .returned (.int .i64 (ar (2, n))) ∧ Below w.heap.size w w' := by
  have hB0 : Below w.heap.size w (w.alloc (.cells #[.int .i64 2, .int .i64 n] 39)) := (Below.refl _ _).alloc (Nat.le_refl _) _
  go_enter Try.func51, Try.ntmps51
  go_wp2
  all_goals go_ret
  all_goals refine ⟨?_, hB0⟩
  all_goals (have hE : ∀ m : Int, ar (2, n) = m → Ending.returned (.int .i64 m) = .returned (.int .i64 (ar (2, n))) := fun m h => by rw [h])
  all_goals (refine hE _ ?_; simp [ar, asks] <;> omega)

set_option maxRecDepth 100000 in
theorem ref_arity_3 (n : Int) (w : World) : Calls Try.prog 51 #[.agg #[.int .i64 3, .int .i64 n]] w fun e w' => e = .returned (.int .i64 (ar (3, n))) ∧ Below w.heap.size w w' := by
  have hB0 : Below w.heap.size w (w.alloc (.cells #[.int .i64 3, .int .i64 n] 39)) := (Below.refl _ _).alloc (Nat.le_refl _) _
  go_enter Try.func51, Try.ntmps51
  go_wp2
  all_goals go_ret
  all_goals refine ⟨?_, hB0⟩
  all_goals (have hE : ∀ m : Int, ar (3, n) = m → Ending.returned (.int .i64 m) = .returned (.int .i64 (ar (3, n))) := fun m h => by rw [h])
  all_goals (refine hE _ ?_; simp [ar, asks] <;> omega)

set_option maxRecDepth 100000 in
theorem ref_arity_4 (n : Int) (w : World) : Calls Try.prog 51 #[.agg #[.int .i64 4, .int .i64 n]] w fun e w' => e = .returned (.int .i64 (ar (4, n))) ∧ Below w.heap.size w w' := by
  have hB0 : Below w.heap.size w (w.alloc (.cells #[.int .i64 4, .int .i64 n] 39)) := (Below.refl _ _).alloc (Nat.le_refl _) _
  go_enter Try.func51, Try.ntmps51
  go_wp2
  all_goals go_ret
  all_goals refine ⟨?_, hB0⟩
  all_goals (have hE : ∀ m : Int, ar (4, n) = m → Ending.returned (.int .i64 m) = .returned (.int .i64 (ar (4, n))) := fun m h => by rw [h])
  all_goals (refine hE _ ?_; simp [ar, asks] <;> omega)

set_option maxRecDepth 100000 in
theorem ref_arity_5 (n : Int) (w : World) : Calls Try.prog 51 #[.agg #[.int .i64 5, .int .i64 n]] w fun e w' => e = .returned (.int .i64 (ar (5, n))) ∧ Below w.heap.size w w' := by
  have hB0 : Below w.heap.size w (w.alloc (.cells #[.int .i64 5, .int .i64 n] 39)) := (Below.refl _ _).alloc (Nat.le_refl _) _
  go_enter Try.func51, Try.ntmps51
  go_wp2
  all_goals go_ret
  all_goals refine ⟨?_, hB0⟩
  all_goals (have hE : ∀ m : Int, ar (5, n) = m → Ending.returned (.int .i64 m) = .returned (.int .i64 (ar (5, n))) := fun m h => by rw [h])
  all_goals (refine hE _ ?_; simp [ar, asks] <;> omega)

set_option maxRecDepth 100000 in
theorem ref_arity_6 (n : Int) (w : World) : Calls Try.prog 51 #[.agg #[.int .i64 6, .int .i64 n]] w fun e w' => e = .returned (.int .i64 (ar (6, n))) ∧ Below w.heap.size w w' := by
  have hB0 : Below w.heap.size w (w.alloc (.cells #[.int .i64 6, .int .i64 n] 39)) := (Below.refl _ _).alloc (Nat.le_refl _) _
  go_enter Try.func51, Try.ntmps51
  go_wp2
  all_goals go_ret
  all_goals refine ⟨?_, hB0⟩
  all_goals (have hE : ∀ m : Int, ar (6, n) = m → Ending.returned (.int .i64 m) = .returned (.int .i64 (ar (6, n))) := fun m h => by rw [h])
  all_goals (refine hE _ ?_; simp [ar, asks] <;> omega)

set_option maxRecDepth 100000 in
theorem ref_arity_7 (n : Int) (w : World) : Calls Try.prog 51 #[.agg #[.int .i64 7, .int .i64 n]] w fun e w' => e = .returned (.int .i64 (ar (7, n))) ∧ Below w.heap.size w w' := by
  have hB0 : Below w.heap.size w (w.alloc (.cells #[.int .i64 7, .int .i64 n] 39)) := (Below.refl _ _).alloc (Nat.le_refl _) _
  go_enter Try.func51, Try.ntmps51
  go_wp2
  all_goals go_ret
  all_goals refine ⟨?_, hB0⟩
  all_goals (have hE : ∀ m : Int, ar (7, n) = m → Ending.returned (.int .i64 m) = .returned (.int .i64 (ar (7, n))) := fun m h => by rw [h])
  all_goals (refine hE _ ?_; simp [ar, asks] <;> omega)

set_option maxRecDepth 100000 in
theorem ref_arity_8 (n : Int) (w : World) : Calls Try.prog 51 #[.agg #[.int .i64 8, .int .i64 n]] w fun e w' => e = .returned (.int .i64 (ar (8, n))) ∧ Below w.heap.size w w' := by
  have hB0 : Below w.heap.size w (w.alloc (.cells #[.int .i64 8, .int .i64 n] 39)) := (Below.refl _ _).alloc (Nat.le_refl _) _
  go_enter Try.func51, Try.ntmps51
  go_wp2
  all_goals go_ret
  all_goals refine ⟨?_, hB0⟩
  all_goals (have hE : ∀ m : Int, ar (8, n) = m → Ending.returned (.int .i64 m) = .returned (.int .i64 (ar (8, n))) := fun m h => by rw [h])
  all_goals (refine hE _ ?_; simp [ar, asks] <;> omega)

set_option maxRecDepth 100000 in
theorem ref_arity_9 (n : Int) (w : World) : Calls Try.prog 51 #[.agg #[.int .i64 9, .int .i64 n]] w fun e w' => e = .returned (.int .i64 (ar (9, n))) ∧ Below w.heap.size w w' := by
  have hB0 : Below w.heap.size w (w.alloc (.cells #[.int .i64 9, .int .i64 n] 39)) := (Below.refl _ _).alloc (Nat.le_refl _) _
  go_enter Try.func51, Try.ntmps51
  go_wp2
  all_goals go_ret
  all_goals refine ⟨?_, hB0⟩
  all_goals (have hE : ∀ m : Int, ar (9, n) = m → Ending.returned (.int .i64 m) = .returned (.int .i64 (ar (9, n))) := fun m h => by rw [h])
  all_goals (refine hE _ ?_; simp [ar, asks] <;> omega)

set_option maxRecDepth 100000 in
theorem ref_arity_10 (n : Int) (w : World) : Calls Try.prog 51 #[.agg #[.int .i64 10, .int .i64 n]] w fun e w' => e = .returned (.int .i64 (ar (10, n))) ∧ Below w.heap.size w w' := by
  have hB0 : Below w.heap.size w (w.alloc (.cells #[.int .i64 10, .int .i64 n] 39)) := (Below.refl _ _).alloc (Nat.le_refl _) _
  go_enter Try.func51, Try.ntmps51
  go_wp2
  all_goals go_ret
  all_goals refine ⟨?_, hB0⟩
  all_goals (have hE : ∀ m : Int, ar (10, n) = m → Ending.returned (.int .i64 m) = .returned (.int .i64 (ar (10, n))) := fun m h => by rw [h])
  all_goals (refine hE _ ?_; simp [ar, asks] <;> omega)

set_option maxRecDepth 100000 in
theorem ref_arity_11 (n : Int) (w : World) : Calls Try.prog 51 #[.agg #[.int .i64 11, .int .i64 n]] w fun e w' => e = .returned (.int .i64 (ar (11, n))) ∧ Below w.heap.size w w' := by
  have hB0 : Below w.heap.size w (w.alloc (.cells #[.int .i64 11, .int .i64 n] 39)) := (Below.refl _ _).alloc (Nat.le_refl _) _
  go_enter Try.func51, Try.ntmps51
  go_wp2
  all_goals go_ret
  all_goals refine ⟨?_, hB0⟩
  all_goals (have hE : ∀ m : Int, ar (11, n) = m → Ending.returned (.int .i64 m) = .returned (.int .i64 (ar (11, n))) := fun m h => by rw [h])
  all_goals (refine hE _ ?_; simp [ar, asks] <;> omega)

set_option maxRecDepth 100000 in
theorem ref_arity_12 (n : Int) (w : World) : Calls Try.prog 51 #[.agg #[.int .i64 12, .int .i64 n]] w fun e w' => e = .returned (.int .i64 (ar (12, n))) ∧ Below w.heap.size w w' := by
  have hB0 : Below w.heap.size w (w.alloc (.cells #[.int .i64 12, .int .i64 n] 39)) := (Below.refl _ _).alloc (Nat.le_refl _) _
  go_enter Try.func51, Try.ntmps51
  go_wp2
  all_goals go_ret
  all_goals refine ⟨?_, hB0⟩
  all_goals (have hE : ∀ m : Int, ar (12, n) = m → Ending.returned (.int .i64 m) = .returned (.int .i64 (ar (12, n))) := fun m h => by rw [h])
  all_goals (refine hE _ ?_; simp [ar, asks] <;> omega)

set_option maxRecDepth 100000 in
theorem ref_arity_13 (n : Int) (w : World) : Calls Try.prog 51 #[.agg #[.int .i64 13, .int .i64 n]] w fun e w' => e = .returned (.int .i64 (ar (13, n))) ∧ Below w.heap.size w w' := by
  have hB0 : Below w.heap.size w (w.alloc (.cells #[.int .i64 13, .int .i64 n] 39)) := (Below.refl _ _).alloc (Nat.le_refl _) _
  go_enter Try.func51, Try.ntmps51
  go_wp2
  all_goals go_ret
  all_goals refine ⟨?_, hB0⟩
  all_goals (have hE : ∀ m : Int, ar (13, n) = m → Ending.returned (.int .i64 m) = .returned (.int .i64 (ar (13, n))) := fun m h => by rw [h])
  all_goals (refine hE _ ?_; simp [ar, asks] <;> omega)

set_option maxRecDepth 100000 in
theorem ref_arity_14 (n : Int) (w : World) : Calls Try.prog 51 #[.agg #[.int .i64 14, .int .i64 n]] w fun e w' => e = .returned (.int .i64 (ar (14, n))) ∧ Below w.heap.size w w' := by
  have hB0 : Below w.heap.size w (w.alloc (.cells #[.int .i64 14, .int .i64 n] 39)) := (Below.refl _ _).alloc (Nat.le_refl _) _
  go_enter Try.func51, Try.ntmps51
  go_wp2
  all_goals go_ret
  all_goals refine ⟨?_, hB0⟩
  all_goals (have hE : ∀ m : Int, ar (14, n) = m → Ending.returned (.int .i64 m) = .returned (.int .i64 (ar (14, n))) := fun m h => by rw [h])
  all_goals (refine hE _ ?_; simp [ar, asks] <;> omega)

set_option maxRecDepth 100000 in
theorem ref_arity_15 (n : Int) (w : World) : Calls Try.prog 51 #[.agg #[.int .i64 15, .int .i64 n]] w fun e w' => e = .returned (.int .i64 (ar (15, n))) ∧ Below w.heap.size w w' := by
  have hB0 : Below w.heap.size w (w.alloc (.cells #[.int .i64 15, .int .i64 n] 39)) := (Below.refl _ _).alloc (Nat.le_refl _) _
  go_enter Try.func51, Try.ntmps51
  go_wp2
  all_goals go_ret
  all_goals refine ⟨?_, hB0⟩
  all_goals (have hE : ∀ m : Int, ar (15, n) = m → Ending.returned (.int .i64 m) = .returned (.int .i64 (ar (15, n))) := fun m h => by rw [h])
  all_goals (refine hE _ ?_; simp [ar, asks] <;> omega)

set_option maxRecDepth 100000 in
theorem ref_arity_16 (n : Int) (w : World) : Calls Try.prog 51 #[.agg #[.int .i64 16, .int .i64 n]] w fun e w' => e = .returned (.int .i64 (ar (16, n))) ∧ Below w.heap.size w w' := by
  have hB0 : Below w.heap.size w (w.alloc (.cells #[.int .i64 16, .int .i64 n] 39)) := (Below.refl _ _).alloc (Nat.le_refl _) _
  go_enter Try.func51, Try.ntmps51
  go_wp2
  all_goals go_ret
  all_goals refine ⟨?_, hB0⟩
  all_goals (have hE : ∀ m : Int, ar (16, n) = m → Ending.returned (.int .i64 m) = .returned (.int .i64 (ar (16, n))) := fun m h => by rw [h])
  all_goals (refine hE _ ?_; simp [ar, asks] <;> omega)

set_option maxRecDepth 100000 in
theorem ref_arity_17 (n : Int) (w : World) : Calls Try.prog 51 #[.agg #[.int .i64 17, .int .i64 n]] w fun e w' => e = .returned (.int .i64 (ar (17, n))) ∧ Below w.heap.size w w' := by
  have hB0 : Below w.heap.size w (w.alloc (.cells #[.int .i64 17, .int .i64 n] 39)) := (Below.refl _ _).alloc (Nat.le_refl _) _
  go_enter Try.func51, Try.ntmps51
  go_wp2
  all_goals go_ret
  all_goals refine ⟨?_, hB0⟩
  all_goals (have hE : ∀ m : Int, ar (17, n) = m → Ending.returned (.int .i64 m) = .returned (.int .i64 (ar (17, n))) := fun m h => by rw [h])
  all_goals (refine hE _ ?_; simp [ar, asks] <;> omega)

set_option maxRecDepth 100000 in
theorem ref_arity_18 (n : Int) (w : World) : Calls Try.prog 51 #[.agg #[.int .i64 18, .int .i64 n]] w fun e w' => e = .returned (.int .i64 (ar (18, n))) ∧ Below w.heap.size w w' := by
  have hB0 : Below w.heap.size w (w.alloc (.cells #[.int .i64 18, .int .i64 n] 39)) := (Below.refl _ _).alloc (Nat.le_refl _) _
  go_enter Try.func51, Try.ntmps51
  go_wp2
  all_goals go_ret
  all_goals refine ⟨?_, hB0⟩
  all_goals (have hE : ∀ m : Int, ar (18, n) = m → Ending.returned (.int .i64 m) = .returned (.int .i64 (ar (18, n))) := fun m h => by rw [h])
  all_goals (refine hE _ ?_; simp [ar, asks] <;> omega)

set_option maxRecDepth 100000 in
theorem ref_arity_19 (n : Int) (w : World) : Calls Try.prog 51 #[.agg #[.int .i64 19, .int .i64 n]] w fun e w' => e = .returned (.int .i64 (ar (19, n))) ∧ Below w.heap.size w w' := by
  have hB0 : Below w.heap.size w (w.alloc (.cells #[.int .i64 19, .int .i64 n] 39)) := (Below.refl _ _).alloc (Nat.le_refl _) _
  go_enter Try.func51, Try.ntmps51
  go_wp2
  all_goals go_ret
  all_goals refine ⟨?_, hB0⟩
  all_goals (have hE : ∀ m : Int, ar (19, n) = m → Ending.returned (.int .i64 m) = .returned (.int .i64 (ar (19, n))) := fun m h => by rw [h])
  all_goals (refine hE _ ?_; simp [ar, asks] <;> omega)

set_option maxRecDepth 100000 in
theorem ref_arity_20 (n : Int) (w : World) : Calls Try.prog 51 #[.agg #[.int .i64 20, .int .i64 n]] w fun e w' => e = .returned (.int .i64 (ar (20, n))) ∧ Below w.heap.size w w' := by
  have hB0 : Below w.heap.size w (w.alloc (.cells #[.int .i64 20, .int .i64 n] 39)) := (Below.refl _ _).alloc (Nat.le_refl _) _
  go_enter Try.func51, Try.ntmps51
  go_wp2
  all_goals go_ret
  all_goals refine ⟨?_, hB0⟩
  all_goals (have hE : ∀ m : Int, ar (20, n) = m → Ending.returned (.int .i64 m) = .returned (.int .i64 (ar (20, n))) := fun m h => by rw [h])
  all_goals (refine hE _ ?_; simp [ar, asks] <;> omega)

set_option maxRecDepth 100000 in
theorem ref_arity_21 (n : Int) (w : World) : Calls Try.prog 51 #[.agg #[.int .i64 21, .int .i64 n]] w fun e w' => e = .returned (.int .i64 (ar (21, n))) ∧ Below w.heap.size w w' := by
  have hB0 : Below w.heap.size w (w.alloc (.cells #[.int .i64 21, .int .i64 n] 39)) := (Below.refl _ _).alloc (Nat.le_refl _) _
  go_enter Try.func51, Try.ntmps51
  go_wp2
  all_goals go_ret
  all_goals refine ⟨?_, hB0⟩
  all_goals (have hE : ∀ m : Int, ar (21, n) = m → Ending.returned (.int .i64 m) = .returned (.int .i64 (ar (21, n))) := fun m h => by rw [h])
  all_goals (refine hE _ ?_; simp [ar, asks] <;> omega)

set_option maxRecDepth 100000 in
theorem ref_arity_22 (n : Int) (w : World) : Calls Try.prog 51 #[.agg #[.int .i64 22, .int .i64 n]] w fun e w' => e = .returned (.int .i64 (ar (22, n))) ∧ Below w.heap.size w w' := by
  have hB0 : Below w.heap.size w (w.alloc (.cells #[.int .i64 22, .int .i64 n] 39)) := (Below.refl _ _).alloc (Nat.le_refl _) _
  go_enter Try.func51, Try.ntmps51
  go_wp2
  all_goals go_ret
  all_goals refine ⟨?_, hB0⟩
  all_goals (have hE : ∀ m : Int, ar (22, n) = m → Ending.returned (.int .i64 m) = .returned (.int .i64 (ar (22, n))) := fun m h => by rw [h])
  all_goals (refine hE _ ?_; simp [ar, asks] <;> omega)

set_option maxRecDepth 100000 in
theorem ref_arity_23 (n : Int) (w : World) : Calls Try.prog 51 #[.agg #[.int .i64 23, .int .i64 n]] w fun e w' => e = .returned (.int .i64 (ar (23, n))) ∧ Below w.heap.size w w' := by
  have hB0 : Below w.heap.size w (w.alloc (.cells #[.int .i64 23, .int .i64 n] 39)) := (Below.refl _ _).alloc (Nat.le_refl _) _
  go_enter Try.func51, Try.ntmps51
  go_wp2
  all_goals go_ret
  all_goals refine ⟨?_, hB0⟩
  all_goals (have hE : ∀ m : Int, ar (23, n) = m → Ending.returned (.int .i64 m) = .returned (.int .i64 (ar (23, n))) := fun m h => by rw [h])
  all_goals (refine hE _ ?_; simp [ar, asks] <;> omega)

set_option maxRecDepth 100000 in
theorem ref_arity_24 (n : Int) (w : World) : Calls Try.prog 51 #[.agg #[.int .i64 24, .int .i64 n]] w fun e w' => e = .returned (.int .i64 (ar (24, n))) ∧ Below w.heap.size w w' := by
  have hB0 : Below w.heap.size w (w.alloc (.cells #[.int .i64 24, .int .i64 n] 39)) := (Below.refl _ _).alloc (Nat.le_refl _) _
  go_enter Try.func51, Try.ntmps51
  go_wp2
  all_goals go_ret
  all_goals refine ⟨?_, hB0⟩
  all_goals (have hE : ∀ m : Int, ar (24, n) = m → Ending.returned (.int .i64 m) = .returned (.int .i64 (ar (24, n))) := fun m h => by rw [h])
  all_goals (refine hE _ ?_; simp [ar, asks] <;> omega)

set_option maxRecDepth 100000 in
theorem ref_arity_25 (n : Int) (w : World) : Calls Try.prog 51 #[.agg #[.int .i64 25, .int .i64 n]] w fun e w' => e = .returned (.int .i64 (ar (25, n))) ∧ Below w.heap.size w w' := by
  have hB0 : Below w.heap.size w (w.alloc (.cells #[.int .i64 25, .int .i64 n] 39)) := (Below.refl _ _).alloc (Nat.le_refl _) _
  go_enter Try.func51, Try.ntmps51
  go_wp2
  all_goals go_ret
  all_goals refine ⟨?_, hB0⟩
  all_goals (have hE : ∀ m : Int, ar (25, n) = m → Ending.returned (.int .i64 m) = .returned (.int .i64 (ar (25, n))) := fun m h => by rw [h])
  all_goals (refine hE _ ?_; simp [ar, asks] <;> omega)

set_option maxRecDepth 100000 in
theorem ref_arity_26 (n : Int) (w : World) : Calls Try.prog 51 #[.agg #[.int .i64 26, .int .i64 n]] w fun e w' => e = .returned (.int .i64 (ar (26, n))) ∧ Below w.heap.size w w' := by
  have hB0 : Below w.heap.size w (w.alloc (.cells #[.int .i64 26, .int .i64 n] 39)) := (Below.refl _ _).alloc (Nat.le_refl _) _
  go_enter Try.func51, Try.ntmps51
  go_wp2
  all_goals go_ret
  all_goals refine ⟨?_, hB0⟩
  all_goals (have hE : ∀ m : Int, ar (26, n) = m → Ending.returned (.int .i64 m) = .returned (.int .i64 (ar (26, n))) := fun m h => by rw [h])
  all_goals (refine hE _ ?_; simp [ar, asks] <;> omega)

theorem ar_else {t n : Int} (h : t < 1 ∨ 26 < t) : ar (t, n) = -1 := by
  have ha : asks t n = (-1, 0) := by
    unfold asks
    rw [if_neg (by omega), if_neg (by omega), if_neg (by omega), if_neg (by omega), if_neg (by omega), if_neg (by omega), if_neg (by omega), if_neg (by omega), if_neg (by omega)]
  unfold ar
  rw [if_neg (by simp only; omega)]
  simp only
  rw [ha]
  split <;> rfl
set_option maxRecDepth 100000 in
theorem ref_arity_else (t n : Int) (h : t < 1 ∨ 26 < t) (w : World) : Calls Try.prog 51 #[.agg #[.int .i64 t, .int .i64 n]] w fun e w' => e = .returned (.int .i64 (ar (t, n))) ∧ Below w.heap.size w w' := by
  have hB0 : Below w.heap.size w (w.alloc (.cells #[.int .i64 t, .int .i64 n] 39)) := (Below.refl _ _).alloc (Nat.le_refl _) _
  have e1 : (t == 1) = false := by rw [beq_eq_false_iff_ne]; omega
  have e2 : (t == 2) = false := by rw [beq_eq_false_iff_ne]; omega
  have e3 : (t == 3) = false := by rw [beq_eq_false_iff_ne]; omega
  have e4 : (t == 4) = false := by rw [beq_eq_false_iff_ne]; omega
  have e5 : (t == 5) = false := by rw [beq_eq_false_iff_ne]; omega
  have e6 : (t == 6) = false := by rw [beq_eq_false_iff_ne]; omega
  have e7 : (t == 7) = false := by rw [beq_eq_false_iff_ne]; omega
  have e8 : (t == 8) = false := by rw [beq_eq_false_iff_ne]; omega
  have e9 : (t == 9) = false := by rw [beq_eq_false_iff_ne]; omega
  have e10 : (t == 10) = false := by rw [beq_eq_false_iff_ne]; omega
  have e11 : (t == 11) = false := by rw [beq_eq_false_iff_ne]; omega
  have e12 : (t == 12) = false := by rw [beq_eq_false_iff_ne]; omega
  have e13 : (t == 13) = false := by rw [beq_eq_false_iff_ne]; omega
  have e14 : (t == 14) = false := by rw [beq_eq_false_iff_ne]; omega
  have e15 : (t == 15) = false := by rw [beq_eq_false_iff_ne]; omega
  have e16 : (t == 16) = false := by rw [beq_eq_false_iff_ne]; omega
  have e17 : (t == 17) = false := by rw [beq_eq_false_iff_ne]; omega
  have e18 : (t == 18) = false := by rw [beq_eq_false_iff_ne]; omega
  have e19 : (t == 19) = false := by rw [beq_eq_false_iff_ne]; omega
  have e20 : (t == 20) = false := by rw [beq_eq_false_iff_ne]; omega
  have e21 : (t == 21) = false := by rw [beq_eq_false_iff_ne]; omega
  have e22 : (t == 22) = false := by rw [beq_eq_false_iff_ne]; omega
  have e23 : (t == 23) = false := by rw [beq_eq_false_iff_ne]; omega
  have e24 : (t == 24) = false := by rw [beq_eq_false_iff_ne]; omega
  have e25 : (t == 25) = false := by rw [beq_eq_false_iff_ne]; omega
  have e26 : (t == 26) = false := by rw [beq_eq_false_iff_ne]; omega
  rw [ar_else h]
  clear h
  go_enter Try.func51, Try.ntmps51
  go_wp2
  all_goals go_ret
  all_goals exact ⟨rfl, hB0⟩

theorem ref_Arity_any (t n : Int) (w : World) : Calls Try.prog 51 #[.agg #[.int .i64 t, .int .i64 n]] w fun e w' => e = .returned (.int .i64 (ar (t, n))) ∧ Below w.heap.size w w' := by
  by_cases h : t < 1 ∨ 26 < t
  · exact ref_arity_else t n h w
  · obtain ⟨k, rfl⟩ := Int.eq_ofNat_of_zero_le (show 0 ≤ t by omega)
    rcases (show k = 1 ∨ k = 2 ∨ k = 3 ∨ k = 4 ∨ k = 5 ∨ k = 6 ∨ k = 7 ∨ k = 8 ∨ k = 9 ∨ k = 10 ∨ k = 11 ∨ k = 12 ∨ k = 13 ∨ k = 14 ∨ k = 15 ∨ k = 16 ∨ k = 17 ∨ k = 18 ∨ k = 19 ∨ k = 20 ∨ k = 21 ∨ k = 22 ∨ k = 23 ∨ k = 24 ∨ k = 25 ∨ k = 26 by omega) with rfl | rfl | rfl | rfl | rfl | rfl | rfl | rfl | rfl | rfl | rfl | rfl | rfl | rfl | rfl | rfl | rfl | rfl | rfl | rfl | rfl | rfl | rfl | rfl | rfl | rfl
    · exact ref_arity_1 n w
    · exact ref_arity_2 n w
    · exact ref_arity_3 n w
    · exact ref_arity_4 n w
    · exact ref_arity_5 n w
    · exact ref_arity_6 n w
    · exact ref_arity_7 n w
    · exact ref_arity_8 n w
    · exact ref_arity_9 n w
    · exact ref_arity_10 n w
    · exact ref_arity_11 n w
    · exact ref_arity_12 n w
    · exact ref_arity_13 n w
    · exact ref_arity_14 n w
    · exact ref_arity_15 n w
    · exact ref_arity_16 n w
    · exact ref_arity_17 n w
    · exact ref_arity_18 n w
    · exact ref_arity_19 n w
    · exact ref_arity_20 n w
    · exact ref_arity_21 n w
    · exact ref_arity_22 n w
    · exact ref_arity_23 n w
    · exact ref_arity_24 n w
    · exact ref_arity_25 n w
    · exact ref_arity_26 n w

end Go.Proofs.Yteknfglfbkknaaa.Arena
