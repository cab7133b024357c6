/-
  The laws of layer 8, walked: just what the document says.
-/
import Derived.Test.YtoloocnpgmpnpaaArenaWorks
namespace Go.Proofs.Ytoloocnpgmpnpaa.Arena
open Go.RowKit Mem
set_option linter.unusedVariables false
attribute [local go_sem ↓] Go.wp_at_zero Go.wp_at_succ

theorem ret_true {p : Bool} (h : p = true) : Ending.returned (.bool p) = .returned (.bool true) := by rw [h]

set_option maxRecDepth 100000 in
set_option maxHeartbeats 4000000 in
theorem arenaChecks_walk (A : Option Addr) (cap : Nat) (xs : List Nd) (hlen : xs.length ≤ maxLen) (hcap : xs.length ≤ cap) (hA : A = none → cap = 0) (A' : Option Addr) (cap' : Nat) (ys : List Nd) (hlen' : ys.length ≤ maxLen) (hcap' : ys.length ≤ cap') (hA' : A' = none → cap' = 0) (t n : Int) (w : World)
    (hx : Nodes w w.heap.size A xs) (hy : Nodes w w.heap.size A' ys) :
    Calls Try.prog 3 #[.slice A xs.length cap, .slice A' ys.length cap', .agg #[.int .i64 t, .int .i64 n]] w fun e w' => e = .returned (.bool true) ∧ Below w.heap.size w w' := by
  have HW := Lib.hid (fun W => works_any W)
  have hB0 : Below w.heap.size w (w.alloc (.cells #[.int .i64 t, .int .i64 n] 24)) := (Below.refl _ _).alloc (Nat.le_refl _) _
  have bX := Blk.new w 24 #[.int .i64 t, .int .i64 n]
  have hX0 := hx.at hB0
  have hY0 := hy.at hB0
  clear hx hy
  by_cases h1 : 240 < xs.length
  · have e1 : (240 : Int) < (xs.length : Int) := by omega
    go_enter Try.func3, Try.ntmps3
    go_wp2_with (go_at_call 8; refine (HW.out _).mono ?_; rintro e w1 ⟨rfl, hb1⟩)
    go_ret
    exact ⟨rfl, below2 hB0 hb1⟩
  by_cases h2 : 240 < ys.length
  · have e1 : ¬ (240 : Int) < (xs.length : Int) := by omega
    have e2 : (240 : Int) < (ys.length : Int) := by omega
    go_enter Try.func3, Try.ntmps3
    go_wp2_with (go_at_call 8; refine (HW.out _).mono ?_; rintro e w1 ⟨rfl, hb1⟩)
    go_ret
    exact ⟨rfl, below2 hB0 hb1⟩
  have e1 : ¬ (240 : Int) < (xs.length : Int) := by omega
  have e2 : ¬ (240 : Int) < (ys.length : Int) := by omega
  have H1 := Lib.hid (fun W (hW : Nodes W W.heap.size A xs) (hW' : Nodes W W.heap.size A' ys) => ref_Same_any A cap xs A' cap' ys W hW hW' (by omega))
  have H2 := Lib.hid (fun W (hW : Nodes W W.heap.size A xs) (hW' : Nodes W W.heap.size A' ys) => Same_any A cap xs A' cap' ys W hW hW' (by omega))
  have H3 := Lib.hid (fun W (hW : Nodes W W.heap.size A xs) => Check_any A cap xs W hW (by omega))
  have H4 := Lib.hid (fun W (hW : Nodes W W.heap.size A xs) => ref_Check_any A cap xs W hW (by omega))
  have H5 := Lib.hid (fun W => Arity_any t n W)
  have H6 := Lib.hid (fun W => ref_Arity_any t n W)
  generalize decide (xs = ys) = b at *
  generalize acheck xs = c at *
  generalize ar (t, n) = r at *
  have hbl : w.heap.size < (w.alloc (.cells #[.int .i64 t, .int .i64 n] 24)).heap.size := bX.lt
  have HBX := Lib.hid (fun (W : World) (h : Below (w.alloc (.cells #[.int .i64 t, .int .i64 n] 24)).heap.size (w.alloc (.cells #[.int .i64 t, .int .i64 n] 24)) W) => (bX.below h hbl).two)
  go_enter Try.func3, Try.ntmps3
  go_wp2_with (first
    | (go_at_call 8; refine (HW.out _).mono ?_; rintro e w1 ⟨rfl, hB⟩; have hX := hX0.at hB; have hY := hY0.at hB)
    | (go_at_call 9; refine (H1.out _ hX hY).mono ?_; rintro e w2 ⟨rfl, hb⟩; have hX := hX.at hb; have hY := hY.at hb; have hB := below2 hB hb))
  have hC := HBX.out _ hB
  go_region_held3 (fun w' => w'.cell? ⟨w.heap.size, 0, none⟩ = some (.int .i64 t) ∧ w'.cell? ⟨w.heap.size, 1, none⟩ = some (.int .i64 n)) (exact hC) (first
    | (go_at_call 10; refine (H5.out _).mono ?_; rintro e w3 ⟨rfl, hb⟩; have hX := (hX.drewAt).at hb; have hY := (hY.drewAt).at hb; have hB := below2 hB.drew hb; have hC := HBX.out _ hB)
    | (go_at_call 11; refine (H6.out _).mono ?_; rintro e w3 ⟨rfl, hb⟩; have hX := hX.at hb; have hY := hY.at hb; have hB := below2 hB hb; have hC := HBX.out _ hB)
    | (go_at_call 12; refine (H3.out _ hX).mono ?_; rintro e w3 ⟨rfl, hb⟩; have hX := hX.at hb; have hY := hY.at hb; have hB := below2 hB hb; have hC := HBX.out _ hB)
    | (go_at_call 13; refine (H4.out _ hX).mono ?_; rintro e w3 ⟨rfl, hb⟩; have hX := hX.at hb; have hY := hY.at hb; have hB := below2 hB hb; have hC := HBX.out _ hB)
    | (go_at_call 14; refine (H2.out _ hX hY).mono ?_; rintro e w3 ⟨rfl, hb⟩; have hX := hX.at hb; have hY := hY.at hb; have hB := below2 hB hb; have hC := HBX.out _ hB)
    | fail)
  go_wp2
  go_ret
  exact ⟨ret_true (by simp), below2 hB0 hB⟩

set_option maxRecDepth 100000 in
set_option maxHeartbeats 4000000 in
theorem arenaTells_walk (A : Option Addr) (cap : Nat) (xs : List Nd) (hlen : xs.length ≤ maxLen) (hcap : xs.length ≤ cap) (hA : A = none → cap = 0) (a : Int) (wf : (Lit.int .i64 a).wf = true) (A' : Option Addr) (cap' : Nat) (ys : List Nd) (hlen' : ys.length ≤ maxLen) (hcap' : ys.length ≤ cap') (hA' : A' = none → cap' = 0) (w : World)
    (hx : Nodes w w.heap.size A xs) (hy : Nodes w w.heap.size A' ys) :
    Calls Try.prog 4 #[.slice A xs.length cap, .int .i64 a, .slice A' ys.length cap'] w fun e w' => e = .returned (.bool true) ∧ Below w.heap.size w w' := by
  have HW := Lib.hid (fun W => works_any W)
  by_cases h1 : 80 < xs.length
  · have e1 : (80 : Int) < (xs.length : Int) := by omega
    go_enter Try.func4, Try.ntmps4
    go_wp2_with (go_at_call 8; refine (HW.out _).mono ?_; rintro e w1 ⟨rfl, hb1⟩)
    go_ret
    exact ⟨rfl, hb1⟩
  by_cases h2 : 80 < ys.length
  · have e1 : ¬ (80 : Int) < (xs.length : Int) := by omega
    have e2 : (80 : Int) < (ys.length : Int) := by omega
    go_enter Try.func4, Try.ntmps4
    go_wp2_with (go_at_call 8; refine (HW.out _).mono ?_; rintro e w1 ⟨rfl, hb1⟩)
    go_ret
    exact ⟨rfl, hb1⟩
  have e1 : ¬ (80 : Int) < (xs.length : Int) := by omega
  have e2 : ¬ (80 : Int) < (ys.length : Int) := by omega
  have hl : xs.length ≤ 1000000 := by omega
  have hl' : ys.length ≤ 1000000 := by omega
  have H1 := Lib.hid (fun W (hW : Nodes W W.heap.size A xs) => Kids_any A cap xs a W hW hl)
  have H2 := Lib.hid (fun W (hW : Nodes W W.heap.size A xs) => (ref_Kids_any A cap xs a W hW hl).mono (fun _ _ h => h.ints))
  have H3 := Lib.hid (fun W (hW : Nodes W W.heap.size A xs) => Part_any A cap xs a W hW hA hcap hl)
  have H4 := Lib.hid (fun W (hW : Nodes W W.heap.size A xs) => ref_Part_any A cap xs a W hW hcap hl)
  have H5 := Lib.hid (fun W (hW : Nodes W W.heap.size A xs) (hW' : Nodes W W.heap.size A' ys) => Replace_any A cap xs a A' cap' ys W hW hA hcap hl hW' hA' hl')
  have H6 := Lib.hid (fun W (hW : Nodes W W.heap.size A xs) (hW' : Nodes W W.heap.size A' ys) => ref_Replace_any A cap xs a A' cap' ys W hW hA hcap hl hW' hA' hl')
  have H7 := Lib.hid (fun W (hW : Nodes W W.heap.size A xs) => End_any A cap xs a W hW hl)
  have H8 := Lib.hid (fun W (hW : Nodes W W.heap.size A xs) => ref_End_any A cap xs a W hW hl)
  have H9 := Lib.hid (fun W (hW : Nodes W W.heap.size A xs) => Depth_any A cap xs a W hW hl)
  have H10 := Lib.hid (fun W (hW : Nodes W W.heap.size A xs) => ref_Depth_any A cap xs a W hW hl)
  have hkl : (akids xs a).length ≤ 1000000 := by
    rcases aend_cases xs a with h | ⟨k, n, rfl, hs, -⟩
    · rw [kids_neg (by omega)]; simp
    · obtain ⟨x, -, h1, -⟩ := part_kids hs
      have := ar_le x
      omega
  have hpl : (apart xs a).length ≤ 1000000 := by
    unfold apart; split
    · simp
    · rw [List.length_take, List.length_drop]; omega
  have hrl : (arep xs a ys).length ≤ 1000000 := by
    unfold arep; split
    · exact hl
    · rw [List.length_append, List.length_append, List.length_take, List.length_drop]; omega
  obtain ⟨K, hK⟩ : ∃ K, akids xs a = K := ⟨_, rfl⟩
  obtain ⟨P, hP⟩ : ∃ P, apart xs a = P := ⟨_, rfl⟩
  obtain ⟨R, hR⟩ : ∃ R, arep xs a ys = R := ⟨_, rfl⟩
  obtain ⟨E, hE⟩ : ∃ E, aend xs a = E := ⟨_, rfl⟩
  obtain ⟨D, hD⟩ : ∃ D, adep xs a = D := ⟨_, rfl⟩
  rw [hK] at H1 H2 hkl
  rw [hP] at H3 H4 hpl
  rw [hR] at H5 H6 hrl
  rw [hE] at H7 H8
  rw [hD] at H9 H10
  have S1 := Lib.hid (fun A c A' c' W h h' => show Calls Try.prog 15 #[.slice A K.length c, .slice A' K.length c'] W _ from Ints_any A c K A' c' K W h h' hkl)
  have S2 := Lib.hid (fun A c A' c' W h h' => ref_Same_any A c P A' c' P W h h' hpl)
  have S3 := Lib.hid (fun A c A' c' W h h' => ref_Same_any A c R A' c' R W h h' hrl)
  rw [show decide (K = K) = true by simp] at S1
  rw [show decide (P = P) = true by simp] at S2
  rw [show decide (R = R) = true by simp] at S3
  clear hK hP hR hE hD hkl hpl hrl
  go_enter Try.func4, Try.ntmps4
  go_wp2_with (first
    | (go_at_call 8; refine (HW.out _).mono ?_; rintro e w1 ⟨rfl, hB⟩; have hX := hx.at hB; have hY := hy.at hB)
    | (go_at_call 16; refine (H1.out _ hX).mono ?_; rintro e w2 ⟨hb, A1, c1, rfl, hR1, -⟩; have hX := hX.at hb; have hY := hY.at hb; have hB := below2 hB hb)
    | (go_at_call 17; refine (H2.out _ hX).mono ?_; rintro e w2 ⟨hb, A2, c2, rfl, hR2, -⟩; have hX := hX.at hb; have hY := hY.at hb; have hB := below2 hB hb; have hR1 := hR1.at hb)
    | (go_at_call 15; refine (S1.out _ _ _ _ _ hR1 hR2).mono ?_; rintro e w2 ⟨rfl, hb⟩; have hX := hX.at hb; have hY := hY.at hb; have hB := below2 hB hb)
    | (go_at_call 18; refine (H3.out _ hX).mono ?_; rintro e w2 ⟨hb, A3, c3, rfl, -, -, hN3⟩; have hX := hX.at hb; have hY := hY.at hb; have hB := below2 hB hb)
    | (go_at_call 19; refine (H4.out _ hX).mono ?_; rintro e w2 ⟨hb, A4, c4, rfl, -, -, hN4⟩; have hX := hX.at hb; have hY := hY.at hb; have hB := below2 hB hb; have hN3 := hN3.at hb)
    | (go_at_call 20; refine (H5.out _ hX hY).mono ?_; rintro e w2 ⟨hb, A5, c5, rfl, -, -, hN5⟩; have hX := hX.at hb; have hY := hY.at hb; have hB := below2 hB hb)
    | (go_at_call 21; refine (H6.out _ hX hY).mono ?_; rintro e w2 ⟨hb, A6, c6, rfl, -, -, hN6⟩; have hX := hX.at hb; have hY := hY.at hb; have hB := below2 hB hb; have hN5 := hN5.at hb)
    | (go_at_call 9; first
        | (refine (S3.out _ _ _ _ _ hN5 hN6).mono ?_; rintro e w2 ⟨rfl, hb⟩; have hX := hX.at hb; have hY := hY.at hb; have hB := below2 hB hb)
        | (refine (S2.out _ _ _ _ _ hN3 hN4).mono ?_; rintro e w2 ⟨rfl, hb⟩; have hX := hX.at hb; have hY := hY.at hb; have hB := below2 hB hb))
    | (go_at_call 22; refine (H7.out _ hX).mono ?_; rintro e w2 ⟨rfl, hb⟩; have hX := hX.at hb; have hY := hY.at hb; have hB := below2 hB hb)
    | (go_at_call 23; refine (H8.out _ hX).mono ?_; rintro e w2 ⟨rfl, hb⟩; have hX := hX.at hb; have hY := hY.at hb; have hB := below2 hB hb)
    | (go_at_call 24; refine (H9.out _ hX).mono ?_; rintro e w2 ⟨rfl, hb⟩; have hX := hX.at hb; have hY := hY.at hb; have hB := below2 hB hb)
    | (go_at_call 25; refine (H10.out _ hX).mono ?_; rintro e w2 ⟨rfl, hb⟩; have hX := hX.at hb; have hY := hY.at hb; have hB := below2 hB hb))
  go_ret
  exact ⟨ret_true (by simp), hB⟩

end Go.Proofs.Ytoloocnpgmpnpaa.Arena
