/-
  The statements of layer 4, walked.
-/
import Derived.Test.YtidkakjghimimaaDoorShaWorksL
namespace Go.Proofs.YtidkakjghimimaaDoor.Sha
open Go.RowKit

theorem below2 {w w1 w2 : World} (h1 : Below w.heap.size w w1) (h2 : Below w1.heap.size w1 w2) : Below w.heap.size w w2 := h1.trans (h2.mono h1.size)
theorem wf_i64 {n : Int} (h : (Lit.int .i64 n).wf = true) : -9223372036854775808 ≤ n ∧ n ≤ 9223372036854775807 := by
  simp [Lit.wf, IntKind.min, IntKind.max, IntKind.signed, IntKind.bits] at h
  omega

set_option maxRecDepth 100000 in
set_option maxHeartbeats 1000000 in
theorem shaPads_walk (n : Int) (hn : (Lit.int .i64 n).wf = true) (w : World) (hG : Cubes w) :
    Calls Tryd.prog 5 #[.int .i64 n] w fun e w' => e = .returned (.bool true) ∧ Below w.heap.size w w' := by
  obtain ⟨n0, n1⟩ := wf_i64 hn
  clear hn
  by_cases h0 : n < 0
  · go_enter Tryd.func5, Tryd.ntmps5
    go_wp2_with (first | (go_at_call 9; refine (works_any _ hG).mono ?_; rintro e w1 ⟨rfl, hb1⟩) | (go_at_call 20; refine (Pad_neg n h0 _).mono ?_; rintro e w2 ⟨rfl, rfl⟩))
    go_ret
    exact ⟨rfl, hb1⟩
  · obtain ⟨n, rfl⟩ := Int.eq_ofNat_of_zero_le (show 0 ≤ n by omega)
    have hp := fun W => Pad_any n (by omega) W
    have hq := fun W => ref_Pad_any n (by omega) W
    obtain ⟨P, hP⟩ : ∃ P : ByteArray, P = ⟨(pad n).toArray⟩ := ⟨_, rfl⟩
    have hl := pad_len n
    have hPs : P.size = (119 - n % 64) % 64 + 9 := by rw [hP, size_list, hl]
    have hp0 : ∀ h : 0 < P.size, ((P[0]'h).toNat : Int) = 128 := by subst hP; intro h; rfl
    have HP0 := Lib.hid hp0
    clear hp0
    rw [← hP] at hp hq
    have HP := Lib.hid hp
    have HQ := Lib.hid hq
    obtain ⟨r, hr⟩ : ∃ r, r = n % 64 := ⟨_, rfl⟩
    obtain ⟨m, hm⟩ : ∃ m, m = P.size := ⟨_, rfl⟩
    have e1 : (n : Int) % 64 = (r : Int) := by omega
    have e2 : (((r : Int) + (m : Int)) % 64 == 0) = true := by rw [beq_iff_eq]; omega
    have e3 : (9 : Int) ≤ (m : Int) := by omega
    have e4 : (m : Int) ≤ 72 := by omega
    have e5 : (P.size : Int) = (m : Int) := by omega
    have h9 : decide ((n : Int) < 0) = false := by simp
    clear hp hq hP hl hPs hr hm
    go_enter Tryd.func5, Tryd.ntmps5
    go_wp2_with (first | (go_at_call 9; refine (works_any _ hG).mono ?_; rintro e w1 ⟨rfl, hb1⟩) | (go_at_call 20; refine (HP.out _).mono ?_; rintro e w2 ⟨rfl, hb2⟩) | (go_at_call 21; refine (HQ.out _).mono ?_; rintro e w3 ⟨rfl, hb3⟩))
    go_ret
    exact ⟨ret_bool (by rw [beq_iff_eq]; exact HP0.out _), below2 (below2 hb1 hb2) hb3⟩

/-- A statement's first limb: a text that is too long. -/
theorem ByteArray_le (s : ByteArray) (h : ¬ 500 < s.size) : s.size ≤ 500 := by omega

set_option maxRecDepth 100000 in
set_option maxHeartbeats 1000000 in
theorem shaSums_walk (s : ByteArray) (_hs : s.size ≤ maxLen) (w : World) (hG : Cubes w) :
    Calls Tryd.prog 3 #[.string s] w fun e w' => e = .returned (.bool true) ∧ Below w.heap.size w w' := by
  by_cases hs : 500 < s.size
  · go_enter Tryd.func3, Tryd.ntmps3
    go_wp2_with (go_at_call 9; refine (works_any _ hG).mono ?_; rintro e w1 ⟨rfl, hb1⟩)
    go_ret
    exact ⟨rfl, hb1⟩
  · have hs' : s.size ≤ 1073741824 := by omega
    obtain ⟨D, hD⟩ : ∃ D : ByteArray, D = ⟨(sum s.data.toList).toArray⟩ := ⟨_, rfl⟩
    obtain ⟨X, hX⟩ : ∃ D : ByteArray, D = ⟨(hex s.data.toList).toArray⟩ := ⟨_, rfl⟩
    have hd32 : D.size = 32 := by rw [hD, size_list, sum_len]
    have h1 : ∀ W, Cubes W → _ := fun W hW => Sum_any s hs' W hW
    have h2 := fun W => ref_Sum_any s hs' W
    have h3 := fun W => Hex_any s hs' W
    have h4 := fun W => ref_Hex_any s hs' W
    rw [← hX] at h3 h4
    rw [← hD] at h1 h2
    have H1 := Lib.hid h1
    have H2 := Lib.hid h2
    have H3 := Lib.hid h3
    have H4 := Lib.hid h4
    have e32 : (D.size : Int) = 32 := by omega
    clear h1 h2 h3 h4 hD hX hd32
    go_enter Tryd.func3, Tryd.ntmps3
    go_wp2_with (go_at_call 9; refine (works_any _ hG).mono ?_; rintro e w1 ⟨rfl, hb1⟩)
    have hG1 := hG.below hb1
    refine (H1.out _ hG1).mono ?_
    rintro e w2 ⟨rfl, hb2⟩
    have hG2 := hG1.below hb2
    go_wp2_with fail
    refine (H2.out _).mono ?_
    rintro e w3 ⟨rfl, hb3⟩
    have hG3 := hG2.below hb3
    go_wp2_with fail
    refine (H3.out _).mono ?_
    rintro e w4 ⟨rfl, hb4⟩
    have hG4 := hG3.below hb4
    go_wp2_with fail
    refine (H4.out _).mono ?_
    rintro e w5 ⟨rfl, hb5⟩
    have hG5 := hG4.below hb5
    go_wp2_with fail
    refine (H1.out _ hG5).mono ?_
    rintro e w6 ⟨rfl, hb6⟩
    go_wp2_with fail
    go_ret
    exact ⟨rfl, below2 (below2 (below2 (below2 (below2 hb1 hb2) hb3) hb4) hb5) hb6⟩

theorem hex_beq (a b : ByteArray) : ((⟨(hex a.data.toList).toArray⟩ : ByteArray).toList == (⟨(hex b.data.toList).toArray⟩ : ByteArray).toList) = (a.toList == b.toList) := by
  rw [Bool.eq_iff_iff, beq_iff_eq, beq_iff_eq, ByteArray.toList_eq, ByteArray.toList_eq, ByteArray.toList_eq, ByteArray.toList_eq]
  constructor
  · intro h
    exact hex_inj _ _ (by simpa using h)
  · intro h
    simp [h]

set_option maxRecDepth 100000 in
set_option maxHeartbeats 1000000 in
theorem shaHex_walk (a : ByteArray) (_ha : a.size ≤ maxLen) (b : ByteArray) (_hb : b.size ≤ maxLen) (w : World) (hG : Cubes w) :
    Calls Tryd.prog 7 #[.string a, .string b] w fun e w' => e = .returned (.bool true) ∧ Below w.heap.size w w' := by
  by_cases hs : a.size ≤ 500 ∧ b.size ≤ 500
  · obtain ⟨ha, hb⟩ := hs
    have hab : (a ++ b).size ≤ 1073741824 := by rw [ByteArray.size_append]; omega
    obtain ⟨X, hX⟩ : ∃ D : ByteArray, D = ⟨(hex a.data.toList).toArray⟩ := ⟨_, rfl⟩
    obtain ⟨Y, hY⟩ : ∃ D : ByteArray, D = ⟨(hex b.data.toList).toArray⟩ := ⟨_, rfl⟩
    have hXs : X.size = 2 * a.size := by rw [hX, size_list, hex_len]; rfl
    have hYs : Y.size = 2 * b.size := by rw [hY, size_list, hex_len]; rfl
    have h1 := fun W => Hex_any a (by omega) W
    have h2 := fun W => Hex_any b (by omega) W
    have h3 := fun W => Hex_any (a ++ b) hab W
    have hcat : (⟨(hex (a ++ b).data.toList).toArray⟩ : ByteArray) = X ++ Y := by
      have e : (a ++ b).data.toList = a.data.toList ++ b.data.toList := by simp
      rw [e, hex_append, hX, hY, ← append_list (hex a.data.toList) (hex b.data.toList)]
    rw [hcat] at h3
    have hbq := hex_beq a b
    rw [← hX, ← hY] at hbq
    rw [← hX] at h1
    rw [← hY] at h2
    have H1 := Lib.hid h1
    have H2 := Lib.hid h2
    have H3 := Lib.hid h3
    have HQ := Lib.hid hbq
    have e1 : (X.size : Int) = 2 * (a.size : Int) := by omega
    have g1 : X.size + Y.size ≤ 4000 := by omega
    clear h1 h2 h3 hX hY hcat hbq hXs hYs hab
    go_enter Tryd.func7, Tryd.ntmps7
    go_wp2_with (go_at_call 9; refine (works_any _ hG).mono ?_; rintro e w1 ⟨rfl, hb1⟩)
    refine (H1.out _).mono ?_
    rintro e w2 ⟨rfl, hb2⟩
    go_wp2_with fail
    refine (H2.out _).mono ?_
    rintro e w3 ⟨rfl, hb3⟩
    have hq := HQ.out
    go_wp2_with fail
    refine (H3.out _).mono ?_
    rintro e w4 ⟨rfl, hb4⟩
    go_wp2_with fail
    go_ret
    exact ⟨ret_bool (by simp), below2 (below2 (below2 hb1 hb2) hb3) hb4⟩
  · by_cases ha : 500 < a.size
    · clear hs
      go_enter Tryd.func7, Tryd.ntmps7
      go_wp2_with (go_at_call 9; refine (works_any _ hG).mono ?_; rintro e w1 ⟨rfl, hb1⟩)
      go_ret
      exact ⟨rfl, hb1⟩
    · have hb : 500 < b.size := by omega
      clear hs
      go_enter Tryd.func7, Tryd.ntmps7
      go_wp2_with (go_at_call 9; refine (works_any _ hG).mono ?_; rintro e w1 ⟨rfl, hb1⟩)
      go_ret
      exact ⟨rfl, hb1⟩

end Go.Proofs.YtidkakjghimimaaDoor.Sha
