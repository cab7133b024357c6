/-
  The laws of layer 1, walked: each returns true.
-/
import Derived.Test.YtjkajajbkmohdaaLebWorks
import Derived.Deep.RegionHeld3
import Derived.Deep.DrawnRows
namespace Go.Proofs.Ytjkajajbkmohdaa.Leb
open Go.RowKit

attribute [local go_sem ↓] Go.wp_at_zero Go.wp_at_succ

theorem ret_bool {p q : Bool} (h : p = q) : Ending.returned (.bool p) = .returned (.bool q) := by rw [h]

theorem size_mk (l : List UInt8) : (ByteArray.mk l.toArray).size = l.length := by simp [ByteArray.size]

theorem wf_u64_bounds {n : Int} (h : (Lit.int .u64 n).wf = true) : 0 ≤ n ∧ n ≤ 18446744073709551615 := by
  simp [Lit.wf, IntKind.min, IntKind.max, IntKind.signed, IntKind.bits] at h
  omega

set_option maxRecDepth 100000 in
set_option maxHeartbeats 1000000 in
theorem lebPuts_walk (n : Int) (hn : (Lit.int .u64 n).wf = true) (w : World) :
    Calls Try.prog 3 #[.int .u64 n] w fun e w' => e = .returned (.bool true) ∧ Below w.heap.size w w' := by
  obtain ⟨h0, h1⟩ := wf_u64_bounds hn
  have hl := lput_len10 (n := n.toNat) (by omega)
  have hp := lput_pos n.toNat
  have hd : decide (((lput n.toNat).length : Int) ≤ 10) = true := by simp; omega
  go_enter Try.func3, Try.ntmps3
  go_wp2_with fail
  refine (works_any _).mono ?_
  rintro e w1 ⟨rfl, hb1⟩
  go_wp2_with fail
  refine (ref_put_any n h0 h1 _).mono ?_
  rintro e w2 ⟨rfl, hb2⟩
  go_wp2_with fail
  refine (Put_any n h0 h1 _).mono ?_
  rintro e w3 ⟨rfl, hb3⟩
  go_wp2_with fail
  refine (Size_any n h0 h1 _).mono ?_
  rintro e w4 ⟨rfl, hb4⟩
  go_wp2_with fail
  go_ret
  have s1 := hb1.size
  have s2 := hb2.size
  have s3 := hb3.size
  exact ⟨rfl, ((hb1.trans (hb2.mono (by omega))).trans (hb3.mono (by omega))).trans (hb4.mono (by omega))⟩

set_option maxRecDepth 100000 in
set_option maxHeartbeats 1000000 in
theorem lebGets_walk (s : ByteArray) (_hs : s.size ≤ maxLen) (a : Int) (_ha : (Lit.int .i64 a).wf = true) (w : World) :
    Calls Try.prog 4 #[.string s, .int .i64 a] w fun e w' => e = .returned (.bool true) ∧ Below w.heap.size w w' := by
  by_cases hs : 2000 < s.size
  · go_enter Try.func4, Try.ntmps4
    go_wp2_with (go_at_call 9; refine (works_any _).mono ?_; rintro e w1 ⟨rfl, hb1⟩)
    go_ret
    exact ⟨rfl, hb1⟩
  · go_enter Try.func4, Try.ntmps4
    go_wp2_with (go_at_call 9; refine (works_any _).mono ?_; rintro e w1 ⟨rfl, hb1⟩)
    refine (get_any s a (by omega) _).mono ?_
    rintro e w2 ⟨rfl, hb2⟩
    go_wp2_with fail
    refine (ref_get_any s a (by omega) _).mono ?_
    rintro e w3 ⟨rfl, hb3⟩
    go_wp2_with fail
    go_ret
    have s1 := hb1.size
    have s2 := hb2.size
    exact ⟨rfl, (hb1.trans (hb2.mono (by omega))).trans (hb3.mono (by omega))⟩

set_option maxRecDepth 100000 in
set_option maxHeartbeats 1000000 in
theorem lebOnly_walk (s : ByteArray) (_hs : s.size ≤ maxLen) (a : Int) (_ha : (Lit.int .i64 a).wf = true) (w : World) :
    Calls Try.prog 6 #[.string s, .int .i64 a] w fun e w' => e = .returned (.bool true) ∧ Below w.heap.size w w' := by
  by_cases hs : 2000 < s.size
  · go_enter Try.func6, Try.ntmps6
    go_wp2_with (go_at_call 9; refine (works_any _).mono ?_; rintro e w1 ⟨rfl, hb1⟩)
    go_ret
    exact ⟨rfl, hb1⟩
  · have hg := get_any s a (by omega)
    have hle := lget_fst_le s.data.toList a
    by_cases he : (lget s.data.toList a).2.2 = 0
    · have h1 := lget_only s.data.toList a he
      unfold GetEnds at hg
      obtain ⟨⟨n, b, c⟩, hl⟩ : ∃ t, lget s.data.toList a = t := ⟨_, rfl⟩
      rw [hl] at h1 he hg hle
      simp only at h1 he hg hle
      subst he
      obtain ⟨h2, h3, h4, h5⟩ := h1
      rw [str_len] at h4
      have HG := Lib.hid hg
      have H5 := Lib.hid h5
      have HP := Lib.hid (fun W => Put_any (n : Int) (by omega) (by omega) W)
      rw [Int.toNat_natCast] at HP
      clear hg h5 hl
      go_enter Try.func6, Try.ntmps6
      go_wp2_with (first | (go_at_call 9; refine (works_any _).mono ?_; rintro e w1 ⟨rfl, hb1⟩) | (go_at_call 13; refine (HG.out _).mono ?_; rintro e w2 ⟨rfl, hb2⟩))
      have b1 : decide (a < b) = true := by simpa using h3
      have b2 : decide (b ≤ (s.size : Int)) = true := by simpa using h4
      have b3 : a ≤ b := by omega
      have b4 : 0 ≤ b := by omega
      go_region_held3 (fun _ => True) (trivial) (first | (go_at_call 11; refine (HP.out _).mono ?_; rintro e w3 ⟨rfl, hb3⟩))
      go_wp2
      go_ret
      have s1 := hb1.size
      have s2 := hb2.size
      refine ⟨ret_bool ?_, ((hb1.trans (hb2.mono (by omega))).drew).trans (hb3.mono (by simp; omega))⟩
      rw [ByteArray.toList_eq, Lib.extract_data, H5.out]
      simp
    · obtain ⟨h1, h2⟩ := lget_err s.data.toList a he
      unfold GetEnds at hg
      obtain ⟨⟨n, b, c⟩, hl⟩ : ∃ t, lget s.data.toList a = t := ⟨_, rfl⟩
      rw [hl] at h1 h2 he hg
      simp only at h1 h2 he hg
      subst h1 h2
      have he' : (c == 0) = false := by simpa using he
      have HG := Lib.hid hg
      clear hg hl he hle
      go_enter Try.func6, Try.ntmps6
      go_wp2_with (first | (go_at_call 9; refine (works_any _).mono ?_; rintro e w1 ⟨rfl, hb1⟩) | (go_at_call 13; refine (HG.out _).mono ?_; rintro e w2 ⟨rfl, hb2⟩))
      go_ret
      have s1 := hb1.size
      exact ⟨rfl, hb1.trans (hb2.mono (by omega))⟩

set_option maxRecDepth 100000 in
set_option maxHeartbeats 1000000 in
theorem lebBack_walk (n : Int) (hn : (Lit.int .u64 n).wf = true) (x : ByteArray) (_hx : x.size ≤ maxLen) (y : ByteArray) (_hy : y.size ≤ maxLen) (w : World) :
    Calls Try.prog 5 #[.int .u64 n, .string x, .string y] w fun e w' => e = .returned (.bool true) ∧ Below w.heap.size w w' := by
  obtain ⟨h0, h1⟩ := wf_u64_bounds hn
  have hl := lput_len10 (n := n.toNat) (by omega)
  by_cases hx : 2000 < x.size
  · go_enter Try.func5, Try.ntmps5
    go_wp2_with (go_at_call 9; refine (works_any _).mono ?_; rintro e w1 ⟨rfl, hb1⟩)
    go_ret
    exact ⟨rfl, hb1⟩
  · by_cases hy : 2000 < y.size
    · go_enter Try.func5, Try.ntmps5
      go_wp2_with (go_at_call 9; refine (works_any _).mono ?_; rintro e w1 ⟨rfl, hb1⟩)
      go_ret
      exact ⟨rfl, hb1⟩
    · go_enter Try.func5, Try.ntmps5
      go_wp2_with (go_at_call 9; refine (works_any _).mono ?_; rintro e w1 ⟨rfl, hb1⟩)
      refine (Put_any n h0 h1 _).mono ?_
      rintro e w2 ⟨rfl, hb2⟩
      go_wp2_with fail
      refine (get_any _ _ (by rw [ByteArray.size_append, ByteArray.size_append, size_mk (lput n.toNat)]; omega) _).mono ?_
      intro e w3 h
      obtain ⟨rfl, hb3⟩ := h.to (n := n.toNat) (b := (x.size : Int) + (lput n.toNat).length) (c := 0) (by
        rw [ByteArray.data_append, ByteArray.data_append, Array.toList_append, Array.toList_append]
        have := lget_back (n := n.toNat) (by omega) x.data.toList y.data.toList
        rw [str_len] at this
        exact this)
      rw [Int.toNat_of_nonneg h0]
      go_wp2_with fail
      go_ret
      have s1 := hb1.size
      have s2 := hb2.size
      exact ⟨rfl, (hb1.trans (hb2.mono (by omega))).trans (hb3.mono (by omega))⟩

theorem below2 {w w1 w2 : World} (h1 : Below w.heap.size w w1) (h2 : Below w1.heap.size w1 w2) : Below w.heap.size w w2 := h1.trans (h2.mono h1.size)

set_option maxRecDepth 100000 in
set_option maxHeartbeats 1000000 in
theorem lebOrder_walk (a : Int) (ha : (Lit.int .u64 a).wf = true) (b : Int) (hb : (Lit.int .u64 b).wf = true) (w : World) :
    Calls Try.prog 7 #[.int .u64 a, .int .u64 b] w fun e w' => e = .returned (.bool true) ∧ Below w.heap.size w w' := by
  obtain ⟨h0, h1⟩ := wf_u64_bounds ha
  obtain ⟨h2, h3⟩ := wf_u64_bounds hb
  clear ha hb
  have hla := lput_len10 (n := a.toNat) (by omega)
  have hlb := lput_len10 (n := b.toNat) (by omega)
  rcases Int.lt_trichotomy a b with hab | rfl | hab
  · have hm := lput_len_mono a.toNat b.toNat (by omega)
    have e1 : (lput a.toNat == lput b.toNat) = false := by
      rw [beq_eq_false_iff_ne]; intro h; have := lput_inj h; omega
    have e2 : (a == b) = false := by rw [beq_eq_false_iff_ne]; omega
    have e3 : decide (((lput b.toNat).length : Int) < (lput a.toNat).length) = false := by simp; omega
    go_enter Try.func7, Try.ntmps7
    go_wp2_with (go_at_call 9; refine (works_any _).mono ?_; rintro e w1 ⟨rfl, hb1⟩)
    refine (Put_any a h0 h1 _).mono ?_
    rintro e w2 ⟨rfl, hb2⟩
    go_wp2_with fail
    refine (Put_any b h2 h3 _).mono ?_
    rintro e w3 ⟨rfl, hb3⟩
    go_wp2_with fail
    refine (Size_any a h0 h1 _).mono ?_
    rintro e w4 ⟨rfl, hb4⟩
    go_wp2_with fail
    refine (Size_any b h2 h3 _).mono ?_
    rintro e w5 ⟨rfl, hb5⟩
    go_wp2_with fail
    refine (Size_any a h0 h1 _).mono ?_
    rintro e w6 ⟨rfl, hb6⟩
    go_wp2_with fail
    go_ret
    exact ⟨rfl, below2 (below2 (below2 (below2 (below2 hb1 hb2) hb3) hb4) hb5) hb6⟩
  · go_enter Try.func7, Try.ntmps7
    go_wp2_with (go_at_call 9; refine (works_any _).mono ?_; rintro e w1 ⟨rfl, hb1⟩)
    refine (Put_any a h0 h1 _).mono ?_
    rintro e w2 ⟨rfl, hb2⟩
    go_wp2_with fail
    refine (Put_any a h0 h1 _).mono ?_
    rintro e w3 ⟨rfl, hb3⟩
    go_wp2_with fail
    refine (Size_any a h0 h1 _).mono ?_
    rintro e w4 ⟨rfl, hb4⟩
    go_wp2_with fail
    go_ret
    exact ⟨rfl, below2 (below2 (below2 hb1 hb2) hb3) hb4⟩
  · have e1 : (lput a.toNat == lput b.toNat) = false := by
      rw [beq_eq_false_iff_ne]; intro h; have := lput_inj h; omega
    have e2 : (a == b) = false := by rw [beq_eq_false_iff_ne]; omega
    have e3 : decide (a < b) = false := by simp; omega
    go_enter Try.func7, Try.ntmps7
    go_wp2_with (go_at_call 9; refine (works_any _).mono ?_; rintro e w1 ⟨rfl, hb1⟩)
    refine (Put_any a h0 h1 _).mono ?_
    rintro e w2 ⟨rfl, hb2⟩
    go_wp2_with fail
    refine (Put_any b h2 h3 _).mono ?_
    rintro e w3 ⟨rfl, hb3⟩
    go_wp2_with fail
    refine (Size_any a h0 h1 _).mono ?_
    rintro e w4 ⟨rfl, hb4⟩
    go_wp2_with fail
    go_ret
    exact ⟨rfl, below2 (below2 (below2 hb1 hb2) hb3) hb4⟩

set_option maxRecDepth 100000 in
set_option maxHeartbeats 1000000 in
theorem lebPrefix_walk (a : Int) (ha : (Lit.int .u64 a).wf = true) (b : Int) (hb : (Lit.int .u64 b).wf = true) (w : World) :
    Calls Try.prog 8 #[.int .u64 a, .int .u64 b] w fun e w' => e = .returned (.bool true) ∧ Below w.heap.size w w' := by
  obtain ⟨h0, h1⟩ := wf_u64_bounds ha
  obtain ⟨h2, h3⟩ := wf_u64_bounds hb
  clear ha hb
  have hla := lput_len10 (n := a.toNat) (by omega)
  have hlb := lput_len10 (n := b.toNat) (by omega)
  by_cases hl : (lput b.toNat).length < (lput a.toNat).length
  · go_enter Try.func8, Try.ntmps8
    go_wp2_with (go_at_call 9; refine (works_any _).mono ?_; rintro e w1 ⟨rfl, hb1⟩)
    refine (Put_any a h0 h1 _).mono ?_
    rintro e w2 ⟨rfl, hb2⟩
    go_wp2_with fail
    refine (Put_any b h2 h3 _).mono ?_
    rintro e w3 ⟨rfl, hb3⟩
    go_wp2_with fail
    refine (Size_any a h0 h1 _).mono ?_
    rintro e w4 ⟨rfl, hb4⟩
    go_wp2_with fail
    refine (Size_any b h2 h3 _).mono ?_
    rintro e w5 ⟨rfl, hb5⟩
    go_wp2_with fail
    go_ret
    exact ⟨ret_bool (by simp), below2 (below2 (below2 (below2 hb1 hb2) hb3) hb4) hb5⟩
  · go_enter Try.func8, Try.ntmps8
    go_wp2_with (go_at_call 9; refine (works_any _).mono ?_; rintro e w1 ⟨rfl, hb1⟩)
    refine (Put_any a h0 h1 _).mono ?_
    rintro e w2 ⟨rfl, hb2⟩
    go_wp2_with fail
    refine (Put_any b h2 h3 _).mono ?_
    rintro e w3 ⟨rfl, hb3⟩
    go_wp2_with fail
    go_ret
    refine ⟨ret_bool ?_, below2 (below2 hb1 hb2) hb3⟩
    rw [ByteArray.toList_eq, Lib.extract_data]
    simp only [List.drop_zero, Nat.sub_zero]
    by_cases e : a = b
    · subst e
      simp
    · have e1 : (List.take (lput a.toNat).length (lput b.toNat) == lput a.toNat) = false := by
        rw [beq_eq_false_iff_ne]; intro h; have := lput_prefix_free h; omega
      have e2 : (a == b) = false := by rw [beq_eq_false_iff_ne]; exact e
      rw [e1, e2]
      rfl

end Go.Proofs.Ytjkajajbkmohdaa.Leb
