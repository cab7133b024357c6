/-
  The document's own Go text for layer 1, walked: Get.
-/
import Derived.Test.YthimplhfmamejaaLebRefGet
import Derived.Lib.Strings
namespace Go.Proofs.Ythimplhfmamejaa.Leb
open Go.RowKit

theorem tuple3 {n n' b b' c c' : Int} (h1 : n = n') (h2 : b = b') (h3 : c = c') : Ending.returned (.tuple #[.int .u64 n, .int .i64 b, .int .i64 c]) = .returned (.tuple #[.int .u64 n', .int .i64 b', .int .i64 c']) := by rw [h1, h2, h3]

theorem lget_arg {l : List UInt8} {a : Int} (h : a < 0 ∨ (l.length : Int) < a) : lget l a = (0, a, 1) := by unfold lget; rw [if_pos h]
theorem lget_short {l : List UInt8} {a : Nat} (ha : a ≤ l.length) (h : lbytes 10 (l.drop a) = 0) (h10 : l.length - a < 10) : lget l a = (0, (a : Int), 2) := by
  unfold lget; rw [if_neg (by omega), Int.toNat_natCast, if_pos h, if_pos h10]
theorem lget_long {l : List UInt8} {a : Nat} (ha : a ≤ l.length) (h : lbytes 10 (l.drop a) = 0) (h10 : ¬ l.length - a < 10) : lget l a = (0, (a : Int), 3) := by
  unfold lget; rw [if_neg (by omega), Int.toNat_natCast, if_pos h, if_neg h10]
theorem lget_no {l : List UInt8} {a k : Nat} (ha : a ≤ l.length) (h : lbytes 10 (l.drop a) = k) (h0 : k ≠ 0) (hp : lput (mval ((l.drop a).take k)) ≠ (l.drop a).take k) : lget l a = (0, (a : Int), 3) := by
  unfold lget; unfold mval at hp; rw [if_neg (by omega), Int.toNat_natCast, if_neg (by omega), h, if_neg hp]
theorem lget_ok {l : List UInt8} {a k : Nat} (ha : a ≤ l.length) (h : lbytes 10 (l.drop a) = k) (h0 : k ≠ 0) (hp : lput (mval ((l.drop a).take k)) = (l.drop a).take k) : lget l a = (mval ((l.drop a).take k), (a : Int) + k, 0) := by
  unfold lget; unfold mval at hp; rw [if_neg (by omega), Int.toNat_natCast, if_neg (by omega), h, if_pos hp]; rfl

/-- What both texts of Get answer. -/
def GetEnds (s : ByteArray) (a : Int) (w : World) (e : Ending) (w' : World) : Prop :=
  e = .returned (.tuple #[.int .u64 (lget s.data.toList a).1, .int .i64 (lget s.data.toList a).2.1, .int .i64 (lget s.data.toList a).2.2]) ∧ Below w.heap.size w w'

theorem GetEnds.mk {s : ByteArray} {a : Int} {w w' : World} {n : Nat} {b c : Int} (h : lget s.data.toList a = (n, b, c)) (hb : Below w.heap.size w w') : GetEnds s a w (.returned (.tuple #[.int .u64 n, .int .i64 b, .int .i64 c])) w' :=
  ⟨by rw [h], hb⟩

set_option maxRecDepth 100000 in
set_option maxHeartbeats 400000 in
theorem ref_get_arg (s : ByteArray) (a : Int) (ha : a < 0 ∨ (s.size : Int) < a) (w : World) : Calls Try.prog 34 #[.string s, .int .i64 a] w (GetEnds s a w) := by
  have hg := Lib.hid (lget_arg (l := s.data.toList) (a := a) (by rw [str_len]; exact ha))
  rcases ha with ha | ha
  · go_enter Try.func34, Try.ntmps34
    go_wp2
    go_ret3
    exact GetEnds.mk (n := 0) hg.out (Below.refl _ _)
  · have h0 : 0 ≤ a := by omega
    go_enter Try.func34, Try.ntmps34
    go_wp2
    go_ret3
    exact GetEnds.mk (n := 0) hg.out (Below.refl _ _)

set_option maxRecDepth 100000 in
set_option maxHeartbeats 400000 in
theorem ref_get_none (s : ByteArray) (a : Nat) (ha : a ≤ s.size) (hs : s.size ≤ 1073741824) (hk : lbytes 10 (s.data.toList.drop a) = 0) (w : World) : Calls Try.prog 34 #[.string s, .int .i64 a] w (GetEnds s a w) := by
  have hc := ref_bytes s a ha hs w
  rw [hk] at hc
  have HC := Lib.hid hc
  by_cases h10 : s.size - a < 10
  · have hg := Lib.hid (lget_short (l := s.data.toList) (by rw [str_len]; exact ha) hk (by rw [str_len]; exact h10))
    have h10' : (s.size : Int) - a < 10 := by omega
    clear hc hk
    go_enter Try.func34, Try.ntmps34
    go_wp2_with (go_at_call 42; refine HC.out.mono ?_; rintro e w' ⟨rfl, rfl⟩)
    go_ret3
    exact GetEnds.mk (n := 0) hg.out (Below.refl _ _)
  · have hg := Lib.hid (lget_long (l := s.data.toList) (by rw [str_len]; exact ha) hk (by rw [str_len]; exact h10))
    have h10' : ¬ (s.size : Int) - a < 10 := by omega
    clear hc hk
    go_enter Try.func34, Try.ntmps34
    go_wp2_with (go_at_call 42; refine HC.out.mono ?_; rintro e w' ⟨rfl, rfl⟩)
    go_ret3
    exact GetEnds.mk (n := 0) hg.out (Below.refl _ _)

theorem extract_take (s : ByteArray) (a k : Nat) : (s.extract a (a + k)).data.toList = (s.data.toList.drop a).take k := by
  rw [Lib.extract_data]; congr 1; omega

set_option maxRecDepth 100000 in
set_option maxHeartbeats 400000 in
theorem ref_get_some (s : ByteArray) (a k : Nat) (ha : a + k ≤ s.size) (hs : s.size ≤ 1073741824) (hk : lbytes 10 (s.data.toList.drop a) = k) (h0 : 1 ≤ k) (hk10 : k ≤ 10) (w : World) : Calls Try.prog 34 #[.string s, .int .i64 a] w (GetEnds s a w) := by
  have hc := ref_bytes s a (by omega) hs w
  rw [hk] at hc
  have HC := Lib.hid hc
  clear hc
  have HK := Lib.hid hk
  clear hk
  have hk0 : ((k : Int) == 0) = false := by simp; omega
  obtain ⟨m, hm⟩ : ∃ m, mval ((s.data.toList.drop a).take k) = m := ⟨_, rfl⟩
  have hv := fun W => ref_value (s.extract a (a + k)) (by rw [ByteArray.size_extract]; omega) W
  have hml := mval_le ((s.data.toList.drop a).take k)
  rw [extract_take, hm] at hv
  rw [hm] at hml
  have HV := Lib.hid hv
  have HM := Lib.hid hm
  clear hv hm
  have HP := Lib.hid (fun W => ref_put_any (m : Int) (by omega) hml W)
  rw [Int.toNat_natCast] at HP
  have b1 : (0 : Int) ≤ (a : Int) := by omega
  have b2 : (0 : Int) ≤ (a : Int) + (k : Int) := by omega
  have b3 : (a : Int) ≤ (a : Int) + (k : Int) := by omega
  have b4 : (a : Int) + (k : Int) ≤ (s.size : Int) := by omega
  have e1 : IntKind.i64.wrap ((a : Int) + (k : Int)) = (a : Int) + (k : Int) := IntWalk.i64_in _ (by omega)
  have e2 : ((a : Int) + (k : Int)).toNat = a + k := by omega
  go_enter Try.func34, Try.ntmps34
  go_wp2_with (first | (go_at_call 42; refine HC.out.mono ?_; rintro e w' ⟨rfl, rfl⟩) | (go_at_call 43; refine (HV.out _).mono ?_; rintro e w' ⟨rfl, rfl⟩))
  go_region_with (go_at_call 24; refine (HP.out _).mono ?_; rintro e w1 ⟨rfl, hb1⟩)
  all_goals go_wp2
  · have ht : (!lput m == (s.extract a (a + k)).toList) = true := by assumption
    go_ret3
    refine GetEnds.mk (n := 0) (lget_no (by rw [str_len]; omega) HK.out (by omega) ?_) ((Below.refl _ w).drew.trans (hb1.mono (by simp)))
    rw [HM.out]
    rw [ByteArray.toList_eq, extract_take] at ht
    simpa using ht
  · have ht : (!lput m == (s.extract a (a + k)).toList) = false := by assumption
    go_ret3
    refine GetEnds.mk (n := m) ((lget_ok (by rw [str_len]; omega) HK.out (by omega) ?_).trans (by rw [HM.out])) ((Below.refl _ w).drew.trans (hb1.mono (by simp)))
    rw [HM.out]
    rw [ByteArray.toList_eq, extract_take] at ht
    simpa using ht

theorem ref_get_any (s : ByteArray) (a : Int) (hs : s.size ≤ 1073741824) (w : World) : Calls Try.prog 34 #[.string s, .int .i64 a] w (GetEnds s a w) := by
  by_cases ha : a < 0 ∨ (s.size : Int) < a
  · exact ref_get_arg s a ha w
  · obtain ⟨n, rfl⟩ := Int.eq_ofNat_of_zero_le (show 0 ≤ a by omega)
    by_cases hk : lbytes 10 (s.data.toList.drop n) = 0
    · exact ref_get_none s n (by omega) hs hk w
    · have hl := lbytes_le 10 (s.data.toList.drop n)
      rw [drop_len] at hl
      exact ref_get_some s n _ (by omega) hs rfl (by omega) hl.2 w

end Go.Proofs.Ythimplhfmamejaa.Leb
