/-
  The Go text of package leb, walked: Get.
-/
import Derived.Test.YthimplhfmamejaaLebRefGet2
import Derived.Deep.LoopGhost
namespace Go.Proofs.Ythimplhfmamejaa.Leb
open Go.RowKit

set_option maxRecDepth 100000 in
set_option maxHeartbeats 400000 in
theorem get_arg (s : ByteArray) (a : Int) (ha : a < 0 ∨ (s.size : Int) < a) (w : World) : Calls Try.prog 60 #[.string s, .int .i64 a] w (GetEnds s a w) := by
  have hg := Lib.hid (lget_arg (l := s.data.toList) (a := a) (by rw [str_len]; exact ha))
  rcases ha with ha | ha
  · go_enter Try.func60, Try.ntmps60
    go_wp2
    go_step3
    go_wp2
    rw [Exit.noGoto_ret]
    go_ret3
    exact GetEnds.mk (n := 0) hg.out (Below.refl _ _)
  · have h0 : 0 ≤ a := by omega
    go_enter Try.func60, Try.ntmps60
    go_wp2
    go_step3
    go_wp2
    rw [Exit.noGoto_ret]
    go_ret3
    exact GetEnds.mk (n := 0) hg.out (Below.refl _ _)

theorem take_next (s : ByteArray) (a k : Nat) (h : a + k < s.size) : (s.data.toList.drop a).take (k + 1) = (s.data.toList.drop a).take k ++ [(s[a + k]'h)] := by
  have hk : k < (s.data.toList.drop a).length := by rw [drop_len]; omega
  have h1 := List.drop_eq_getElem_cons hk
  rw [drop_at s a k h] at h1
  have h2 := (List.cons.inj h1).1
  rw [List.take_succ_eq_append_getElem hk, ← h2]

theorem pow128 (k : Nat) : 128 ^ k = 2 ^ (7 * k) := by rw [Nat.pow_mul]

/-- One digit more, laid over the lower ones. -/
theorem or_step (x k : Nat) (b : UInt8) (hk : k ≤ 9) (hx : x < 128 ^ k) :
    bits .or .u64 (x : Int) (IntKind.u64.wrap ((b.toNat : Int) % 128 * 2 ^ (7 * k))) = (((x + 128 ^ k * (b.toNat % 128)) % 18446744073709551616 : Nat) : Int) := by
  obtain ⟨d, hd⟩ : ∃ d, b.toNat % 128 = d := ⟨_, rfl⟩
  have hp : (0 : Nat) < 2 ^ (7 * k) := Nat.pow_pos (by omega)
  have e0 : (b.toNat : Int) % 128 * 2 ^ (7 * k) = ((d * 2 ^ (7 * k) : Nat) : Int) := by rw [← hd]; simp
  have hle : 2 ^ (7 * k) ≤ 2 ^ 63 := Nat.pow_le_pow_right (by omega) (by omega)
  have e64 : (18446744073709551616 : Nat) = 2 ^ (64 - 7 * k) * 2 ^ (7 * k) := by rw [← Nat.pow_add]; rw [show 64 - 7 * k + 7 * k = 64 by omega]
  rw [e0, hd, pow128] at *
  rw [IntKind.wrap_u64, show (18446744073709551616 : Int) = ((18446744073709551616 : Nat) : Int) from rfl, ← Int.natCast_emod]
  have e1 : d * 2 ^ (7 * k) % 18446744073709551616 = d % 2 ^ (64 - 7 * k) * 2 ^ (7 * k) := by
    rw [e64, Nat.mul_mod_mul_right]
  have hq : d % 2 ^ (64 - 7 * k) < 2 ^ (64 - 7 * k) := Nat.mod_lt _ (Nat.pow_pos (by omega))
  rw [u64_or_nat _ _ (by omega) (Nat.mod_lt _ (by omega)), Nat.or_comm, nat_join (7 * k) _ _ (by rw [e1]; exact Nat.mul_mod_left _ _) (by omega)]
  have e2 : (x + 2 ^ (7 * k) * d) % 18446744073709551616 = (x + d * 2 ^ (7 * k) % 18446744073709551616) % 18446744073709551616 := by
    rw [Nat.mul_comm (2 ^ (7 * k)) d, Nat.add_mod_mod]
  have hmul : (d % 2 ^ (64 - 7 * k) + 1) * 2 ^ (7 * k) ≤ 2 ^ (64 - 7 * k) * 2 ^ (7 * k) := Nat.mul_le_mul_right _ hq
  rw [← e64, Nat.add_mul, Nat.one_mul] at hmul
  rw [e2, e1]
  clear e1 e2 e0 hq e64
  generalize d % 2 ^ (64 - 7 * k) * 2 ^ (7 * k) = z at *
  generalize 2 ^ (7 * k) = p at *
  rw [Nat.mod_eq_of_lt (show x + z < 18446744073709551616 by omega)]
  omega

theorem mval_small {r : List UInt8} {k : Nat} (hk : k ≤ 9) (hl : r.length ≤ k) : mval r = lval r ∧ lval r < 128 ^ k := by
  have h1 := lval_lt r
  have h2 : 128 ^ r.length ≤ 128 ^ k := Nat.pow_le_pow_right (by omega) hl
  have h3 : 128 ^ k ≤ 128 ^ 9 := Nat.pow_le_pow_right (by omega) hk
  exact ⟨Nat.mod_eq_of_lt (by omega), by omega⟩

theorem mval_next (s : ByteArray) (a k : Nat) (h : a + k < s.size) (hk : k ≤ 9) :
    bits .or .u64 (mval ((s.data.toList.drop a).take k) : Int) (IntKind.u64.wrap (((s[a + k]'h).toNat : Int) % 128 * 2 ^ (7 * k))) = (mval ((s.data.toList.drop a).take (k + 1)) : Int) := by
  have hl : ((s.data.toList.drop a).take k).length = k := by rw [List.length_take, drop_len]; omega
  obtain ⟨e1, e2⟩ := mval_small hk (Nat.le_of_eq hl)
  rw [e1, or_step _ k _ hk e2, take_next s a k h]
  unfold mval
  rw [lval_append, hl]
  simp [lval]

set_option maxRecDepth 100000 in
set_option maxHeartbeats 400000 in
theorem get_in (s : ByteArray) (a : Nat) (ha : a ≤ s.size) (hs : s.size ≤ 1073741824) (w : World) : Calls Try.prog 60 #[.string s, .int .i64 a] w (GetEnds s a w) := by
  have hd1 : decide ((a : Int) < 0) = false := by simp
  have hd2 : decide (s.size < a) = false := by simp; omega
  go_enter Try.func60, Try.ntmps60
  go_wp2
  go_step3
  go_wp2
  go_step3
  go_wp2
  go_loop [7, 20] (fun n v => ∃ k : Nat, k ≤ 10 ∧ a + k ≤ s.size ∧ v = .int .i64 k ∧ n = .int .u64 (mval ((s.data.toList.drop a).take k)) ∧ Hid (Highs (s.data.toList.drop a) k)) (fun _ v => 10 - (intOf v).toNat)
  case atStart => exact ⟨0, by omega, by omega, rfl, rfl, Highs.zero _⟩
  case round =>
    obtain ⟨k, hk, hak, rfl, rfl, HH⟩ := hrel
    by_cases h1 : k < 10
    · by_cases h2 : a + k = s.size
      · have h2' : ((a : Int) + (k : Int) == (s.size : Int)) = true := by simp; omega
        have hg := Lib.hid (lget_short (l := s.data.toList) (a := a) (by rw [str_len]; omega) (lbytes_short HH.out h1 h2) (by rw [str_len]; omega))
        clear h2
        go_wp2
        go_ret3
        exact GetEnds.mk (n := 0) hg.out (Below.refl _ _)
      · have h2' : ((a : Int) + (k : Int) == (s.size : Int)) = false := by simp; omega
        have h3 : a + k < s.size := by omega
        clear h2
        have E := mval_next s a k h3 (by omega)
        have hml := mval_le ((s.data.toList.drop a).take (k + 1))
        obtain ⟨m, hm⟩ : ∃ m, mval ((s.data.toList.drop a).take (k + 1)) = m := ⟨_, rfl⟩
        rw [hm] at E hml
        have HM := Lib.hid hm
        clear hm
        have HP := Lib.hid (fun W => Put_any (m : Int) (by omega) hml W)
        rw [Int.toNat_natCast] at HP
        go_wp2_with fail
        · have hb : 128 ≤ (s[a + k].toNat : Int) := by assumption
          go_round
          case rel => exact ⟨k + 1, by omega, by omega, by go_num, by rw [HM.out], HH.out.next h3 hb⟩
          case measure => simp [intOf]; omega
        · have hb : (s[a + k].toNat : Int) < 128 := by assumption
          have hk2 := lbytes_hit HH.out h1 h3 hb
          have HK := Lib.hid hk2
          clear hk2 E
          have b1 : (0 : Int) ≤ (a : Int) := by omega
          have b2 : (0 : Int) ≤ (a : Int) + (k : Int) + 1 := by omega
          have b3 : (a : Int) ≤ (a : Int) + (k : Int) + 1 := by omega
          have b4 : (a : Int) + (k : Int) + 1 ≤ (s.size : Int) := by omega
          have e2 : ((a : Int) + (k : Int) + 1).toNat = a + (k + 1) := by omega
          go_region_with (go_at_call 23; refine (HP.out _).mono ?_; rintro e w1 ⟨rfl, hb1⟩)
          all_goals go_wp2
          · have ht : (!lput m == (s.extract a (a + (k + 1))).toList) = true := by assumption
            rw [Exit.noGoto_ret]
            go_ret3
            refine GetEnds.mk (n := 0) (lget_no (by rw [str_len]; omega) HK.out (by omega) ?_) ((Below.refl _ w).drew.trans (hb1.mono (by simp)))
            rw [HM.out]
            rw [ByteArray.toList_eq, extract_take] at ht
            simpa using ht
          · have ht : (!lput m == (s.extract a (a + (k + 1))).toList) = false := by assumption
            rw [Exit.noGoto_ret]
            go_ret3
            refine GetEnds.mk (n := m) ((lget_ok (by rw [str_len]; omega) HK.out (by omega) ?_).trans (by rw [HM.out]; simp; omega)) ((Below.refl _ w).drew.trans (hb1.mono (by simp)))
            rw [HM.out]
            rw [ByteArray.toList_eq, extract_take] at ht
            simpa using ht
    · go_wp2
      by_cases h2 : s.size - a < 10
      · exact absurd h2 (by omega)
      · go_ret3
        exact GetEnds.mk (n := 0) (lget_long (by rw [str_len]; omega) (lbytes_ten HH.out (by omega) hak) (by rw [str_len]; omega)) (Below.refl _ _)

theorem get_any (s : ByteArray) (a : Int) (hs : s.size ≤ 1073741824) (w : World) : Calls Try.prog 60 #[.string s, .int .i64 a] w (GetEnds s a w) := by
  by_cases ha : a < 0 ∨ (s.size : Int) < a
  · exact get_arg s a ha w
  · obtain ⟨n, rfl⟩ := Int.eq_ofNat_of_zero_le (show 0 ≤ a by omega)
    exact get_in s n (by omega) hs w

theorem GetEnds.to {s : ByteArray} {a : Int} {w w' : World} {e : Ending} {n : Nat} {b c : Int} (h : GetEnds s a w e w') (hl : lget s.data.toList a = (n, b, c)) : e = .returned (.tuple #[.int .u64 n, .int .i64 b, .int .i64 c]) ∧ Below w.heap.size w w' := by
  obtain ⟨h1, h2⟩ := h
  rw [hl] at h1
  exact ⟨h1, h2⟩

end Go.Proofs.Ythimplhfmamejaa.Leb
