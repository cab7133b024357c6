/-
  Hexadecimal digits, walked: by the program and by the reference.
-/
import Derived.Test.YtidkakjghimimaaDoorShaPad
namespace Go.Proofs.YtidkakjghimimaaDoor.Sha
open Go.RowKit

def DIG : ByteArray := ⟨#[48, 49, 50, 51, 52, 53, 54, 55, 56, 57, 97, 98, 99, 100, 101, 102]⟩
theorem index_dig (n : Nat) (h : n < 16) (W : World) : (Instr.index 9 (.string DIG) (.int .u8 (n : Int))).run Tryd.prog W = .ok (.int .u8 (((dig n).toNat : Nat) : Int)) W := by
  rcases (show n = 0 ∨ n = 1 ∨ n = 2 ∨ n = 3 ∨ n = 4 ∨ n = 5 ∨ n = 6 ∨ n = 7 ∨ n = 8 ∨ n = 9 ∨ n = 10 ∨ n = 11 ∨ n = 12 ∨ n = 13 ∨ n = 14 ∨ n = 15 by omega) with rfl | rfl | rfl | rfl | rfl | rfl | rfl | rfl | rfl | rfl | rfl | rfl | rfl | rfl | rfl | rfl <;> kernel_rfl
theorem extract_dig (n : Nat) (h : n < 16) : DIG.extract n (n + 1) = ⟨#[dig n]⟩ := by
  rcases (show n = 0 ∨ n = 1 ∨ n = 2 ∨ n = 3 ∨ n = 4 ∨ n = 5 ∨ n = 6 ∨ n = 7 ∨ n = 8 ∨ n = 9 ∨ n = 10 ∨ n = 11 ∨ n = 12 ∨ n = 13 ∨ n = 14 ∨ n = 15 by omega) with rfl | rfl | rfl | rfl | rfl | rfl | rfl | rfl | rfl | rfl | rfl | rfl | rfl | rfl | rfl | rfl <;> rfl

theorem take_snoc (s : ByteArray) (k : Nat) (h : k < s.size) : s.data.toList.take (k + 1) = s.data.toList.take k ++ [s[k]] := by
  rw [List.take_succ_eq_append_getElem (by simpa using h)]; rfl
theorem take_all (s : ByteArray) : s.data.toList.take s.size = s.data.toList := List.take_of_length_le (by simp)
theorem hex_take (s : ByteArray) (k : Nat) (h : k < s.size) : hex (s.data.toList.take (k + 1)) = hex (s.data.toList.take k) ++ [dig (s[k].toNat / 16), dig (s[k].toNat % 16)] := by
  rw [take_snoc s k h, hex_append]; rfl

set_option maxRecDepth 100000 in
set_option maxHeartbeats 1000000 in
theorem Hex_any (s : ByteArray) (hs : s.size ≤ 1073741824) (w : World) :
    Calls Tryd.prog 12 #[.string s] w fun e w' => e = .returned (.string ⟨(hex s.data.toList).toArray⟩) ∧ Below w.heap.size w w' := by
  obtain ⟨i0, hi, hz0, hz1, hz2⟩ := info_parts Bytes.info_u8
  go_enter Tryd.func12, Tryd.ntmps12
  go_wp2_with (refine wpList_make_own w (o := ⟨some 8, _, _, _, _, _⟩) rfl _ _ 44 rfl w.heap.size 5 i0 (.int .u8 0) 1 Tryd.underlying44 hi hz0 hz1 .i64 .i64 (2 * (s.size : Int)) (2 * s.size) rfl rfl (by omega) (by rw [hz2]; omega) (by simp only [maxLen]; omega) (Nat.le_refl _) ?_; intro w1 hown hgrow)
  have hB1 : Below w.heap.size w w1 := (Below.refl _ w).grown hgrow (Nat.le_refl _) (fun k e => by cases e)
  have hO1 : Owns w1 w.heap.size (.slice (some ⟨w.heap.size, 0, none⟩) 0 (2 * s.size)) [] := hown
  clear hown hgrow
  go_loopw [3, 11] (fun v i wr => ∃ k : Nat, k ≤ s.size ∧ i = .int .i64 k ∧ Below w.heap.size w wr ∧ Owns wr w.heap.size v (hex (s.data.toList.take k))) (fun _ i _ => s.size - (intOf i).toNat)
  case atStart => exact ⟨0, by omega, rfl, hB1, hO1⟩
  case round =>
    obtain ⟨k, hk, rfl, hB, hO⟩ := hrel
    by_cases hlt : k < s.size
    · have hd : decide ((k : Int) < (s.size : Int)) = true := by simp; omega
      have hk0 : (0 : Int) ≤ (k : Int) := by omega
      have hks : (k : Int) < (s.size : Int) := by omega
      have hlen : (hex (s.data.toList.take k)).length ≤ 2 * 1073741824 := by rw [hex_len, List.length_take]; omega
      have HT := Lib.hid (hex_take s k hlt)
      have hy := byte_lt s[k]
      obtain ⟨h1, hh1⟩ : ∃ h, h = s[k].toNat / 16 := ⟨_, rfl⟩
      obtain ⟨h2, hh2⟩ : ∃ h, h = s[k].toNat % 16 := ⟨_, rfl⟩
      rw [← hh1, ← hh2] at HT
      have e1 : (s[k].toNat : Int) / 16 = (h1 : Int) := by omega
      have e2 : bits .and .u8 (s[k].toNat : Int) 15 = (h2 : Int) := by
        have := u8_and_nat s[k].toNat 15 (by omega) (by omega)
        rw [show ((15 : Nat) : Int) = 15 from rfl] at this
        rw [this, show (15 : Nat) = 2 ^ 4 - 1 from rfl, Nat.and_two_pow_sub_one_eq_mod, hh2]
      have i1 := fun W => index_dig h1 (by omega) W
      have i2 := fun W => index_dig h2 (by omega) W
      have hcs : Bytes.bcells [dig h1, dig h2] = [.int .u8 (((dig h1).toNat : Nat) : Int), .int .u8 (((dig h2).toNat : Nat) : Int)] := rfl
      have HC := Lib.hid hcs
      clear hh1 hh2 hcs
      unfold DIG at i1 i2
      generalize hex (s.data.toList.take k) = l at *
      unfold Owns at hO
      generalize hbc : Bytes.bcells l = bc at hO
      have HBC := Lib.hid hbc
      clear hbc
      go_wp2_with fail
      go_region_held3 (fun _ => True) (trivial)
        ((refine step_append_lies _ (by rfl) _ _ _ (by rfl) w.heap.size 5 i0 _ 1 1 Tryd.underlying44 hi hz0 hz1 hz2 rfl (by omega) _ l.length _ (by rfl) ((hO.alloc _).drew)
            ⟨wr.heap.size, 0, none⟩ 2 2 [.int .u8 (((dig h1).toNat : Nat) : Int), .int .u8 (((dig h2).toNat : Nat) : Int)] (by rfl) (by rfl) (World.news_of_block (cs := #[.int .u8 (((dig h1).toNat : Nat) : Int), .int .u8 (((dig h2).toNat : Nat) : Int)]) (t := 5) (fr := (0, 0)) (heap_alloc_new wr _)) (by simp [Value.oneCell'])
            (by omega) (by simp only [maxLen]; omega) (by omega) (by have := hB.size; simp; omega) (wr.heap.size + 1) (by simp) ?_; intro gg cap w2 hown2 hgrow hat hlt2))
      all_goals have hb2 : Below w.heap.size w w2 := ((hB.alloc hB.size _).drew).grown hgrow (by have := hB.size; simp; omega) (fun k e => (hO.lt k e).1)
      all_goals clear hgrow hat
      all_goals go_wp2_with fail
      all_goals go_roundw
      all_goals first
        | exact ⟨k + 1, by omega, by go_num, hb2, by rw [HT.out]; unfold Owns; rw [List.length_append, bcells_append, HBC.out, HC.out]; exact hown2⟩
        | (simp [intOf]; omega)
    · have hk9 : k = s.size := by omega
      subst hk9
      rw [take_all] at hO
      have hcv := Bytes.conv_owned _ _ _ _ hO
      go_wp2_with fail
      go_ret
      exact ⟨rfl, hB⟩

set_option maxRecDepth 100000 in
set_option maxHeartbeats 1000000 in
theorem ref_Hex_any (s : ByteArray) (hs : s.size ≤ 1073741824) (w : World) :
    Calls Tryd.prog 13 #[.string s] w fun e w' => e = .returned (.string ⟨(hex s.data.toList).toArray⟩) ∧ Below w.heap.size w w' := by
  go_enter Tryd.func13, Tryd.ntmps13
  go_wp2_with fail
  go_loopw [4, 5] (fun v i wr => ∃ k : Nat, k ≤ s.size ∧ i = .int .i64 k ∧ Below w.heap.size w wr ∧ v = .string ⟨(hex (s.data.toList.take k)).toArray⟩) (fun _ i _ => s.size - (intOf i).toNat)
  case atStart => exact ⟨0, by omega, rfl, Below.refl _ _, rfl⟩
  case round =>
    obtain ⟨k, hk, rfl, hB, hv⟩ := hrel
    by_cases hlt : k < s.size
    · have hd : decide ((k : Int) < (s.size : Int)) = true := by simp; omega
      have hk0 : (0 : Int) ≤ (k : Int) := by omega
      have hks : (k : Int) < (s.size : Int) := by omega
      have hlen : (hex (s.data.toList.take k)).length ≤ 2 * 1073741824 := by rw [hex_len, List.length_take]; omega
      have hT := hex_take s k hlt
      have hy := byte_lt s[k]
      obtain ⟨h1, hh1⟩ : ∃ h, h = s[k].toNat / 16 := ⟨_, rfl⟩
      obtain ⟨h2, hh2⟩ : ∃ h, h = s[k].toNat % 16 := ⟨_, rfl⟩
      rw [← hh1, ← hh2] at hT
      have e1 : (s[k].toNat : Int) / 16 = (h1 : Int) := by omega
      have e2 : (s[k].toNat : Int) % 16 = (h2 : Int) := by omega
      have e3 : (s[k].toNat : Int).tdiv 16 = (h1 : Int) := by rw [Int.tdiv_eq_ediv_of_nonneg (by omega)]; omega
      have e4 : (s[k].toNat : Int).tmod 16 = (h2 : Int) := by rw [IntWalk.rem_in _ _ (by omega)]; omega
      have x1 := extract_dig h1 (by omega)
      have x2 := extract_dig h2 (by omega)
      obtain ⟨m1, hm1⟩ : ∃ m, m = h1 + 1 := ⟨_, rfl⟩
      obtain ⟨m2, hm2⟩ : ∃ m, m = h2 + 1 := ⟨_, rfl⟩
      rw [← hm1] at x1
      rw [← hm2] at x2
      have s1 : IntKind.i64.wrap ((h1 : Int) + 1) = (m1 : Int) := by rw [IntKind.wrap_i64]; omega
      have s2 : IntKind.i64.wrap ((h2 : Int) + 1) = (m2 : Int) := by rw [IntKind.wrap_i64]; omega
      have b1 : (h1 : Int) ≤ (m1 : Int) := by omega
      have b2 : (h2 : Int) ≤ (m2 : Int) := by omega
      have b3 : (m1 : Int) ≤ 16 := by omega
      have b4 : (m2 : Int) ≤ 16 := by omega
      have b5 : (0 : Int) ≤ (h1 : Int) := by omega
      have b6 : (0 : Int) ≤ (h2 : Int) := by omega
      obtain ⟨D1, hD1⟩ : ∃ D : ByteArray, D = ⟨#[dig h1]⟩ := ⟨_, rfl⟩
      obtain ⟨D2, hD2⟩ : ∃ D : ByteArray, D = ⟨#[dig h2]⟩ := ⟨_, rfl⟩
      rw [← hD1] at x1
      rw [← hD2] at x2
      obtain ⟨S, hS⟩ : ∃ S : ByteArray, S = ⟨(hex (s.data.toList.take k)).toArray⟩ := ⟨_, rfl⟩
      have hSz : S.size ≤ 2147483648 := by rw [hS, size_list]; omega
      have hz1 : D1.size ≤ 1 := by rw [hD1]; exact Nat.le_refl 1
      have hz2 : D2.size ≤ 1 := by rw [hD2]; exact Nat.le_refl 1
      have hJ : S ++ D1 ++ D2 = ⟨(hex (s.data.toList.take (k + 1))).toArray⟩ := by
        rw [hS, hD1, hD2, show (⟨#[dig h1]⟩ : ByteArray) = ⟨[dig h1].toArray⟩ from rfl, show (⟨#[dig h2]⟩ : ByteArray) = ⟨[dig h2].toArray⟩ from rfl, append_list, append_list, hT, List.append_assoc]
        rfl
      have HJ := Lib.hid hJ
      rw [← hS] at hv
      subst hv
      have g1 : ¬ (9223372036854775807 < S.size + D1.size) := by omega
      have g2 : ¬ (9223372036854775807 < (S ++ D1).size + D2.size) := by rw [ByteArray.size_append]; omega
      clear hJ hT hS hD1 hD2 hh1 hh2 hm1 hm2
      unfold DIG at x1 x2
      go_wp2_with fail
      go_quiet (fail)
      go_wp2_with fail
      go_quiet (fail)
      go_wp2_with fail
      go_roundw
      case rel => exact ⟨k + 1, by omega, by go_num, belowN hB _, by rw [HJ.out]⟩
      case measure => simp [intOf]; omega
    · have hk9 : k = s.size := by omega
      subst hk9
      rw [take_all] at hv
      subst hv
      go_wp2_with fail
      go_ret
      exact ⟨rfl, hB⟩

end Go.Proofs.YtidkakjghimimaaDoor.Sha
