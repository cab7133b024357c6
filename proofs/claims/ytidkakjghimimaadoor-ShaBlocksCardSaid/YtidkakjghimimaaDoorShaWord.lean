/-
  Words of layer 4, walked: turned and shifted, by the program and by the reference.
-/
import Derived.WalkKit
import Derived.Outline
import Derived.Laws.BitsAllLaws
import Derived.Test.YtidkakjghimimaaDoorRows
import Derived.Test.YtidkakjghimimaaDoorShaMath
namespace Go.Proofs.YtidkakjghimimaaDoor.Sha
open Go.RowKit

theorem ret_u32 {a b : Int} (h : a = b) : Ending.returned (.int .u32 a) = .returned (.int .u32 b) := by rw [h]
theorem ret_str {a b : ByteArray} (h : a = b) : Ending.returned (.string a) = .returned (.string b) := by rw [h]
theorem int_u32 {a b : Int} (h : a = b) : Value.int .u32 a = .int .u32 b := by rw [h]
theorem int_i64 {a b : Int} (h : a = b) : Value.int .i64 a = .int .i64 b := by rw [h]
theorem ret_bool {a : Bool} (h : a = true) : Ending.returned (.bool a) = .returned (.bool true) := by rw [h]

set_option maxRecDepth 100000 in
theorem turn_any (x k : Nat) (hx : x < 4294967296) (hk : k ≤ 31) (w : World) :
    Calls Tryd.prog 27 #[.int .u32 (x : Int), .int .i64 (k : Int)] w fun e w' => e = .returned (.int .u32 (rot x k : Nat)) ∧ w = w' := by
  go_enter Tryd.func27, Tryd.ntmps27
  go_wp2_with fail
  go_loop [0, 5] (fun c i => ∃ m : Nat, m ≤ k ∧ i = .int .i64 m ∧ c = .int .u32 (rot x m : Nat)) (fun _ i => k - (intOf i).toNat)
  case atStart => exact ⟨0, by omega, rfl, by rw [rot_zero]⟩
  case round =>
    obtain ⟨m, hm, rfl, rfl⟩ := hrel
    have hr := rot_lt m (by omega) hx
    by_cases hlt : m < k
    · have hd : decide ((m : Int) < (k : Int)) = true := by simp; omega
      have HS := Lib.hid (rot_succ x m (by omega))
      generalize rot x m = y at *
      go_wp2_with fail
      go_round
      case rel => exact ⟨m + 1, by omega, by go_num, int_u32 (by rw [HS.out]; unfold turn1; omega)⟩
      case measure => simp [intOf]; omega
    · have hk9 : m = k := by omega
      subst hk9
      go_wp2_with fail
      go_ret
      exact ⟨rfl, rfl⟩

set_option maxRecDepth 100000 in
theorem shift_any (x k : Nat) (hx : x < 4294967296) (hk : k ≤ 31) (w : World) :
    Calls Tryd.prog 31 #[.int .u32 (x : Int), .int .i64 (k : Int)] w fun e w' => e = .returned (.int .u32 (x / 2 ^ k : Nat)) ∧ w = w' := by
  go_enter Tryd.func31, Tryd.ntmps31
  go_wp2_with fail
  go_loop [0, 5] (fun c i => ∃ m : Nat, m ≤ k ∧ i = .int .i64 m ∧ c = .int .u32 (x / 2 ^ m : Nat)) (fun _ i => k - (intOf i).toNat)
  case atStart => exact ⟨0, by omega, rfl, by simp⟩
  case round =>
    obtain ⟨m, hm, rfl, rfl⟩ := hrel
    have hr : x / 2 ^ m < 4294967296 := Nat.lt_of_le_of_lt (Nat.div_le_self _ _) hx
    have HS := Lib.hid (show x / 2 ^ (m + 1) = x / 2 ^ m / 2 by rw [Nat.pow_succ, Nat.div_div_eq_div_mul])
    by_cases hlt : m < k
    · have hd : decide ((m : Int) < (k : Int)) = true := by simp; omega
      generalize x / 2 ^ m = y at *
      go_wp2_with fail
      go_round
      case rel => exact ⟨m + 1, by omega, by go_num, int_u32 (by rw [HS.out]; omega)⟩
      case measure => simp [intOf]; omega
    · have hk9 : m = k := by omega
      subst hk9
      clear HS
      obtain ⟨y, hy⟩ : ∃ y, y = x / 2 ^ m := ⟨_, rfl⟩
      rw [← hy] at hr ⊢
      have HY := Lib.hid hy
      clear hy
      go_wp2_with fail
      go_ret
      exact ⟨ret_u32 (by rw [HY.out]; simp), rfl⟩

theorem RotateLeft32_any (x k : Nat) (hx : x < 4294967296) (hk0 : 1 ≤ k) (hk : k ≤ 31) (w : World) :
    Calls Tryd.prog 30 #[.int .u32 (x : Int), .int .i64 (-(k : Int))] w fun e w' => e = .returned (.int .u32 (rot x k : Nat)) ∧ w = w' := by
  have hb : bits .and .u64 (IntKind.u64.wrap (-(k : Int))) 31 = ((32 - k : Nat) : Int) := by
    rw [IntKind.wrap_u64, show -(k : Int) % 18446744073709551616 = ((18446744073709551616 - k : Nat) : Int) by omega]
    have := u64_and_nat (18446744073709551616 - k) 31 (by omega) (by omega)
    rw [show ((31 : Nat) : Int) = 31 from rfl] at this
    rw [this, show (31 : Nat) = 2 ^ 5 - 1 from rfl, Nat.and_two_pow_sub_one_eq_mod]
    omega
  obtain ⟨s, hs⟩ : ∃ s, s = 32 - k := ⟨_, rfl⟩
  rw [← hs] at hb
  have h32 : (32 : Int) - (s : Int) = (k : Int) := by omega
  have hs0 : 1 ≤ s := by omega
  have hs1 : s ≤ 31 := by omega
  have HS := Lib.hid hs
  clear hs
  go_enter Tryd.func30, Tryd.ntmps30
  go_wp2_with fail
  go_ret
  refine ⟨ret_u32 ?_, rfl⟩
  have h := u32_or_nat (x * 2 ^ s % 4294967296) (x / 2 ^ k) (Nat.mod_lt _ (by omega)) (Nat.lt_of_le_of_lt (Nat.div_le_self _ _) hx)
  have hr := rot_or x k hx (by omega)
  rw [← HS.out] at hr
  rw [hr] at h
  simpa using h

theorem right_any (x k : Nat) (hx : x < 4294967296) (hk0 : 1 ≤ k) (hk : k ≤ 31) (w : World) :
    Calls Tryd.prog 24 #[.int .u32 (x : Int), .int .i64 (k : Int)] w fun e w' => e = .returned (.int .u32 (rot x k : Nat)) ∧ w = w' := by
  go_enter Tryd.func24, Tryd.ntmps24
  go_wp2_with (go_at_call 30; refine (RotateLeft32_any _ _ hx hk0 hk _).mono ?_; rintro e w1 ⟨rfl, rfl⟩)
  go_ret
  exact ⟨rfl, rfl⟩

/-- The same, at a number as the text has it. -/
theorem right_lit {x : Nat} (k : Nat) (i : Int) (hx : x < 4294967296) (hi : i = (k : Int)) (h0 : 1 ≤ k) (h1 : k ≤ 31) (w : World) :
    Calls Tryd.prog 24 #[.int .u32 (x : Int), .int .i64 i] w fun e w' => e = .returned (.int .u32 (rot x k : Nat)) ∧ w = w' := by
  subst hi; exact right_any x k hx h0 h1 w
theorem turn_lit {x : Nat} (k : Nat) (i : Int) (hx : x < 4294967296) (hi : i = (k : Int)) (h1 : k ≤ 31) (w : World) :
    Calls Tryd.prog 27 #[.int .u32 (x : Int), .int .i64 i] w fun e w' => e = .returned (.int .u32 (rot x k : Nat)) ∧ w = w' := by
  subst hi; exact turn_any x k hx h1 w
theorem turn_q {x : Nat} (k : Nat) (i : Int) (hx : x < 4294967296) (hi : i = (k : Int)) (h1 : k ≤ 31) (w : World) :
    Calls Tryd.prog 27 #[.int .u32 (x : Int), .int .i64 i] w fun e w' => e = .returned (.int .u32 (rot x k : Nat)) ∧ w' = w :=
  (turn_lit k i hx hi h1 w).mono fun _ _ ⟨h, h2⟩ => ⟨h, h2.symm⟩
theorem shift_lit {x : Nat} (k : Nat) (i : Int) (hx : x < 4294967296) (hi : i = (k : Int)) (h1 : k ≤ 31) (w : World) :
    Calls Tryd.prog 31 #[.int .u32 (x : Int), .int .i64 i] w fun e w' => e = .returned (.int .u32 (x / 2 ^ k : Nat)) ∧ w = w' := by
  subst hi; exact shift_any x k hx h1 w

end Go.Proofs.YtidkakjghimimaaDoor.Sha
