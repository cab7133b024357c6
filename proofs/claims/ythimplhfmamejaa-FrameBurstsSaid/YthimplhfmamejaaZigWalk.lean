/-
  Package zigzag and its reference, walked: each number with a sign is told by one without.
-/
import Derived.Test.YthimplhfmamejaaLebGet
import Derived.BigQuiet
import Derived.Deep.RegionHeld3
import Derived.Lib.Zigzag
import Derived.Laws.EntriesVeiled
namespace Go.Proofs.Ythimplhfmamejaa.Zig
open Go.RowKit Leb

/-- The number that tells one with a sign. -/
def zig (n : Int) : Int := if 0 ≤ n then 2 * n else -2 * n - 1
/-- The number with a sign that is told. -/
def zag (u : Int) : Int := if u % 2 = 0 then u / 2 else -(u / 2) - 1

theorem zig_range {n : Int} (h0 : -9223372036854775808 ≤ n) (h1 : n ≤ 9223372036854775807) : 0 ≤ zig n ∧ zig n ≤ 18446744073709551615 := by unfold zig; split <;> omega
theorem zag_range {u : Int} (h0 : 0 ≤ u) (h1 : u ≤ 18446744073709551615) : -9223372036854775808 ≤ zag u ∧ zag u ≤ 9223372036854775807 := by unfold zag; split <;> omega
theorem zag_zig (n : Int) : zag (zig n) = n := by unfold zig zag; split <;> split <;> omega
theorem zig_zag (u : Int) (h0 : 0 ≤ u) : zig (zag u) = u := by unfold zig zag; split <;> split <;> omega
theorem zig_sign (n : Int) : zig n % 2 = 1 ↔ n < 0 := by unfold zig; split <;> omega
theorem zig_nonneg {n : Int} (h : 0 ≤ n) : zig n = 2 * n := if_pos h
theorem zig_neg {n : Int} (h : ¬ 0 ≤ n) : zig n = -2 * n - 1 := if_neg h
theorem zag_0 : zag 0 = 0 := rfl

theorem ret_u64 {a b : Int} (h : a = b) : Ending.returned (.int .u64 a) = .returned (.int .u64 b) := by rw [h]
theorem ret_i64 {a b : Int} (h : a = b) : Ending.returned (.int .i64 a) = .returned (.int .i64 b) := by rw [h]

theorem xor_zero (x : Int) (h0 : 0 ≤ x) (h1 : x ≤ 18446744073709551615) : bits .xor .u64 x 0 = x := by
  obtain ⟨n, rfl⟩ := Int.eq_ofNat_of_zero_le h0
  have := u64_xor_nat n 0 (by omega) (by omega)
  simpa using this

theorem xor_full (x : Int) (h0 : 0 ≤ x) (h1 : x ≤ 18446744073709551615) : bits .xor .u64 x 18446744073709551615 = 18446744073709551615 - x := by
  obtain ⟨n, rfl⟩ := Int.eq_ofNat_of_zero_le h0
  have := u64_xor_nat n 18446744073709551615 (by omega) (by omega)
  have e : ((18446744073709551615 : Nat) : Int) = 18446744073709551615 := rfl
  rw [e] at this
  rw [this, Nat.xor_comm, show (18446744073709551615 : Nat) = 2 ^ 64 - 1 from rfl, Lib.xor_ones64 n (by omega)]
  omega

theorem zig_bits (n : Int) (h0 : -9223372036854775808 ≤ n) (h1 : n ≤ 9223372036854775807) :
    bits .xor .u64 (IntKind.u64.wrap (IntKind.u64.wrap n * 2)) (IntKind.u64.wrap (-(IntKind.u64.wrap n / 9223372036854775808))) = zig n := by
  simp only [IntKind.wrap_u64]
  by_cases h : 0 ≤ n
  · have e1 : n % 18446744073709551616 = n := by omega
    have e2 : -(n / 9223372036854775808) % 18446744073709551616 = 0 := by omega
    have e3 : n * 2 % 18446744073709551616 = 2 * n := by omega
    rw [e1, e2, e3, xor_zero _ (by omega) (by omega), zig_nonneg h]
  · have e1 : n % 18446744073709551616 = n + 18446744073709551616 := by omega
    rw [e1]
    have e2 : -((n + 18446744073709551616) / 9223372036854775808) % 18446744073709551616 = 18446744073709551615 := by omega
    have e3 : (n + 18446744073709551616) * 2 % 18446744073709551616 = 2 * n + 18446744073709551616 := by omega
    rw [e2, e3, xor_full _ (by omega) (by omega), zig_neg h]
    omega

theorem zag_bits (u : Int) (h0 : 0 ≤ u) (h1 : u ≤ 18446744073709551615) :
    IntKind.i64.wrap (bits .xor .u64 (u / 2) (IntKind.u64.wrap (-bits .and .u64 u 1))) = zag u := by
  rw [Lib.u64_and1 u h0 (by omega)]
  simp only [IntKind.wrap_u64, IntKind.wrap_i64]
  by_cases h : u % 2 = 0
  · rw [h, show (-0 : Int) % 18446744073709551616 = 0 by omega, xor_zero _ (by omega) (by omega)]
    unfold zag
    rw [if_pos h]
    omega
  · rw [show u % 2 = 1 by omega, show (-1 : Int) % 18446744073709551616 = 18446744073709551615 by omega, xor_full _ (by omega) (by omega)]
    unfold zag
    rw [if_neg h]
    omega

end Go.Proofs.Ythimplhfmamejaa.Zig
