/-
  Package zigzag and its reference, walked: each number with a sign is told by one without.
-/
import Derived.Test.YtelljahjkfoleaaLebGet
import Derived.BigQuiet
import Derived.Deep.RegionHeld3
import Derived.Lib.Zigzag
import Derived.Laws.EntriesVeiled
namespace Go.Proofs.Ytelljahjkfoleaa.Zig
open Go.RowKit Leb

/-- The number that tells one with a sign. -/
def zig (n : Int) : Int := if 0 ≤ n then 2 * n else -2 * n - 1
/-- The number with a sign that is told. -/
def zag (u : Int) : Int := if u % 2 = 0 then u / 2 else -(u / 2) - 1

theorem zig_range {n : Int} (h0 : -9223372036854775808 ≤ n) (h1 : n ≤ 9223372036854775807) : 0 ≤ zig n ∧ zig n ≤ 18446744073709551615 := by unfold zig; split <;> omega
theorem zag_range {u : Int} (h0 : 0 ≤ u) (h1 : u ≤ 18446744073709551615) : -9223372036854775808 ≤ zag u ∧ zag u ≤ 9223372036854775807 := by unfold zag; split <;> omega
theorem zag_zig (n : Int) : zag (zig n) = n := by unfold zig zag; split <;> split <;> omega
theorem zig_zag (u : Int) (h0 : 0 ≤ u) : zig (zag u) = u := by unfold zig zag; split <;> split <;> omega
theorem zig_sign (n : Int) : zig n % 2 = 1 ↔ n < 0 := by unfold zig; split <;> omega
theorem zig_nonneg {n : Int} (h : 0 ≤ n) : zig n = 2 * n := if_pos h
theorem zig_neg {n : Int} (h : ¬ 0 ≤ n) : zig n = -2 * n - 1 := if_neg h
theorem zag_0 : zag 0 = 0 := rfl

theorem ret_u64 {a b : Int} (h : a = b) : Ending.returned (.int .u64 a) = .returned (.int .u64 b) := by rw [h]
theorem ret_i64 {a b : Int} (h : a = b) : Ending.returned (.int .i64 a) = .returned (.int .i64 b) := by rw [h]

theorem xor_zero (x : Int) (h0 : 0 ≤ x) (h1 : x ≤ 18446744073709551615) : bits .xor .u64 x 0 = x := by
  obtain ⟨n, rfl⟩ := Int.eq_ofNat_of_zero_le h0
  have := u64_xor_nat n 0 (by omega) (by omega)
  simpa using this

theorem xor_full (x : Int) (h0 : 0 ≤ x) (h1 : x ≤ 18446744073709551615) : bits .xor .u64 x 18446744073709551615 = 18446744073709551615 - x := by
  obtain ⟨n, rfl⟩ := Int.eq_ofNat_of_zero_le h0
  have := u64_xor_nat n 18446744073709551615 (by omega) (by omega)
  have e : ((18446744073709551615 : Nat) : Int) = 18446744073709551615 := rfl
  rw [e] at this
  rw [this, Nat.xor_comm, show (18446744073709551615 : Nat) = 2 ^ 64 - 1 from rfl, Lib.xor_ones64 n (by omega)]
  omega

theorem zig_bits (n : Int) (h0 : -9223372036854775808 ≤ n) (h1 : n ≤ 9223372036854775807) :
    bits .xor .u64 (IntKind.u64.wrap (IntKind.u64.wrap n * 2)) (IntKind.u64.wrap (-(IntKind.u64.wrap n / 9223372036854775808))) = zig n := by
  simp only [IntKind.wrap_u64]
  by_cases h : 0 ≤ n
  · have e1 : n % 18446744073709551616 = n := by omega
    have e2 : -(n / 9223372036854775808) % 18446744073709551616 = 0 := by omega
    have e3 : n * 2 % 18446744073709551616 = 2 * n := by omega
    rw [e1, e2, e3, xor_zero _ (by omega) (by omega), zig_nonneg h]
  · have e1 : n % 18446744073709551616 = n + 18446744073709551616 := by omega
    rw [e1]
    have e2 : -((n + 18446744073709551616) / 9223372036854775808) % 18446744073709551616 = 18446744073709551615 := by omega
    have e3 : (n + 18446744073709551616) * 2 % 18446744073709551616 = 2 * n + 18446744073709551616 := by omega
    rw [e2, e3, xor_full _ (by omega) (by omega), zig_neg h]
    omega

theorem zag_bits (u : Int) (h0 : 0 ≤ u) (h1 : u ≤ 18446744073709551615) :
    IntKind.i64.wrap (bits .xor .u64 (u / 2) (IntKind.u64.wrap (-bits .and .u64 u 1))) = zag u := by
  rw [Lib.u64_and1 u h0 (by omega)]
  simp only [IntKind.wrap_u64, IntKind.wrap_i64]
  by_cases h : u % 2 = 0
  · rw [h, show (-0 : Int) % 18446744073709551616 = 0 by omega, xor_zero _ (by omega) (by omega)]
    unfold zag
    rw [if_pos h]
    omega
  · rw [show u % 2 = 1 by omega, show (-1 : Int) % 18446744073709551616 = 18446744073709551615 by omega, xor_full _ (by omega) (by omega)]
    unfold zag
    rw [if_neg h]
    omega

theorem ways_any (w : World) : Calls Try.prog 61 #[] w fun e w' => e = .returned (.agg #[.func (.func 62) #[] #[], .func (.func 63) #[] #[]]) ∧ Below w.heap.size w w' := by
  go_enter Try.func61, Try.ntmps61
  go_wp2
  exact bodyPost_ret (v := .agg #[.func (.func 62) #[] #[], .func (.func 63) #[] #[]]) (by simp [results, Try.results61, go_sem]) rfl ⟨rfl, (Below.refl _ _).alloc (Nat.le_refl _) _⟩

theorem zig1_any (x : Int) (_h0 : 0 ≤ x) (_h1 : x ≤ 18446744073709551615) (w : World) :
    Calls Try.prog 62 #[.int .u64 x] w fun e w' => e = .returned (.int .u64 (bits .xor .u64 (IntKind.u64.wrap (x * 2)) (IntKind.u64.wrap (-(x / 9223372036854775808))))) ∧ w = w' := by
  go_enter Try.func62, Try.ntmps62
  go_wp2
  go_ret
  exact ⟨rfl, rfl⟩

theorem zag1_any (x : Int) (_h0 : 0 ≤ x) (_h1 : x ≤ 18446744073709551615) (w : World) :
    Calls Try.prog 63 #[.int .u64 x] w fun e w' => e = .returned (.int .u64 (bits .xor .u64 (x / 2) (IntKind.u64.wrap (-bits .and .u64 x 1)))) ∧ w = w' := by
  go_enter Try.func63, Try.ntmps63
  go_wp2
  go_ret
  exact ⟨rfl, rfl⟩

theorem index_zig (W : World) : (Instr.index 98 (.agg #[.func (.func 62) #[] #[], .func (.func 63) #[] #[]]) (.int .i64 0)).run Try.prog W = .ok (.func (.func 62) #[] #[]) W := by kernel_rfl
theorem index_zag (W : World) : (Instr.index 98 (.agg #[.func (.func 62) #[] #[], .func (.func 63) #[] #[]]) (.int .i64 1)).run Try.prog W = .ok (.func (.func 63) #[] #[]) W := by kernel_rfl

theorem Zig_any (n : Int) (h0 : -9223372036854775808 ≤ n) (h1 : n ≤ 9223372036854775807) (w : World) :
    Calls Try.prog 58 #[.int .i64 n] w fun e w' => e = .returned (.int .u64 (zig n)) ∧ Below w.heap.size w w' := by
  have hw : 0 ≤ IntKind.u64.wrap n ∧ IntKind.u64.wrap n ≤ 18446744073709551615 := by rw [IntKind.wrap_u64]; omega
  have HB := Lib.hid (zig_bits n h0 h1)
  obtain ⟨b0, b1⟩ := hw
  have hix := index_zig
  go_enter Try.func58, Try.ntmps58
  go_wp2_with (first | (go_at_call 61; refine (ways_any _).mono ?_; rintro e w1 ⟨rfl, hb1⟩) | (go_at_call 62; refine (zig1_any _ b0 b1 _).mono ?_; rintro e w2 ⟨rfl, rfl⟩))
  go_ret
  exact ⟨ret_u64 HB.out, hb1⟩

theorem Zag_any (u : Int) (h0 : 0 ≤ u) (h1 : u ≤ 18446744073709551615) (w : World) :
    Calls Try.prog 59 #[.int .u64 u] w fun e w' => e = .returned (.int .i64 (zag u)) ∧ Below w.heap.size w w' := by
  have HB := Lib.hid (zag_bits u h0 h1)
  have hix := index_zag
  go_enter Try.func59, Try.ntmps59
  go_wp2_with (first | (go_at_call 61; refine (ways_any _).mono ?_; rintro e w1 ⟨rfl, hb1⟩) | (go_at_call 63; refine (zag1_any _ h0 h1 _).mono ?_; rintro e w2 ⟨rfl, rfl⟩))
  go_ret
  exact ⟨ret_i64 ((IntWalk.i64_left _).symm.trans HB.out), hb1⟩

theorem ref_Zig_any (n : Int) (h0 : -9223372036854775808 ≤ n) (h1 : n ≤ 9223372036854775807) (w : World) :
    Calls Try.prog 52 #[.int .i64 n] w fun e w' => e = .returned (.int .u64 (zig n)) ∧ w = w' := by
  by_cases h : 0 ≤ n
  · have HZ := Lib.hid (zig_nonneg h)
    go_enter Try.func52, Try.ntmps52
    go_wp2
    go_ret
    exact ⟨ret_u64 HZ.out.symm, rfl⟩
  · have HZ := Lib.hid (zig_neg h)
    go_enter Try.func52, Try.ntmps52
    go_wp2
    go_ret
    exact ⟨ret_u64 (by rw [HZ.out]; omega), rfl⟩

theorem ref_Zag_any (u : Int) (h0 : 0 ≤ u) (h1 : u ≤ 18446744073709551615) (w : World) :
    Calls Try.prog 49 #[.int .u64 u] w fun e w' => e = .returned (.int .i64 (zag u)) ∧ w = w' := by
  by_cases h : u % 2 = 0
  · have HZ := Lib.hid (show zag u = u / 2 from if_pos h)
    go_enter Try.func49, Try.ntmps49
    go_wp2
    go_ret
    exact ⟨ret_i64 HZ.out.symm, rfl⟩
  · have HZ := Lib.hid (show zag u = -(u / 2) - 1 from if_neg h)
    go_enter Try.func49, Try.ntmps49
    go_wp2
    go_ret
    exact ⟨ret_i64 HZ.out.symm, rfl⟩

end Go.Proofs.Ytelljahjkfoleaa.Zig
