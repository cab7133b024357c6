/-
  The document's own Go text for layer 1, walked.
-/
import Derived.Test.YthimplhfmamejaaLebPut
import Derived.Deep.RegionWith
namespace Go.Proofs.Ythimplhfmamejaa.Leb
open Go.RowKit

theorem bcell {W w1 : World} (hb : Below W.heap.size W w1) : (∀ b o, b < W.heap.size → w1.cell? ⟨b, o, none⟩ = W.cell? ⟨b, o, none⟩) ∧ (∀ b o, b < W.heap.size → w1.frozen? ⟨b, o, none⟩ = W.frozen? ⟨b, o, none⟩) :=
  ⟨fun b o h => hb.cell (p := ⟨b, o, none⟩) h, fun b o h => hb.frozen (p := ⟨b, o, none⟩) h⟩

/-- One byte as a string. -/
theorem conv_one {P : Program} (src e : TypeId) (hs : P.underlying src = some (.slice e)) (he : P.underlying e = some (.int .u8)) (v : Int) (dst : TypeId) (hd : P.underlying dst = some .string) (W : World) (b : Nat) (hc : W.cell? ⟨b, 0, none⟩ = some (.int .u8 v)) :
    (convert src dst (.slice (some ⟨b, 0, none⟩) 1 1)).run P W = .ok (.string ⟨#[UInt8.ofNat v.toNat]⟩) W := by
  rw [run_convert_bytes_arg W src e hs he b 0 1 1 [v] rfl (fun i hi => by obtain rfl : i = 0 := by omega
                                                                          simpa using hc) dst hd]
  rfl

theorem ret_string {a b : ByteArray} (h : a = b) : Ending.returned (.string a) = .returned (.string b) := by rw [h]

set_option maxHeartbeats 400000 in
theorem ref_put_lo (n : Int) (h0 : 0 ≤ n) (h1 : n < 128) (w : World) :
    Calls Try.prog 24 #[.int .u64 n] w fun e w' => e = .returned (.string ⟨#[UInt8.ofNat n.toNat]⟩) ∧ Below w.heap.size w w' := by
  have kc := conv_one (P := Try.prog) 42 5 Try.underlying42 Try.underlying5 n 9 Try.underlying9
  go_enter Try.func24, Try.ntmps24
  go_wp2
  go_ret
  exact ⟨rfl, (Below.refl _ _).alloc (Nat.le_refl _) _⟩

set_option maxHeartbeats 1000000 in
theorem ref_put_hi (n : Int) (h0 : 128 ≤ n) (h1 : n ≤ 18446744073709551615) (w : World) (s : ByteArray) (hs : s.size ≤ 10)
   (ih : ∀ W, Calls Try.prog 24 #[.int .u64 (n / 128)] W fun e w' => e = .returned (.string s) ∧ Below W.heap.size W w') :
    Calls Try.prog 24 #[.int .u64 n] w fun e w' => e = .returned (.string (⟨#[UInt8.ofNat (128 + n % 128).toNat]⟩ ++ s)) ∧ Below w.heap.size w w' := by
  have kc := conv_one (P := Try.prog) 42 5 Try.underlying42 Try.underlying5 (128 + n % 128) 9 Try.underlying9
  have HI := Lib.hid ih
  clear ih
  have q1 : IntKind.u64.wrap (n.tdiv 128) = n / 128 := IntWalk.u64_quo _ _ ⟨by omega, h1, by omega⟩
  have q2 : n.tmod 128 = n % 128 := Int.tmod_eq_emod_of_nonneg (by omega)
  have q3 : IntKind.u64.wrap (128 + n % 128) = 128 + n % 128 := IntWalk.u64_in _ (by omega)
  have q4 : IntKind.u8.wrap (128 + n % 128) = 128 + n % 128 := IntWalk.u8_in _ (by omega)
  go_enter Try.func24, Try.ntmps24
  go_wp2_with fail
  go_region_with (go_at_call 24; refine (HI.out _).mono ?_; rintro e w1 ⟨rfl, hb1⟩; obtain ⟨hc1, hf1⟩ := bcell hb1; have hz1 : w.heap.size ≤ w1.heap.size := by have := hb1.size; simp at this; omega)
  all_goals go_wp2
  all_goals go_ret
  all_goals refine ⟨rfl, ?_⟩
  all_goals first
    | exact ((Below.refl _ w).alloc (Nat.le_refl _) _).drew.trans (hb1.mono (by simp))
    | exact ((Below.refl _ w).drew.trans (hb1.mono (by simp))).alloc hz1 _
    | exact ((Below.refl _ w).drew.trans (hb1.mono (by simp)))

theorem ref_put (k : Nat) : ∀ (n : Int), 0 ≤ n → n ≤ 18446744073709551615 → n.toNat ≤ k → ∀ w : World,
    Calls Try.prog 24 #[.int .u64 n] w fun e w' => e = .returned (.string ⟨(lput n.toNat).toArray⟩) ∧ Below w.heap.size w w' := by
  induction k with
  | zero =>
    intro n h0 h1 hk w
    refine (ref_put_lo n h0 (by omega) w).mono ?_
    rintro e w' ⟨rfl, hb⟩
    exact ⟨by rw [lput_lo (by omega)], hb⟩
  | succ k ih =>
    intro n h0 h1 hk w
    by_cases h : n < 128
    · refine (ref_put_lo n h0 h w).mono ?_
      rintro e w' ⟨rfl, hb⟩
      exact ⟨by rw [lput_lo (by omega)], hb⟩
    · have hl := lput_len10 (n := (n / 128).toNat) (by omega)
      refine (ref_put_hi n (by omega) h1 w ⟨(lput (n / 128).toNat).toArray⟩ (by simpa [ByteArray.size] using hl) (ih (n / 128) (by omega) (by omega) (by omega))).mono ?_
      rintro e w' ⟨rfl, hb⟩
      refine ⟨ret_string ?_, hb⟩
      rw [lput_hi (n := n.toNat) (by omega)]
      show ByteArray.mk [UInt8.ofNat (128 + n % 128).toNat].toArray ++ _ = _
      rw [ByteArray.mk_append_mk, List.cons_append, List.nil_append]
      have e1 : (128 + n % 128).toNat = 128 + n.toNat % 128 := by omega
      have e2 : (n / 128).toNat = n.toNat / 128 := by omega
      rw [e1, e2]

theorem ref_put_any (n : Int) (h0 : 0 ≤ n) (h1 : n ≤ 18446744073709551615) (w : World) :
    Calls Try.prog 24 #[.int .u64 n] w fun e w' => e = .returned (.string ⟨(lput n.toNat).toArray⟩) ∧ Below w.heap.size w w' :=
  ref_put n.toNat n h0 h1 (Nat.le_refl _) w

end Go.Proofs.Ythimplhfmamejaa.Leb
