/-
  Package wire: a place in bytes, walked.
-/
import Derived.Test.YthimplhfmamejaaZigPut
import Derived.Test.YthimplhfmamejaaMem
import Derived.BigQuiet
import Derived.RegionTactic
import Derived.Outline
namespace Go.Proofs.Ythimplhfmamejaa.Wire
open Go.RowKit Leb Mem

/-- A place, as a value. -/
def plc (s : ByteArray) (a : Int) : Value := .agg #[.string s, .int .i64 a]

theorem At_any (s : ByteArray) (a : Int) (w : World) : Calls Try.prog 33 #[.agg #[.string s, .int .i64 a]] w fun e w' => e = .returned (.int .i64 a) ∧ Below w.heap.size w w' := by
  go_enter Try.func33, Try.ntmps33
  go_wp2
  go_ret
  exact ⟨rfl, (Below.refl _ _).alloc (Nat.le_refl _) _⟩

theorem left_any (s : ByteArray) (a : Nat) (hs : s.size ≤ 1073741824) (ha : a ≤ s.size) (w : World) : Calls Try.prog 55 #[.agg #[.string s, .int .i64 a]] w fun e w' => e = .returned (.int .i64 ((s.size : Int) - a)) ∧ Below w.heap.size w w' := by
  go_enter Try.func55, Try.ntmps55
  go_wp2
  go_ret
  exact ⟨rfl, (Below.refl _ _).alloc (Nat.le_refl _) _⟩

set_option maxRecDepth 100000 in
theorem one_ok (s : ByteArray) (a : Nat) (hs : s.size ≤ 1073741824) (ha : a < s.size) (w : World) :
    Calls Try.prog 48 #[.agg #[.string s, .int .i64 a]] w fun e w' => e = .returned (.tuple #[.int .u8 s[a].toNat, .int .i64 ((a : Int) + 1), .int .i64 0]) ∧ Below w.heap.size w w' := by
  have h0 : ((s.size : Int) - a == 0) = false := by simp; omega
  have b1 : (0 : Int) ≤ (a : Int) := by omega
  have b2 : (a : Int) < (s.size : Int) := by omega
  have bP := Blk.new w 54 #[.string s, .int .i64 a]
  go_enter Try.func48, Try.ntmps48
  go_wp2_with (go_at_call 55; refine (left_any s a hs (by omega) _).mono ?_; rintro e w1 ⟨rfl, hb1⟩; obtain ⟨hc0, hc1⟩ := (bP.below hb1 (by simp)).two)
  go_quiet (fail)
  go_wp2
  go_ret3
  exact ⟨rfl, belowN (((Below.refl _ w).alloc (Nat.le_refl _) _).trans (hb1.mono (by simp))) _⟩

set_option maxRecDepth 100000 in
theorem one_no (s : ByteArray) (hs : s.size ≤ 1073741824) (w : World) :
    Calls Try.prog 48 #[.agg #[.string s, .int .i64 s.size]] w fun e w' => e = .returned (.tuple #[.int .u8 0, .int .i64 s.size, .int .i64 2]) ∧ Below w.heap.size w w' := by
  have bP := Blk.new w 54 #[.string s, .int .i64 s.size]
  go_enter Try.func48, Try.ntmps48
  go_wp2_with (go_at_call 55; refine (left_any s s.size hs (by omega) _).mono ?_; rintro e w1 ⟨rfl, hb1⟩; obtain ⟨hc0, hc1⟩ := (bP.below hb1 (by simp)).two)
  go_quiet (fail)
  go_wp2
  go_ret3
  exact ⟨rfl, belowN (((Below.refl _ w).alloc (Nat.le_refl _) _).trans (hb1.mono (by simp))) _⟩

set_option maxRecDepth 100000 in
theorem num_any (s : ByteArray) (a : Int) (hs : s.size ≤ 1073741824) (w : World) :
    Calls Try.prog 57 #[.agg #[.string s, .int .i64 a]] w (GetEnds s a w) := by
  have HG := Lib.hid (fun W => get_any s a hs W)
  obtain ⟨⟨n, b, c⟩, hl⟩ : ∃ t, lget s.data.toList a = t := ⟨_, rfl⟩
  have HL := Lib.hid hl
  clear hl
  go_enter Try.func57, Try.ntmps57
  go_wp2_with (go_at_call 60; refine (HG.out _).mono ?_; intro e w1 hq; obtain ⟨rfl, hb1⟩ := hq.to HL.out; clear hq)
  go_ret3
  exact GetEnds.mk HL.out (((Below.refl _ w).alloc (Nat.le_refl _) _).trans (hb1.mono (by simp)))

end Go.Proofs.Ythimplhfmamejaa.Wire
