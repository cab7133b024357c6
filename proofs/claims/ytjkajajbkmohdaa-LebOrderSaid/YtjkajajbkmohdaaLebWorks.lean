/-
  The document's examples for layer 1.
-/
import Derived.Test.YtjkajajbkmohdaaLebGet
import Derived.BigQuiet
import Derived.Deep.RegionHeld3
namespace Go.Proofs.Ytjkajajbkmohdaa.Leb
open Go.RowKit

theorem lput_300 : lput 300 = [172, 2] := by rw [lput_hi (by omega), lput_lo (by omega)]; rfl
theorem lput_0 : lput 0 = [0] := by rw [lput_lo (by omega)]; rfl

def S1 : ByteArray := ⟨#[172, 2, 7]⟩
def S2 : ByteArray := ⟨#[128, 0]⟩
def S3 : ByteArray := ⟨#[128]⟩
def S4 : ByteArray := ⟨#[]⟩

theorem get_1 : lget [172, 2, 7] 0 = (300, 2, 0) := by
  have := lget_back (n := 300) (by omega) [] [7]
  rw [lput_300] at this
  exact this
theorem get_2 : lget [128, 0] 0 = (0, 0, 3) := by
  have h : lbytes 10 ([128, 0] : List UInt8) = 2 := by decide
  exact lget_no (l := [128, 0]) (a := 0) (k := 2) (by simp) h (by omega) (by
    show lput 0 ≠ [128, 0]
    rw [lput_0]; simp)
theorem get_3 : lget [128] 0 = (0, 0, 2) := lget_short (l := [128]) (a := 0) (by simp) (by decide) (by simp)
theorem get_4 : lget [] 1 = (0, 1, 1) := lget_arg (.inr (by simp))

theorem GetEnds.to {s : ByteArray} {a : Int} {w w' : World} {e : Ending} {n : Nat} {b c : Int} (h : GetEnds s a w e w') (hl : lget s.data.toList a = (n, b, c)) : e = .returned (.tuple #[.int .u64 n, .int .i64 b, .int .i64 c]) ∧ Below w.heap.size w w' := by
  obtain ⟨h1, h2⟩ := h
  rw [hl] at h1
  exact ⟨h1, h2⟩

set_option maxRecDepth 100000 in
set_option maxHeartbeats 1000000 in
theorem works_any (w : World) : Calls Try.prog 9 #[] w fun e w' => e = .returned (.bool true) ∧ Below w.heap.size w w' := by
  go_enter Try.func9, Try.ntmps9
  go_wp2_with fail
  refine (get_any S1 0 (by decide) _).mono ?_
  intro e w1 h
  obtain ⟨rfl, hb1⟩ := h.to get_1
  go_wp2_with fail
  refine (get_any S2 0 (by decide) _).mono ?_
  intro e w2 h
  obtain ⟨rfl, hb2⟩ := h.to get_2
  go_wp2_with fail
  refine (get_any S3 0 (by decide) _).mono ?_
  intro e w3 h
  obtain ⟨rfl, hb3⟩ := h.to get_3
  go_wp2_with fail
  refine (get_any S4 1 (by decide) _).mono ?_
  intro e w4 h
  obtain ⟨rfl, hb4⟩ := h.to get_4
  go_wp2_with fail
  refine (Put_any 300 (by omega) (by omega) _).mono ?_
  rintro e w5 ⟨rfl, hb5⟩
  rw [show (300 : Int).toNat = 300 from rfl, lput_300]
  go_wp2_with fail
  refine (Size_any 300 (by omega) (by omega) _).mono ?_
  rintro e w6 ⟨rfl, hb6⟩
  rw [show (300 : Int).toNat = 300 from rfl, lput_300]
  go_wp2_with fail
  refine (Put_any 0 (by omega) (by omega) _).mono ?_
  rintro e w7 ⟨rfl, hb7⟩
  rw [show (0 : Int).toNat = 0 from rfl, lput_0]
  go_wp2_with fail
  go_ret
  have h1 := hb1.size
  have h2 := hb2.size
  have h3 := hb3.size
  have h4 := hb4.size
  have h5 := hb5.size
  have h6 := hb6.size
  exact ⟨rfl, (((((hb1.trans (hb2.mono (by omega))).trans (hb3.mono (by omega))).trans (hb4.mono (by omega))).trans (hb5.mono (by omega))).trans (hb6.mono (by omega))).trans (hb7.mono (by omega))⟩

end Go.Proofs.Ytjkajajbkmohdaa.Leb
