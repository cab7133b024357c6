/-
  The document's example for layer 4; the statements of the layer, walked.
-/
import Derived.Test.YtidkakjghimimaaDoorShaHex
import Derived.Test.YtidkakjghimimaaDoorShaRefSum
import Derived.Test.YtidkakjghimimaaDoorShaAbc
namespace Go.Proofs.YtidkakjghimimaaDoor.Sha
open Go.RowKit

theorem index26_0 (W : World) : (Instr.index 26 (.agg (u32s start)) (.int .i64 0)).run Tryd.prog W = .ok (.int .u32 1779033703) W := by kernel_rfl

theorem field29 (W : World) : (Instr.field 29 (.agg (u32s start)) 0).run Tryd.prog W = .ok (.agg (u32s start)) W := by kernel_rfl
def ABC : ByteArray := ⟨#[97, 98, 99]⟩
def ABCHEX : ByteArray := ⟨#[98, 97, 55, 56, 49, 54, 98, 102, 56, 102, 48, 49, 99, 102, 101, 97, 52, 49, 52, 49, 52, 48, 100, 101, 53, 100, 97, 101, 50, 50, 50, 51, 98, 48, 48, 51, 54, 49, 97, 51, 57, 54, 49, 55, 55, 97, 57, 99, 98, 52, 49, 48, 102, 102, 54, 49, 102, 50, 48, 48, 49, 53, 97, 100]⟩
theorem abc_hex : (⟨(hex (sum ABC.data.toList)).toArray⟩ : ByteArray) = ABCHEX := by
  have h : ABC.data.toList = abc := rfl
  rw [h, hex_abc]
  rfl
theorem pad_3 : (⟨(pad 3).toArray⟩ : ByteArray).size = 61 := by decide +kernel
theorem hex_0a : (⟨(hex [10]).toArray⟩ : ByteArray) = ⟨#[48, 97]⟩ := by decide +kernel

set_option maxRecDepth 100000 in
set_option maxHeartbeats 1000000 in
theorem works_any (w : World) (hG : Cubes w) : Calls Tryd.prog 9 #[] w fun e w' => e = .returned (.bool true) ∧ Below w.heap.size w w' := by
  have hA := Sum_any ABC (by decide) w hG
  obtain ⟨S, hS⟩ : ∃ S : ByteArray, S = ⟨(sum ABC.data.toList).toArray⟩ := ⟨_, rfl⟩
  have hSs : S.size ≤ 32 := by rw [hS, size_list, sum_len]; exact Nat.le_refl _
  have hX := fun W => Hex_any S (by omega) W
  have hSd : S.data.toList = sum ABC.data.toList := by rw [hS]
  rw [hSd, abc_hex] at hX
  rw [← hS] at hA
  have HA := Lib.hid hA
  have HX := Lib.hid hX
  have hP : ∀ W, Calls Tryd.prog 20 #[.int .i64 3] W fun e w' => e = .returned (.string ⟨(pad 3).toArray⟩) ∧ Below W.heap.size W w' := fun W => Pad_any 3 (by omega) W
  obtain ⟨P, hPP⟩ : ∃ P : ByteArray, P = ⟨(pad 3).toArray⟩ := ⟨_, rfl⟩
  have hPs : P.size = 61 := by rw [hPP, pad_3]
  rw [← hPP] at hP
  have HP := Lib.hid hP
  have hY := fun W => Hex_any ⟨#[10]⟩ (by decide) W
  have e10 : ((⟨#[10]⟩ : ByteArray)).data.toList = [10] := rfl
  rw [e10, hex_0a] at hY
  have HY := Lib.hid hY
  have hix := index26_0
  clear hA hX hP hY hS hSd hPP e10
  have hfd := field29
  unfold ABC at HA
  unfold ABCHEX at HX
  go_enter Tryd.func9, Tryd.ntmps9
  go_wp2_with (go_at_call 10; refine HA.out.mono ?_; rintro e w1 ⟨rfl, hb1⟩)
  refine (HX.out _).mono ?_
  rintro e w2 ⟨rfl, hb2⟩
  go_wp2_with fail
  refine (Start_any _).mono ?_
  rintro e w3 ⟨rfl, hb3⟩
  go_wp2_with fail
  refine (HP.out _).mono ?_
  rintro e w4 ⟨rfl, hb4⟩
  go_wp2_with fail
  refine (HY.out _).mono ?_
  rintro e w5 ⟨rfl, hb5⟩
  go_wp2_with fail
  go_ret
  have h1 := hb1.size
  have h2 := hb2.size
  have h3 := hb3.size
  have h4 := hb4.size
  exact ⟨rfl, (((hb1.trans (hb2.mono h1)).trans (hb3.mono (by omega))).trans (hb4.mono (by omega))).trans (hb5.mono (by omega))⟩

end Go.Proofs.YtidkakjghimimaaDoor.Sha
