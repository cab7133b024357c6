/-
  The reference of deltas, walked: the delta of bytes.
-/
import Derived.Test.YthkhonkibigdaaaDeltaRefH
namespace Go.Proofs.Ythkhonkibigdaaa.Delta
open Go.RowKit Leb Mem Wire _root_.Go.Proofs.Ythkhonkibigdaaa.Arena _root_.Go.Proofs.Ythkhonkibigdaaa.Kinds _root_.Go.Proofs.Ythkhonkibigdaaa.Code _root_.Go.Proofs.Ythkhonkibigdaaa.Path
set_option linter.unusedVariables false
attribute [local go_sem ↓] Go.wp_at_zero Go.wp_at_succ

theorem dzero_ok (w : World) : Dlt.Ok ⟨none, 0, [], 0, 0⟩ w := ⟨fun i x h => by simp at h, by simp, by simp, fun _ => rfl⟩
/-- Stores into a variable leave a row that lies elsewhere. -/
theorem row_else {w : World} {R : Nat} {A : Option Addr} {ks : List Int} (h : IRow w w.heap.size A ks) (hR : ∀ ad, A = some ad → ad.block ≠ R) (v0 v1 v2 : Value) :
    IRow (((w.setCell ⟨R, 0, none⟩ v0).setCell ⟨R, 1, none⟩ v1).setCell ⟨R, 2, none⟩ v2) (((w.setCell ⟨R, 0, none⟩ v0).setCell ⟨R, 1, none⟩ v1).setCell ⟨R, 2, none⟩ v2).heap.size A ks := by
  intro i x hx
  obtain ⟨ad, e, hlt, h1⟩ := h i x hx
  have hne := hR ad e
  refine ⟨ad, e, by simp only [World.size_setCell]; omega, ?_⟩
  rw [← h1]
  refine World.cell?_of_block ?_
  rw [add_blockN, Below.heap_setCell _ _ _ _ hne, Below.heap_setCell _ _ _ _ hne, Below.heap_setCell _ _ _ _ hne]

end Go.Proofs.Ythkhonkibigdaaa.Delta
