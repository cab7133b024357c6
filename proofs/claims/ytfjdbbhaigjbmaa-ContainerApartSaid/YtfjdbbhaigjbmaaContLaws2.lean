/-
  The laws of layer 7, walked: what is sealed, opened, and both ways.
-/
import Derived.Test.YtfjdbbhaigjbmaaContLaws
namespace Go.Proofs.Ytfjdbbhaigjbmaa.Cont
open Go.RowKit Leb Mem _root_.Go.Proofs.Ytfjdbbhaigjbmaa.Frame

set_option linter.unusedVariables false

theorem lim_of_few {xs : List Sect} (h : fewB xs = true) : Lim xs := by
  unfold fewB at h
  have := of_decide_eq_true h
  exact ⟨by omega, by omega⟩

theorem open_len {l : List UInt8} {r : List Sec} {c : Int} (h : openC l = (r, c)) : r.length ≤ 1000000 := by
  by_cases hc : c = 0
  · subst hc
    have hs := seal_open h
    have := ord_pos (l := r) (by
      unfold sealC at hs
      by_cases ho : ord r = false
      · rw [if_pos ho] at hs; simp at hs
      · simpa using ho)
    omega
  · have := open_err l (by rw [h]; exact hc)
    rw [h] at this
    simp only at this
    rw [this]; simp

end Go.Proofs.Ytfjdbbhaigjbmaa.Cont
