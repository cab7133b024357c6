/-
  The laws of layer 7, walked: what is cut, or has more ahead.
-/
import Derived.Test.YtfjdbbhaigjbmaaGreatContLaws3
namespace Go.Proofs.YtfjdbbhaigjbmaaGreat.Cont
open Go.RowKit Leb Mem _root_.Go.Proofs.YtfjdbbhaigjbmaaGreat.Frame
set_option linter.unusedVariables false

theorem secs_nil {ys : List Sect} (h : secs ys = []) : ys = [] := by
  unfold secs at h
  exact List.map_eq_nil_iff.1 h
/-- What is opened was sealed just so; else there is none. -/
theorem open_is {l : List UInt8} {r : List Sec} {c : Int} (h : openC l = (r, c)) : (c = 0 ∧ sealC r = (l, 0) ∧ 1 ≤ r.length) ∨ (c ≠ 0 ∧ r = []) := by
  by_cases hc : c = 0
  · subst hc
    have hs := seal_open h
    exact .inl ⟨rfl, hs, (ord_pos (seal_is hs).1).1⟩
  · have := open_err l (by rw [h]; exact hc)
    rw [h] at this
    exact .inr ⟨hc, this⟩

end Go.Proofs.YtfjdbbhaigjbmaaGreat.Cont
