/-
  The reference of deltas, walked: nodes with others instead of those between two places.
-/
import Derived.Test.YthkhonkibigdaaaGreatDeltaRefA
import Derived.Test.YthkhonkibigdaaaGreatArenaH
namespace Go.Proofs.YthkhonkibigdaaaGreat.Delta
open Go.RowKit Mem _root_.Go.Proofs.YthkhonkibigdaaaGreat.Arena _root_.Go.Proofs.YthkhonkibigdaaaGreat.Path
set_option linter.unusedVariables false
attribute [local go_sem ↓] Go.wp_at_zero Go.wp_at_succ

theorem snoc_nd {l : List Nd} {k : Nat} {x : Nd} (h : l[k]? = some x) : l.take (k + 1) = l.take k ++ [x] := by rw [List.take_add_one, h]; rfl
theorem snoc_dr {l : List Nd} {b k : Nat} {x : Nd} (hb : b ≤ k) (h : l[k]? = some x) : (l.drop b).take (k + 1 - b) = (l.drop b).take (k - b) ++ [x] := by
  rw [show k + 1 - b = (k - b) + 1 by omega, List.take_add_one, List.getElem?_drop, show b + (k - b) = k by omega, h]; rfl

end Go.Proofs.YthkhonkibigdaaaGreat.Delta
