/-
  The reference of deltas, walked: a body that is changed, of any delta that may be.
-/
import Derived.Test.YthkhonkibigdaaaGreatDeltaRefD
namespace Go.Proofs.YthkhonkibigdaaaGreat.Delta
open Go.RowKit Mem _root_.Go.Proofs.YthkhonkibigdaaaGreat.Arena _root_.Go.Proofs.YthkhonkibigdaaaGreat.Path
set_option linter.unusedVariables false
attribute [local go_sem ↓] Go.wp_at_zero Go.wp_at_succ

end Go.Proofs.YthkhonkibigdaaaGreat.Delta
