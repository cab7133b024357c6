/-
  The laws of layer 12, walked: one place is changed, and all else stays.
-/
import Derived.Test.YthkhonkibigdaaaGreatDeltaLawA
import Derived.Test.YthkhonkibigdaaaGreatKindsP
import Derived.Test.YthkhonkibigdaaaGreatPathH
import Derived.Deep.RegionHeld3
import Derived.Deep.DrawnRows
import Derived.Deep.QuietTactic
namespace Go.Proofs.YthkhonkibigdaaaGreat.Delta
open Go.RowKit Mem _root_.Go.Proofs.YthkhonkibigdaaaGreat.Arena _root_.Go.Proofs.YthkhonkibigdaaaGreat.Kinds _root_.Go.Proofs.YthkhonkibigdaaaGreat.Path
set_option linter.unusedVariables false
attribute [local go_sem ↓] Go.wp_at_zero Go.wp_at_succ

end Go.Proofs.YthkhonkibigdaaaGreat.Delta
