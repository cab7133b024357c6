/-
  The laws of layer 12, walked: a typed program that is changed is typed.
-/
import Derived.Test.YthkhonkibigdaaaDeltaLawA
import Derived.Test.YthkhonkibigdaaaKindsP
import Derived.Test.YthkhonkibigdaaaPathH
import Derived.Deep.RegionHeld3
import Derived.Deep.DrawnRows
import Derived.Deep.QuietTactic
namespace Go.Proofs.Ythkhonkibigdaaa.Delta
open Go.RowKit Mem _root_.Go.Proofs.Ythkhonkibigdaaa.Arena _root_.Go.Proofs.Ythkhonkibigdaaa.Kinds _root_.Go.Proofs.Ythkhonkibigdaaa.Path
set_option linter.unusedVariables false
attribute [local go_sem ↓] Go.wp_at_zero Go.wp_at_succ

end Go.Proofs.Ythkhonkibigdaaa.Delta
