/-
  The reference of deltas, walked: its small functions.
  The reference of deltas, walked: nodes with others instead of those between two places.
  The reference of deltas, walked: may a node be changed so?
  The reference of deltas, walked: a body that is changed.
  The reference of deltas, walked: a body that is changed, of any delta that may be.
  The reference of deltas, walked: a program that is changed.
-/
import Derived.Test.YtodejloonfkkmaaGreatDeltaG
import Derived.Test.YtodejloonfkkmaaGreatPathG
import Derived.Deep.QuietTactic
import Derived.Test.YtodejloonfkkmaaGreatArenaH
import Derived.Deep.CutBlock
import Derived.Deep.CutRange
import Derived.Deep.RegionHeld3
import Derived.Deep.DrawnRows
set_option linter.unusedVariables false
namespace Go.Proofs.YtodejloonfkkmaaGreat.Delta
open Go.RowKit Mem Arena Path
attribute [local go_sem ↓] Go.wp_at_zero Go.wp_at_succ
end Go.Proofs.YtodejloonfkkmaaGreat.Delta
namespace Go.Proofs.YtodejloonfkkmaaGreat.Delta
open Go.RowKit Mem Arena Kinds Path
attribute [local go_sem ↓] Go.wp_at_zero Go.wp_at_succ
end Go.Proofs.YtodejloonfkkmaaGreat.Delta
