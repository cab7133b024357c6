/-
  The laws of layer 14, walked: where a delta stands is found.
-/
import Derived.Test.YtodejloonfkkmaaGreatSitesG
import Derived.Test.YtodejloonfkkmaaGreatDeltaP
import Derived.Deep.RegionHeld3
import Derived.Deep.QuietTactic
import Derived.BigQuiet
import Derived.Deep.DrawnRows
set_option linter.unusedVariables false
namespace Go.Proofs.YtodejloonfkkmaaGreat.Sites
open Go.RowKit Mem Arena Delta Path Cat Kinds
attribute [local go_sem ↓] Go.wp_at_zero Go.wp_at_succ
end Go.Proofs.YtodejloonfkkmaaGreat.Sites
