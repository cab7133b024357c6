/-
  The laws of layer 13, walked on what the package's functions come to: the document's examples.
-/
import Derived.Test.YtodejloonfkkmaaGreatCatG
set_option linter.unusedVariables false
namespace Go.Proofs.YtodejloonfkkmaaGreat.Cat
open Go.RowKit Mem Arena Delta Path
attribute [local go_sem ↓] Go.wp_at_zero Go.wp_at_succ
end Go.Proofs.YtodejloonfkkmaaGreat.Cat
