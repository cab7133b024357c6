/-
  The laws of layer 14, walked: as many mutants as there are choices at all nodes together, and of each node just its own.
-/
import Derived.Test.YtofhgaioidfdmaaGreatSitesPkg
import Derived.Test.YtofhgaioidfdmaaGreatCatN
import Derived.Test.YtofhgaioidfdmaaGreatPathH
import Derived.Deep.RegionHeld3
import Derived.Deep.DrawnRows
set_option linter.unusedVariables false
namespace Go.Proofs.YtofhgaioidfdmaaGreat.Sites
open Go.RowKit Mem _root_.Go.Proofs.YtofhgaioidfdmaaGreat.Arena _root_.Go.Proofs.YtofhgaioidfdmaaGreat.Delta _root_.Go.Proofs.YtofhgaioidfdmaaGreat.Path _root_.Go.Proofs.YtofhgaioidfdmaaGreat.Cat _root_.Go.Proofs.YtofhgaioidfdmaaGreat.Kinds
attribute [local go_sem ↓] Go.wp_at_zero Go.wp_at_succ

end Go.Proofs.YtofhgaioidfdmaaGreat.Sites
