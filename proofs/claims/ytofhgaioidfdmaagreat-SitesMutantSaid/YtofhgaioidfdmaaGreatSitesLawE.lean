/-
  The laws of layer 14, walked: each mutant is another program, and typed, unless it is too deep. (Written by tools/gen_sitestyped.py.)
-/
import Derived.Test.YtofhgaioidfdmaaGreatSitesLawB
import Derived.Test.YtofhgaioidfdmaaGreatSitesBox
import Derived.Test.YtofhgaioidfdmaaGreatKindsP
import Derived.Deep.RegionHeld3
import Derived.Deep.DrawnRows
import Derived.Deep.CutBlock
set_option linter.unusedVariables false
namespace Go.Proofs.YtofhgaioidfdmaaGreat.Sites
open Go.RowKit Mem _root_.Go.Proofs.YtofhgaioidfdmaaGreat.Arena _root_.Go.Proofs.YtofhgaioidfdmaaGreat.Delta _root_.Go.Proofs.YtofhgaioidfdmaaGreat.Path _root_.Go.Proofs.YtofhgaioidfdmaaGreat.Cat _root_.Go.Proofs.YtofhgaioidfdmaaGreat.Kinds
attribute [local go_sem ↓] Go.wp_at_zero Go.wp_at_succ

end Go.Proofs.YtofhgaioidfdmaaGreat.Sites
