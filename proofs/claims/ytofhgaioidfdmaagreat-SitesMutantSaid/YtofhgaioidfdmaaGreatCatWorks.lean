/-
  The laws of layer 13, walked on what the package's functions come to: the document's examples.
-/
import Derived.Test.YtofhgaioidfdmaaGreatCatG
set_option linter.unusedVariables false
namespace Go.Proofs.YtofhgaioidfdmaaGreat.Cat
open Go.RowKit Mem _root_.Go.Proofs.YtofhgaioidfdmaaGreat.Arena _root_.Go.Proofs.YtofhgaioidfdmaaGreat.Delta _root_.Go.Proofs.YtofhgaioidfdmaaGreat.Path
attribute [local go_sem ↓] Go.wp_at_zero Go.wp_at_succ

end Go.Proofs.YtofhgaioidfdmaaGreat.Cat
