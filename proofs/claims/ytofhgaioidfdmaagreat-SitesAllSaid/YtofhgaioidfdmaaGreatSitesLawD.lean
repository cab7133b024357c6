/-
  The laws of layer 14, walked: the mutants are just those that the catalogue lets, in order, each once. (Written by tools/gen_sitesjust.py.)
-/
import Derived.Test.YtofhgaioidfdmaaGreatSitesLawB
import Derived.Test.YtofhgaioidfdmaaGreatCatN
import Derived.Test.YtofhgaioidfdmaaGreatPathH
set_option linter.unusedVariables false
namespace Go.Proofs.YtofhgaioidfdmaaGreat.Sites
open Go.RowKit Mem _root_.Go.Proofs.YtofhgaioidfdmaaGreat.Arena _root_.Go.Proofs.YtofhgaioidfdmaaGreat.Delta _root_.Go.Proofs.YtofhgaioidfdmaaGreat.Path _root_.Go.Proofs.YtofhgaioidfdmaaGreat.Cat _root_.Go.Proofs.YtofhgaioidfdmaaGreat.Kinds
attribute [local go_sem ↓] Go.wp_at_zero Go.wp_at_succ

end Go.Proofs.YtofhgaioidfdmaaGreat.Sites
