/-
  Arguments that are slices of deltas: what they hold.
-/
import Derived.Test.YtofhgaioidfdmaaGreatSitesRefA
import Derived.Test.YtofhgaioidfdmaaGreatDeltaG
import Derived.Test.YtofhgaioidfdmaaGreatKindsG
namespace Go.Proofs.YtofhgaioidfdmaaGreat.Sites
open Go.RowKit Mem Go.ChangeShapes Go.WideShapes Go.Deep Go.Joins _root_.Go.Proofs.YtofhgaioidfdmaaGreat.Arena _root_.Go.Proofs.YtofhgaioidfdmaaGreat.Delta

section
variable {H : Type} {enc : TypeId × Value → H} {W : World} {spare : Nat → Bool} {held : Bool}

end
end Go.Proofs.YtofhgaioidfdmaaGreat.Sites
