/-
  The document's own text for what is read, walked: a number that is taken as it is, or with its sign.
-/
import Derived.Test.YtodejloonfkkmaaWireRefD
import Derived.Deep.RegionWith
import Derived.Deep.RegionHeld3
namespace Go.Proofs.Ytodejloonfkkmaa.Wire
open Go.RowKit Leb Mem

end Go.Proofs.Ytodejloonfkkmaa.Wire
