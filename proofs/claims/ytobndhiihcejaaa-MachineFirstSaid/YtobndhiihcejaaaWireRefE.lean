/-
  The document's own text for what is read, walked: a number that is taken as it is, or with its sign.
-/
import Derived.Test.YtobndhiihcejaaaWireRefD
import Derived.Deep.RegionWith
import Derived.Deep.RegionHeld3
namespace Go.Proofs.Ytobndhiihcejaaa.Wire
open Go.RowKit Leb Mem

end Go.Proofs.Ytobndhiihcejaaa.Wire
