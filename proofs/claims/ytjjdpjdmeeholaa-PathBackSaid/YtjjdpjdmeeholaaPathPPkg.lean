/-
  Package path: what its functions come to.
-/
import Derived.Test.YtjjdpjdmeeholaaPathPOf
import Derived.Test.YtjjdpjdmeeholaaPathPFind
namespace Go.Proofs.Ytjjdpjdmeeholaa.Path
open Go.RowKit Mem _root_.Go.Proofs.Ytjjdpjdmeeholaa.Arena

theorem pkg : Pkg where
  of A c l b w hx hl := Of_any A c l b w hx hl
  find A c l A' c' p w hx hl hy hp _ _ := Find_any A c l A' c' p w hx hl hy hp
  compare A c p A' c' q w hx hy hp hq _ _ _ _ := Compare_any A c p A' c' q w hx hy hp hq

end Go.Proofs.Ytjjdpjdmeeholaa.Path
