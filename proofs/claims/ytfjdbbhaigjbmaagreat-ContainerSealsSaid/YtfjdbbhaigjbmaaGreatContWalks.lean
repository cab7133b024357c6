/-
  The laws of layer 7, walked over the package.
-/
import Derived.Test.YtfjdbbhaigjbmaaGreatContLaws3
import Derived.Test.YtfjdbbhaigjbmaaGreatContCut
import Derived.Test.YtfjdbbhaigjbmaaGreatContBurst
import Derived.Test.YtfjdbbhaigjbmaaGreatContPkg
namespace Go.Proofs.YtfjdbbhaigjbmaaGreat.Cont
open Go.RowKit Leb Mem _root_.Go.Proofs.YtfjdbbhaigjbmaaGreat.Frame

theorem containerSeals_walk (A : Option Addr) (cap : Nat) (xs : List Sect) (hlen : xs.length ≤ maxLen) (hcap : xs.length ≤ cap) (w : World) (hx : Sects w w.heap.size A xs) :
    Calls Tryz.prog 3 #[.slice A xs.length cap] w fun e w' => e = .returned (.bool true) ∧ Below w.heap.size w w' := containerSeals_of pkg A cap xs hlen hcap w hx
theorem containerOpens_walk (s : ByteArray) (hs : s.size ≤ maxLen) (w : World) :
    Calls Tryz.prog 4 #[.string s] w fun e w' => e = .returned (.bool true) ∧ Below w.heap.size w w' := containerOpens_of pkg s hs w
end Go.Proofs.YtfjdbbhaigjbmaaGreat.Cont
