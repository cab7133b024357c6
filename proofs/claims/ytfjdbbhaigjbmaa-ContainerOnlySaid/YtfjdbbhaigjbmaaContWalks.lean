/-
  The laws of layer 7, walked over the package.
-/
import Derived.Test.YtfjdbbhaigjbmaaContLaws3
import Derived.Test.YtfjdbbhaigjbmaaContCut
import Derived.Test.YtfjdbbhaigjbmaaContBurst
import Derived.Test.YtfjdbbhaigjbmaaContPkg
namespace Go.Proofs.Ytfjdbbhaigjbmaa.Cont
open Go.RowKit Leb Mem _root_.Go.Proofs.Ytfjdbbhaigjbmaa.Frame

theorem containerBack_walk (A : Option Addr) (cap : Nat) (xs : List Sect) (hlen : xs.length ≤ maxLen) (hcap : xs.length ≤ cap) (w : World) (hx : Sects w w.heap.size A xs) :
    Calls Try.prog 3 #[.slice A xs.length cap] w fun e w' => e = .returned (.bool true) ∧ Below w.heap.size w w' := containerBack_of pkg A cap xs hlen hcap w hx
theorem containerOnly_walk (s : ByteArray) (hs : s.size ≤ maxLen) (w : World) :
    Calls Try.prog 4 #[.string s] w fun e w' => e = .returned (.bool true) ∧ Below w.heap.size w w' := containerOnly_of pkg s hs w
theorem containerApart_walk (A : Option Addr) (cap : Nat) (xs : List Sect) (hlen : xs.length ≤ maxLen) (hcap : xs.length ≤ cap) (A' : Option Addr) (cap' : Nat) (ys : List Sect) (hlen' : ys.length ≤ maxLen) (hcap' : ys.length ≤ cap') (w : World)
    (hx : Sects w w.heap.size A xs) (hy : Sects w w.heap.size A' ys) :
    Calls Try.prog 7 #[.slice A xs.length cap, .slice A' ys.length cap'] w fun e w' => e = .returned (.bool true) ∧ Below w.heap.size w w' := containerApart_of pkg A cap xs hlen hcap A' cap' ys hlen' hcap' w hx hy
theorem containerCut_walk (A : Option Addr) (cap : Nat) (xs : List Sect) (hlen : xs.length ≤ maxLen) (hcap : xs.length ≤ cap) (n : Int) (hn : (Lit.int .i64 n).wf = true) (more : ByteArray) (hm : more.size ≤ maxLen) (w : World) (hx : Sects w w.heap.size A xs) :
    Calls Try.prog 6 #[.slice A xs.length cap, .int .i64 n, .string more] w fun e w' => e = .returned (.bool true) ∧ Below w.heap.size w w' := containerCut_of pkg A cap xs hlen hcap n hn more hm w hx
theorem containerBursts_walk (A : Option Addr) (cap : Nat) (xs : List Sect) (hlen : xs.length ≤ maxLen) (hcap : xs.length ≤ cap) (n : Int) (hn : (Lit.int .i64 n).wf = true) (a : Int) (ha : (Lit.int .i64 a).wf = true) (b : Int) (hb : (Lit.int .u32 b).wf = true) (w : World)
    (hx : Sects w w.heap.size A xs) :
    Calls Try.prog 5 #[.slice A xs.length cap, .int .i64 n, .int .i64 a, .int .u32 b] w fun e w' => e = .returned (.bool true) ∧ Below w.heap.size w w' := containerBursts_of pkg A cap xs hlen hcap n hn a ha b hb w hx

end Go.Proofs.Ytfjdbbhaigjbmaa.Cont
