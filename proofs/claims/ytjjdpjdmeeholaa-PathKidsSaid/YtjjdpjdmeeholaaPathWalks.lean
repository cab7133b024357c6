/-
  The laws of layer 11, walked on the package.
-/
import Derived.Test.YtjjdpjdmeeholaaPathPPkg
import Derived.Test.YtjjdpjdmeeholaaPathLawC
import Derived.Test.YtjjdpjdmeeholaaPathLawD
import Derived.Test.YtjjdpjdmeeholaaPathLawE
namespace Go.Proofs.Ytjjdpjdmeeholaa.Path
open Go.RowKit Mem _root_.Go.Proofs.Ytjjdpjdmeeholaa.Arena

theorem pathCompares_walk (A : Option Addr) (c : Nat) (x : List Int) (lx : x.length ≤ maxLen) (mx : x.length ≤ c) (nx : A = none → c = 0)
    (A' : Option Addr) (c' : Nat) (y : List Int) (ly : y.length ≤ maxLen) (my : y.length ≤ c') (ny : A' = none → c' = 0)
    (A'' : Option Addr) (c'' : Nat) (z : List Int) (lz : z.length ≤ maxLen) (mz : z.length ≤ c'') (nz : A'' = none → c'' = 0)
    (w : World) (hx : IRow w w.heap.size A x) (hy : IRow w w.heap.size A' y) (hz : IRow w w.heap.size A'' z) :
    Calls Try.prog 6 #[.slice A x.length c, .slice A' y.length c', .slice A'' z.length c''] w fun e w' => e = .returned (.bool true) ∧ Below w.heap.size w w' :=
  pathCompares_of pkg A c x lx mx nx A' c' y ly my ny A'' c'' z lz mz nz w hx hy hz
theorem pathTells_walk (A : Option Addr) (c : Nat) (l : List Nd) (ll : l.length ≤ maxLen) (ml : l.length ≤ c) (nl : A = none → c = 0) (b : Int) (wf : (Lit.int .i64 b).wf = true)
    (A' : Option Addr) (c' : Nat) (p : List Int) (lp : p.length ≤ maxLen) (mp : p.length ≤ c') (np : A' = none → c' = 0)
    (w : World) (hx : Nodes w w.heap.size A l) (hy : IRow w w.heap.size A' p) :
    Calls Try.prog 3 #[.slice A l.length c, .int .i64 b, .slice A' p.length c'] w fun e w' => e = .returned (.bool true) ∧ Below w.heap.size w w' :=
  pathTells_of pkg A c l ll ml nl b wf A' c' p lp mp np w hx hy
theorem pathBack_walk (A : Option Addr) (c : Nat) (l : List Nd) (ll : l.length ≤ maxLen) (ml : l.length ≤ c) (nl : A = none → c = 0) (b : Int) (wf : (Lit.int .i64 b).wf = true)
    (A' : Option Addr) (c' : Nat) (p : List Int) (lp : p.length ≤ maxLen) (mp : p.length ≤ c') (np : A' = none → c' = 0)
    (w : World) (hx : Nodes w w.heap.size A l) (hy : IRow w w.heap.size A' p) :
    Calls Try.prog 4 #[.slice A l.length c, .int .i64 b, .slice A' p.length c'] w fun e w' => e = .returned (.bool true) ∧ Below w.heap.size w w' :=
  pathBack_of pkg A c l ll ml nl b wf A' c' p lp mp np w hx hy
theorem pathOrder_walk (A : Option Addr) (c : Nat) (l : List Nd) (ll : l.length ≤ maxLen) (ml : l.length ≤ c) (nl : A = none → c = 0) (i : Int) (wi : (Lit.int .i64 i).wf = true) (k : Int) (wk : (Lit.int .i64 k).wf = true)
    (w : World) (hx : Nodes w w.heap.size A l) :
    Calls Try.prog 5 #[.slice A l.length c, .int .i64 i, .int .i64 k] w fun e w' => e = .returned (.bool true) ∧ Below w.heap.size w w' :=
  pathOrder_of pkg A c l ll ml nl i wi k wk w hx
theorem pathKids_walk (A : Option Addr) (c : Nat) (l : List Nd) (ll : l.length ≤ maxLen) (ml : l.length ≤ c) (nl : A = none → c = 0) (b : Int) (wb : (Lit.int .i64 b).wf = true) (n : Int) (wn : (Lit.int .i64 n).wf = true)
    (w : World) (hx : Nodes w w.heap.size A l) :
    Calls Try.prog 7 #[.slice A l.length c, .int .i64 b, .int .i64 n] w fun e w' => e = .returned (.bool true) ∧ Below w.heap.size w w' :=
  pathKids_of pkg A c l ll ml nl b wb n wn w hx

end Go.Proofs.Ytjjdpjdmeeholaa.Path
