/-
  The laws of layer 17, walked on the package: Runs.
-/
import Derived.Test.YtodejloonfkkmaaDirWalks
import Derived.Test.YtodejloonfkkmaaDirLawA
namespace Go.Proofs.Ytodejloonfkkmaa.Dir
open Go.RowKit Mem _root_.Go.Proofs.Ytodejloonfkkmaa.Arena _root_.Go.Proofs.Ytodejloonfkkmaa.Kinds _root_.Go.Proofs.Ytodejloonfkkmaa.Path _root_.Go.Proofs.Ytodejloonfkkmaa.Cat _root_.Go.Proofs.Ytodejloonfkkmaa.Suite _root_.Go.Proofs.Ytodejloonfkkmaa.Delta _root_.Go.Proofs.Ytodejloonfkkmaa.Mach

theorem directRuns_walk (p : Prg) (A : Option Addr) (c : Nat) (args : List Int) (_ : args.length ≤ maxLen) (hl : args.length ≤ c) (hA : A = none → c = 0) (f : Int) (hf : (Lit.int .i64 f).wf = true) (w : World) (hp : p.In w) (hR : IRow w w.heap.size A args) :
    Calls Try.prog 3 #[.agg #[.int .i64 p.ps, .slice p.A p.vs.length p.c, .slice p.B p.xs.length p.e], .slice A args.length c, .int .i64 f] w fun e w' => e = .returned (.bool true) ∧ Below w.heap.size w w' :=
  directRuns_of dpkg dworks p A c args hl hA f (n64_wf hf) w hp hR
end Go.Proofs.Ytodejloonfkkmaa.Dir
