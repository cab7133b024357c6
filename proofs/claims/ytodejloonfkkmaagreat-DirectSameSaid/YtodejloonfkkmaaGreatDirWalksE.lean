/-
  The laws of layer 17, walked on the package: Same.
-/
import Derived.Test.YtodejloonfkkmaaGreatDirWalks
import Derived.Test.YtodejloonfkkmaaGreatDirLawA
import Derived.Test.YtodejloonfkkmaaGreatMachPPkg
namespace Go.Proofs.YtodejloonfkkmaaGreat.Dir
open Go.RowKit Mem _root_.Go.Proofs.YtodejloonfkkmaaGreat.Arena _root_.Go.Proofs.YtodejloonfkkmaaGreat.Kinds _root_.Go.Proofs.YtodejloonfkkmaaGreat.Path _root_.Go.Proofs.YtodejloonfkkmaaGreat.Cat _root_.Go.Proofs.YtodejloonfkkmaaGreat.Suite _root_.Go.Proofs.YtodejloonfkkmaaGreat.Delta _root_.Go.Proofs.YtodejloonfkkmaaGreat.Mach

theorem directSame_walk (p : Prg) (A : Option Addr) (c : Nat) (args : List Int) (_ : args.length ≤ maxLen) (hl : args.length ≤ c) (hA : A = none → c = 0) (f : Int) (hf : (Lit.int .i64 f).wf = true) (w : World) (hp : p.In w) (hR : IRow w w.heap.size A args) :
    Calls Tryz.prog 3 #[.agg #[.int .i64 p.ps, .slice p.A p.vs.length p.c, .slice p.B p.xs.length p.e], .slice A args.length c, .int .i64 f] w fun e w' => e = .returned (.bool true) ∧ Below w.heap.size w w' :=
  directSame_of mpkg dpkg dworks p A c args hl hA f (n64_wf hf) w hp hR
end Go.Proofs.YtodejloonfkkmaaGreat.Dir
