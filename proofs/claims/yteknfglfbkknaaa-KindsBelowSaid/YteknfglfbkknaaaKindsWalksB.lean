/-
  The laws of layer 9, walked on the package.
-/
import Derived.Test.YteknfglfbkknaaaKindsPPkg
import Derived.Test.YteknfglfbkknaaaKindsLawD
namespace Go.Proofs.Yteknfglfbkknaaa.Kinds
open Go.RowKit Mem _root_.Go.Proofs.Yteknfglfbkknaaa.Arena

theorem kindsBelow_walk (p : Prg) (a : Int) (wf : (Lit.int .i64 a).wf = true) (w : World) (hp : p.In w) :
    Calls Try.prog 5 #[.agg #[.int .i64 p.ps, .slice p.A p.vs.length p.c, .slice p.B p.xs.length p.e], .int .i64 a] w fun e w' => e = .returned (.bool true) ∧ Below w.heap.size w w' :=
  kindsBelow_of pkg p a wf w hp

end Go.Proofs.Yteknfglfbkknaaa.Kinds
