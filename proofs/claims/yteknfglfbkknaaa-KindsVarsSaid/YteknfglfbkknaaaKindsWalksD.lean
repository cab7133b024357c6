/-
  The laws of layer 9, walked on the package.
-/
import Derived.Test.YteknfglfbkknaaaKindsPPkg
import Derived.Test.YteknfglfbkknaaaKindsLawJ
namespace Go.Proofs.Yteknfglfbkknaaa.Kinds
open Go.RowKit Mem _root_.Go.Proofs.Yteknfglfbkknaaa.Arena

theorem kindsVars_walk (p : Prg) (t : Int) (wf : (Lit.int .i64 t).wf = true) (w : World) (hp : p.In w) :
    Calls Try.prog 7 #[.agg #[.int .i64 p.ps, .slice p.A p.vs.length p.c, .slice p.B p.xs.length p.e], .int .i64 t] w fun e w' => e = .returned (.bool true) ∧ Below w.heap.size w w' :=
  kindsVars_of pkg p t wf w hp

end Go.Proofs.Yteknfglfbkknaaa.Kinds
