/-
  The laws of layer 9, walked on the package.
-/
import Derived.Test.YteknfglfbkknaaaKindsPPkg
import Derived.Test.YteknfglfbkknaaaKindsLawB
import Derived.Test.YteknfglfbkknaaaKindsLawC
namespace Go.Proofs.Yteknfglfbkknaaa.Kinds
open Go.RowKit Mem _root_.Go.Proofs.Yteknfglfbkknaaa.Arena

theorem kindsChecks_walk (p o : Prg) (t : Int) (wf : (Lit.int .i64 t).wf = true) (w : World) (hp : p.In w) (ho : o.In w) :
    Calls Try.prog 3 #[.agg #[.int .i64 p.ps, .slice p.A p.vs.length p.c, .slice p.B p.xs.length p.e], .agg #[.int .i64 o.ps, .slice o.A o.vs.length o.c, .slice o.B o.xs.length o.e], .int .i64 t] w fun e w' => e = .returned (.bool true) ∧ Below w.heap.size w w' :=
  kindsChecks_of pkg p o t wf w hp ho
theorem kindsOf_walk (p : Prg) (a : Int) (wf : (Lit.int .i64 a).wf = true) (w : World) (hp : p.In w) :
    Calls Try.prog 4 #[.agg #[.int .i64 p.ps, .slice p.A p.vs.length p.c, .slice p.B p.xs.length p.e], .int .i64 a] w fun e w' => e = .returned (.bool true) ∧ Below w.heap.size w w' :=
  kindsOf_of pkg p a wf w hp
theorem kindsPart_walk (p : Prg) (a : Int) (wf : (Lit.int .i64 a).wf = true) (w : World) (hp : p.In w) :
    Calls Try.prog 8 #[.agg #[.int .i64 p.ps, .slice p.A p.vs.length p.c, .slice p.B p.xs.length p.e], .int .i64 a] w fun e w' => e = .returned (.bool true) ∧ Below w.heap.size w w' :=
  kindsPart_of pkg p a wf w hp

end Go.Proofs.Yteknfglfbkknaaa.Kinds
