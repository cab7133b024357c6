/-
  The laws of layer 9, walked on the package.
-/
import Derived.Test.YteknfglfbkknaaaKindsPPkg
import Derived.Test.YteknfglfbkknaaaKindsLawH
namespace Go.Proofs.Yteknfglfbkknaaa.Kinds
open Go.RowKit Mem _root_.Go.Proofs.Yteknfglfbkknaaa.Arena

theorem kindsReplaced_walk (p : Prg) (a : Int) (wf : (Lit.int .i64 a).wf = true) (A2 : Option Addr) (c2 : Nat) (ms : List Nd) (hlen2 : ms.length ≤ maxLen) (hcap2 : ms.length ≤ c2) (hA2 : A2 = none → c2 = 0) (w : World) (hp : p.In w) (hm : Nodes w w.heap.size A2 ms) :
    Calls Try.prog 6 #[.agg #[.int .i64 p.ps, .slice p.A p.vs.length p.c, .slice p.B p.xs.length p.e], .int .i64 a, .slice A2 ms.length c2] w fun e w' => e = .returned (.bool true) ∧ Below w.heap.size w w' :=
  kindsReplaced_of pkg p a wf A2 c2 ms hlen2 hcap2 hA2 w hp hm

end Go.Proofs.Yteknfglfbkknaaa.Kinds
