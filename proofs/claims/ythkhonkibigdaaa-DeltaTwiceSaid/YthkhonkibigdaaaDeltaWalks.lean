/-
  The laws of layer 12, walked on the package.
-/
import Derived.Test.YthkhonkibigdaaaDeltaPPkg
import Derived.Test.YthkhonkibigdaaaDeltaLawC
import Derived.Test.YthkhonkibigdaaaDeltaLawD
import Derived.Test.YthkhonkibigdaaaDeltaLawE
import Derived.Test.YthkhonkibigdaaaDeltaLawF
import Derived.Test.YthkhonkibigdaaaDeltaLawG
namespace Go.Proofs.Ythkhonkibigdaaa.Delta
open Go.RowKit Mem _root_.Go.Proofs.Ythkhonkibigdaaa.Arena _root_.Go.Proofs.Ythkhonkibigdaaa.Kinds

theorem deltaApplies_walk (p : Prg) (d : Dlt) (w : World) (hp : p.In w) (hd : d.In w) :
    Calls Try.prog 3 #[.agg #[.int .i64 p.ps, .slice p.A p.vs.length p.c, .slice p.B p.xs.length p.e], .agg #[.slice d.A d.p.length d.c, .int .i64 d.op, .int .i64 d.n]] w fun e w' => e = .returned (.bool true) ∧ Below w.heap.size w w' :=
  deltaApplies_of pkg p d w hp hd
theorem deltaTwice_walk (p : Prg) (d : Dlt) (w : World) (hp : p.In w) (hd : d.In w) :
    Calls Try.prog 7 #[.agg #[.int .i64 p.ps, .slice p.A p.vs.length p.c, .slice p.B p.xs.length p.e], .agg #[.slice d.A d.p.length d.c, .int .i64 d.op, .int .i64 d.n]] w fun e w' => e = .returned (.bool true) ∧ Below w.heap.size w w' :=
  deltaTwice_of pkg p d w hp hd
theorem deltaElse_walk (p : Prg) (d : Dlt) (i : Int) (wf : (Lit.int .i64 i).wf = true) (w : World) (hp : p.In w) (hd : d.In w) :
    Calls Try.prog 5 #[.agg #[.int .i64 p.ps, .slice p.A p.vs.length p.c, .slice p.B p.xs.length p.e], .agg #[.slice d.A d.p.length d.c, .int .i64 d.op, .int .i64 d.n], .int .i64 i] w fun e w' => e = .returned (.bool true) ∧ Below w.heap.size w w' :=
  deltaElse_of pkg p d i wf w hp hd
end Go.Proofs.Ythkhonkibigdaaa.Delta
