/-
  The laws of layer 12, walked on the package.
-/
import Derived.Test.YthkhonkibigdaaaGreatDeltaPPkg
import Derived.Test.YthkhonkibigdaaaGreatDeltaLawC
import Derived.Test.YthkhonkibigdaaaGreatDeltaLawD
import Derived.Test.YthkhonkibigdaaaGreatDeltaLawE
import Derived.Test.YthkhonkibigdaaaGreatDeltaLawF
import Derived.Test.YthkhonkibigdaaaGreatDeltaLawG
namespace Go.Proofs.YthkhonkibigdaaaGreat.Delta
open Go.RowKit Mem _root_.Go.Proofs.YthkhonkibigdaaaGreat.Arena _root_.Go.Proofs.YthkhonkibigdaaaGreat.Kinds

theorem deltaTyped_walk (p : Prg) (d : Dlt) (w : World) (hp : p.In w) (hd : d.In w) :
    Calls Tryz.prog 4 #[.agg #[.int .i64 p.ps, .slice p.A p.vs.length p.c, .slice p.B p.xs.length p.e], .agg #[.slice d.A d.p.length d.c, .int .i64 d.op, .int .i64 d.n]] w fun e w' => e = .returned (.bool true) ∧ Below w.heap.size w w' :=
  deltaTyped_of pkg p d w hp hd
theorem deltaBytes_walk (d : Dlt) (S : ByteArray) (hm : S.size ≤ maxLen) (w : World) (hd : d.In w) :
    Calls Tryz.prog 3 #[.agg #[.slice d.A d.p.length d.c, .int .i64 d.op, .int .i64 d.n], .string S] w fun e w' => e = .returned (.bool true) ∧ Below w.heap.size w w' :=
  deltaBytes_of pkg d S hm w hd
end Go.Proofs.YthkhonkibigdaaaGreat.Delta
