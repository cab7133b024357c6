/-
  The laws of layer 12, walked on the package.
-/
import Derived.Test.YthkhonkibigdaaaDeltaPPkg
import Derived.Test.YthkhonkibigdaaaDeltaLawC
import Derived.Test.YthkhonkibigdaaaDeltaLawD
import Derived.Test.YthkhonkibigdaaaDeltaLawE
import Derived.Test.YthkhonkibigdaaaDeltaLawF
import Derived.Test.YthkhonkibigdaaaDeltaLawG
namespace Go.Proofs.Ythkhonkibigdaaa.Delta
open Go.RowKit Mem _root_.Go.Proofs.Ythkhonkibigdaaa.Arena _root_.Go.Proofs.Ythkhonkibigdaaa.Kinds

theorem deltaApplies_walk (p : Prg) (d : Dlt) (w : World) (hp : p.In w) (hd : d.In w) :
    Calls Try.prog 3 #[.agg #[.int .i64 p.ps, .slice p.A p.vs.length p.c, .slice p.B p.xs.length p.e], .agg #[.slice d.A d.p.length d.c, .int .i64 d.op, .int .i64 d.n]] w fun e w' => e = .returned (.bool true) ∧ Below w.heap.size w w' :=
  deltaApplies_of pkg p d w hp hd
theorem deltaTwice_walk (p : Prg) (d : Dlt) (w : World) (hp : p.In w) (hd : d.In w) :
    Calls Try.prog 7 #[.agg #[.int .i64 p.ps, .slice p.A p.vs.length p.c, .slice p.B p.xs.length p.e], .agg #[.slice d.A d.p.length d.c, .int .i64 d.op, .int .i64 d.n]] w fun e w' => e = .returned (.bool true) ∧ Below w.heap.size w w' :=
  deltaTwice_of pkg p d w hp hd
theorem deltaElse_walk (p : Prg) (d : Dlt) (i : Int) (wf : (Lit.int .i64 i).wf = true) (w : World) (hp : p.In w) (hd : d.In w) :
    Calls Try.prog 5 #[.agg #[.int .i64 p.ps, .slice p.A p.vs.length p.c, .slice p.B p.xs.length p.e], .agg #[.slice d.A d.p.length d.c, .int .i64 d.op, .int .i64 d.n], .int .i64 i] w fun e w' => e = .returned (.bool true) ∧ Below w.heap.size w w' :=
  deltaElse_of pkg p d i wf w hp hd
theorem deltaBack_walk (d : Dlt) (S : ByteArray) (hm : S.size ≤ maxLen) (w : World) (hd : d.In w) :
    Calls Try.prog 4 #[.agg #[.slice d.A d.p.length d.c, .int .i64 d.op, .int .i64 d.n], .string S] w fun e w' => e = .returned (.bool true) ∧ Below w.heap.size w w' :=
  deltaBack_of pkg d S hm w hd
theorem deltaOrder_walk (a b c : Dlt) (w : World) (ha : a.In w) (hb : b.In w) (hc : c.In w) :
    Calls Try.prog 6 #[.agg #[.slice a.A a.p.length a.c, .int .i64 a.op, .int .i64 a.n], .agg #[.slice b.A b.p.length b.c, .int .i64 b.op, .int .i64 b.n], .agg #[.slice c.A c.p.length c.c, .int .i64 c.op, .int .i64 c.n]] w fun e w' => e = .returned (.bool true) ∧ Below w.heap.size w w' :=
  deltaOrder_of pkg a b c w ha hb hc

end Go.Proofs.Ythkhonkibigdaaa.Delta
