/-
  The laws of layer 16, walked on the package.
-/
import Derived.Test.YtobndhiihcejaaaMachPPkg
import Derived.Test.YtobndhiihcejaaaMachWorks
import Derived.Test.YtobndhiihcejaaaMachLawE
namespace Go.Proofs.Ytobndhiihcejaaa.Mach
open Go.RowKit Mem _root_.Go.Proofs.Ytobndhiihcejaaa.Arena _root_.Go.Proofs.Ytobndhiihcejaaa.Kinds _root_.Go.Proofs.Ytobndhiihcejaaa.Path _root_.Go.Proofs.Ytobndhiihcejaaa.Cat _root_.Go.Proofs.Ytobndhiihcejaaa.Suite _root_.Go.Proofs.Ytobndhiihcejaaa.Delta

theorem n64_wf {i : Int} (wf : (Lit.int .i64 i).wf = true) : N64 i := by
  unfold N64
  simp [Lit.wf, IntKind.min, IntKind.max, IntKind.signed, IntKind.bits] at wf
  omega
theorem machineRuns_walk (p : Prg) (A : Option Addr) (c : Nat) (args : List Int) (_ : args.length ≤ maxLen) (hl : args.length ≤ c) (hA : A = none → c = 0) (f : Int) (hf : (Lit.int .i64 f).wf = true) (w : World) (hp : p.In w) (hR : IRow w w.heap.size A args) :
    Calls Try.prog 3 #[.agg #[.int .i64 p.ps, .slice p.A p.vs.length p.c, .slice p.B p.xs.length p.e], .slice A args.length c, .int .i64 f] w fun e w' => e = .returned (.bool true) ∧ Below w.heap.size w w' :=
  machineRuns_of mpkg (works_of mpkg) p A c args hl hA f (n64_wf hf) w hp hR
theorem machineFuel_walk (p : Prg) (A : Option Addr) (c : Nat) (args : List Int) (_ : args.length ≤ maxLen) (hl : args.length ≤ c) (hA : A = none → c = 0) (f : Int) (hf : (Lit.int .i64 f).wf = true) (m : Int) (hm : (Lit.int .i64 m).wf = true) (w : World) (hp : p.In w) (hR : IRow w w.heap.size A args) :
    Calls Try.prog 4 #[.agg #[.int .i64 p.ps, .slice p.A p.vs.length p.c, .slice p.B p.xs.length p.e], .slice A args.length c, .int .i64 f, .int .i64 m] w fun e w' => e = .returned (.bool true) ∧ Below w.heap.size w w' :=
  machineFuel_of mpkg (works_of mpkg) p A c args hl hA f (n64_wf hf) m (n64_wf hm) w hp hR
theorem machineLeast_walk (p : Prg) (A : Option Addr) (c : Nat) (args : List Int) (_ : args.length ≤ maxLen) (hl : args.length ≤ c) (hA : A = none → c = 0) (f : Int) (hf : (Lit.int .i64 f).wf = true) (m : Int) (hm : (Lit.int .i64 m).wf = true) (w : World) (hp : p.In w) (hR : IRow w w.heap.size A args) :
    Calls Try.prog 5 #[.agg #[.int .i64 p.ps, .slice p.A p.vs.length p.c, .slice p.B p.xs.length p.e], .slice A args.length c, .int .i64 f, .int .i64 m] w fun e w' => e = .returned (.bool true) ∧ Below w.heap.size w w' :=
  machineLeast_of mpkg (works_of mpkg) p A c args hl hA f (n64_wf hf) m (n64_wf hm) w hp hR
theorem machineOuts_walk (p : Prg) (A : Option Addr) (c : Nat) (args : List Int) (_ : args.length ≤ maxLen) (hl : args.length ≤ c) (hA : A = none → c = 0) (f : Int) (hf : (Lit.int .i64 f).wf = true) (n : Int) (hn : (Lit.int .i64 n).wf = true) (w : World) (hp : p.In w) (hR : IRow w w.heap.size A args) :
    Calls Try.prog 6 #[.agg #[.int .i64 p.ps, .slice p.A p.vs.length p.c, .slice p.B p.xs.length p.e], .slice A args.length c, .int .i64 f, .int .i64 n] w fun e w' => e = .returned (.bool true) ∧ Below w.heap.size w w' :=
  machineOuts_of mpkg (works_of mpkg) p A c args hl hA f (n64_wf hf) n (n64_wf hn) w hp hR
theorem machineFirst_walk (p : Prg) (A : Option Addr) (c : Nat) (args : List Int) (_ : args.length ≤ maxLen) (hl : args.length ≤ c) (hA : A = none → c = 0) (f : Int) (hf : (Lit.int .i64 f).wf = true) (w : World) (hp : p.In w) (hR : IRow w w.heap.size A args) :
    Calls Try.prog 7 #[.agg #[.int .i64 p.ps, .slice p.A p.vs.length p.c, .slice p.B p.xs.length p.e], .slice A args.length c, .int .i64 f] w fun e w' => e = .returned (.bool true) ∧ Below w.heap.size w w' :=
  machineFirst_of mpkg (works_of mpkg) p A c args hl hA f (n64_wf hf) w hp hR

end Go.Proofs.Ytobndhiihcejaaa.Mach
