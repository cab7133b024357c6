/-
  The laws of layer 17, walked on the package: whole numbers.
-/
import Derived.Test.YtodejloonfkkmaaDirPRun
import Derived.Test.YtodejloonfkkmaaDirWorks
namespace Go.Proofs.Ytodejloonfkkmaa.Dir
open Go.RowKit Mem _root_.Go.Proofs.Ytodejloonfkkmaa.Arena _root_.Go.Proofs.Ytodejloonfkkmaa.Kinds _root_.Go.Proofs.Ytodejloonfkkmaa.Path _root_.Go.Proofs.Ytodejloonfkkmaa.Cat _root_.Go.Proofs.Ytodejloonfkkmaa.Suite _root_.Go.Proofs.Ytodejloonfkkmaa.Delta _root_.Go.Proofs.Ytodejloonfkkmaa.Mach

theorem n64_wf {i : Int} (wf : (Lit.int .i64 i).wf = true) : N64 i := by
  unfold N64
  simp [Lit.wf, IntKind.min, IntKind.max, IntKind.signed, IntKind.bits] at wf
  omega
theorem dworks : Works := works_of dpkg
end Go.Proofs.Ytodejloonfkkmaa.Dir
