/-
  The laws of layer 17, walked on the package: whole numbers.
-/
import Derived.Test.YtodejloonfkkmaaGreatDirPRun
import Derived.Test.YtodejloonfkkmaaGreatDirWorks
namespace Go.Proofs.YtodejloonfkkmaaGreat.Dir
open Go.RowKit Mem _root_.Go.Proofs.YtodejloonfkkmaaGreat.Arena _root_.Go.Proofs.YtodejloonfkkmaaGreat.Kinds _root_.Go.Proofs.YtodejloonfkkmaaGreat.Path _root_.Go.Proofs.YtodejloonfkkmaaGreat.Cat _root_.Go.Proofs.YtodejloonfkkmaaGreat.Suite _root_.Go.Proofs.YtodejloonfkkmaaGreat.Delta _root_.Go.Proofs.YtodejloonfkkmaaGreat.Mach

theorem n64_wf {i : Int} (wf : (Lit.int .i64 i).wf = true) : N64 i := by
  unfold N64
  simp [Lit.wf, IntKind.min, IntKind.max, IntKind.signed, IntKind.bits] at wf
  omega
theorem dworks : Works := works_of dpkg
end Go.Proofs.YtodejloonfkkmaaGreat.Dir
