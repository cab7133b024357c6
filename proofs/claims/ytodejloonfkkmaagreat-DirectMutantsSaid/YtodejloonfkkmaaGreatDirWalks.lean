/-
  The laws of layer 17, walked on the package: whole numbers.
-/
import Derived.Test.YtodejloonfkkmaaGreatDirI
import Derived.Test.YtodejloonfkkmaaGreatDirWorks
namespace Go.Proofs.YtodejloonfkkmaaGreat.Dir
open Go.RowKit Mem Arena Kinds Path Cat Suite Delta Mach
theorem n64_wf{i:Int}(wf:(Lit.int .i64 i).wf=true):N64 i:=by
 unfold N64
 simp [Lit.wf,IntKind.min,IntKind.max,IntKind.signed,IntKind.bits] at wf
 omega
theorem dworks:Works:=works_of dpkg
end Go.Proofs.YtodejloonfkkmaaGreat.Dir
