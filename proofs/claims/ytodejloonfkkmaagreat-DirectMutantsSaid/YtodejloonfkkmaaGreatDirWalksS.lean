/-
  The laws of layer 17, walked on the package: Mutants.
-/
import Derived.Test.YtodejloonfkkmaaGreatDirWalks
import Derived.Test.YtodejloonfkkmaaGreatDirLawA
import Derived.Test.YtodejloonfkkmaaGreatDirLawB
import Derived.Test.YtodejloonfkkmaaGreatMachPPkg
import Derived.Test.YtodejloonfkkmaaGreatSitesP
namespace Go.Proofs.YtodejloonfkkmaaGreat.Dir
open Go.RowKit Mem Arena Kinds Path Cat Suite Delta Mach
theorem directMutants_walk(p:Prg)(n:Int)(_:(Lit.int .i64 n).wf=true)(A:Option Addr)(c:Nat)(args:List Int)(_:args.length≤maxLen)(hl:args.length≤c)(hA:A=none→c=0)(f:Int)(hf:(Lit.int .i64 f).wf=true)(w:World)(hp:p.In w)(hR:IRow w w.heap.size A args) :
  Calls Tryz.prog 4 #[.agg #[.int .i64 p.ps,.slice p.A p.vs.length p.c,.slice p.B p.xs.length p.e],.int .i64 n,.slice A args.length c,.int .i64 f] w fun e w'=>e=.returned (.bool true)∧Below w.heap.size w w' :=
 directMutants_of ⟨Sites.PAll_any,Sites.PMutant_any⟩ mpkg dpkg dworks p n A c args hl hA f (n64_wf hf) w hp hR
end Go.Proofs.YtodejloonfkkmaaGreat.Dir
