/-
  The laws of layer 14, walked on the package. (spkg : SPkg of SitesPPkg, which is to be written over what has landed.)
-/
import Derived.Test.YtofhgaioidfdmaaGreatSitesPPkg
import Derived.Test.YtofhgaioidfdmaaGreatSitesWorks
import Derived.Test.YtofhgaioidfdmaaGreatSitesLawA
import Derived.Test.YtofhgaioidfdmaaGreatSitesLawC
import Derived.Test.YtofhgaioidfdmaaGreatSitesLawD
import Derived.Test.YtofhgaioidfdmaaGreatSitesLawF
set_option linter.unusedVariables false
namespace Go.Proofs.YtofhgaioidfdmaaGreat.Sites
open Go.RowKit Mem _root_.Go.Proofs.YtofhgaioidfdmaaGreat.Arena _root_.Go.Proofs.YtofhgaioidfdmaaGreat.Delta _root_.Go.Proofs.YtofhgaioidfdmaaGreat.Kinds

theorem works : Works := works_of spkg
theorem sitesAll_walk (p : Prg) (w : World) (hp : p.In w) :
    Calls Tryz.prog 3 #[.agg #[.int .i64 p.ps, .slice p.A p.vs.length p.c, .slice p.B p.xs.length p.e]] w fun e w' => e = .returned (.bool true) ∧ Below w.heap.size w w' :=
  sitesAll_of spkg works p w hp
theorem sitesMutant_walk (p : Prg) (d : Dlt) (w : World) (hp : p.In w) (hd : d.In w) :
    Calls Tryz.prog 4 #[.agg #[.int .i64 p.ps, .slice p.A p.vs.length p.c, .slice p.B p.xs.length p.e], .agg #[.slice d.A d.p.length d.c, .int .i64 d.op, .int .i64 d.n]] w fun e w' => e = .returned (.bool true) ∧ Below w.heap.size w w' :=
  sitesMutant_of spkg works p d w hp hd
end Go.Proofs.YtofhgaioidfdmaaGreat.Sites
