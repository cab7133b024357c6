/-
  The laws of layer 14, walked on the package. (spkg : SPkg of SitesPPkg, which is to be written over what has landed.)
-/
import Derived.Test.YtofhgaioidfdmaaGreatSitesPPkg
import Derived.Test.YtofhgaioidfdmaaGreatSitesWorks
import Derived.Test.YtofhgaioidfdmaaGreatSitesLawA
import Derived.Test.YtofhgaioidfdmaaGreatSitesLawC
import Derived.Test.YtofhgaioidfdmaaGreatSitesLawD
import Derived.Test.YtofhgaioidfdmaaGreatSitesLawF
set_option linter.unusedVariables false
namespace Go.Proofs.YtofhgaioidfdmaaGreat.Sites
open Go.RowKit Mem _root_.Go.Proofs.YtofhgaioidfdmaaGreat.Arena _root_.Go.Proofs.YtofhgaioidfdmaaGreat.Delta _root_.Go.Proofs.YtofhgaioidfdmaaGreat.Kinds

theorem works : Works := works_of spkg
theorem sitesJust_walk (p : Prg) (d : Dlt) (w : World) (hp : p.In w) (hd : d.In w) :
    Calls Tryz.prog 5 #[.agg #[.int .i64 p.ps, .slice p.A p.vs.length p.c, .slice p.B p.xs.length p.e], .agg #[.slice d.A d.p.length d.c, .int .i64 d.op, .int .i64 d.n]] w fun e w' => e = .returned (.bool true) ∧ Below w.heap.size w w' :=
  sitesJust_of spkg works p d w hp hd
theorem sitesTyped_walk (p : Prg) (n : Int) (wn : (Lit.int .i64 n).wf = true) (w : World) (hp : p.In w) :
    Calls Tryz.prog 6 #[.agg #[.int .i64 p.ps, .slice p.A p.vs.length p.c, .slice p.B p.xs.length p.e], .int .i64 n] w fun e w' => e = .returned (.bool true) ∧ Below w.heap.size w w' :=
  sitesTyped_of spkg works p n w hp
theorem sitesFind_walk (A : Option Addr) (c : Nat) (L : List Mt) (hm : L.length ≤ maxLen) (hc : L.length ≤ c) (hA : A = none → c = 0) (d : Dlt) (w : World) (hL : MIn w A L) (hd : d.In w) :
    Calls Tryz.prog 7 #[.slice A L.length c, .agg #[.slice d.A d.p.length d.c, .int .i64 d.op, .int .i64 d.n]] w fun e w' => e = .returned (.bool true) ∧ Below w.heap.size w w' :=
  sitesFind_of spkg works A c L hc hA d w hL hd
theorem sitesApart_walk (p : Prg) (n : Int) (wn : (Lit.int .i64 n).wf = true) (m : Int) (wm : (Lit.int .i64 m).wf = true) (w : World) (hp : p.In w) :
    Calls Tryz.prog 8 #[.agg #[.int .i64 p.ps, .slice p.A p.vs.length p.c, .slice p.B p.xs.length p.e], .int .i64 n, .int .i64 m] w fun e w' => e = .returned (.bool true) ∧ Below w.heap.size w w' :=
  sitesApart_of spkg works p n m w hp
theorem sitesCount_walk (p : Prg) (a : Int) (wa : (Lit.int .i64 a).wf = true) (w : World) (hp : p.In w) :
    Calls Tryz.prog 9 #[.agg #[.int .i64 p.ps, .slice p.A p.vs.length p.c, .slice p.B p.xs.length p.e], .int .i64 a] w fun e w' => e = .returned (.bool true) ∧ Below w.heap.size w w' :=
  sitesCount_of spkg works p a w hp

end Go.Proofs.YtofhgaioidfdmaaGreat.Sites
