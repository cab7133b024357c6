/-
  What is asked of package direct; the reference's Out.
-/
import Derived.Test.YtodejloonfkkmaaGreatMachN
set_option linter.unusedVariables false
set_option linter.unusedSimpArgs false
namespace Go.Proofs.YtodejloonfkkmaaGreat.Dir
open Go.RowKit Mem Arena Kinds Path Cat Suite Delta Mach
attribute [local go_sem ↓] Go.wp_at_zero Go.wp_at_succ
structure DPkg:Prop where
 run:∀ (p:Prg) (A:Option Addr) (c:Nat) (args:List Int) (f:Int) (w:World),p.Ok w→IRow w w.heap.size A args→args.length≤c→(A=none→c=0)→args.length≤1000000→N64 f →
  Calls Tryz.prog 7 #[.agg #[.int .i64 p.ps,.slice p.A p.vs.length p.c,.slice p.B p.xs.length p.e],.slice A args.length c,.int .i64 f] w (RunEnds p args f w)
 out:∀ (p:Prg) (A:Option Addr) (c:Nat) (args:List Int) (f:Int) (w:World),p.Ok w→IRow w w.heap.size A args→args.length≤c→(A=none→c=0)→args.length≤1000000→N64 f →
  Calls Tryz.prog 13 #[.agg #[.int .i64 p.ps,.slice p.A p.vs.length p.c,.slice p.B p.xs.length p.e],.slice A args.length c,.int .i64 f] w fun e w'=>e=.returned (.agg #[.int .i64 (rrun p.ps p.vs p.xs args f).kind,.int .i64 (rrun p.ps p.vs p.xs args f).value])∧Below w.heap.size w w'
def Works:Prop:=∀ w:World,Calls Tryz.prog 5 #[] w fun e w'=>e=.returned (.bool true)∧Below w.heap.size w w'
end Go.Proofs.YtodejloonfkkmaaGreat.Dir
