/-
  The reference of machine, walked: every node of a typed program, entered, does what it means.
  The reference of machine, walked: may a program be run; are events alike, and runs.
-/
import Derived.Test.YtodejloonfkkmaaGreatMachI
import Derived.Test.YtodejloonfkkmaaGreatMachG
import Derived.Deep.RegionHeld3
import Derived.Deep.DrawnRows
set_option linter.unusedVariables false
namespace Go.Proofs.YtodejloonfkkmaaGreat.Mach
open Go.RowKit Mem Arena Kinds Path Cat Suite
section
variable {T:TypeId} {base g:Nat} {p:Prg} {vv av:Value}
end
end Go.Proofs.YtodejloonfkkmaaGreat.Mach
namespace Go.Proofs.YtodejloonfkkmaaGreat.Mach
open Go.RowKit Mem Arena Kinds Path Cat Suite
attribute [local go_sem ↓] Go.wp_at_zero Go.wp_at_succ
end Go.Proofs.YtodejloonfkkmaaGreat.Mach
