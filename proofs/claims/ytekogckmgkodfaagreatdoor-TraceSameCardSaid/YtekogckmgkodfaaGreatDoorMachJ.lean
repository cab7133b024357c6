/-
  The reference of machine, walked: every node of a typed program, entered, does what it means.
  The reference of machine, walked: may a program be run; are events alike, and runs.
-/
import Derived.Test.YtekogckmgkodfaaGreatDoorMachI
import Derived.Test.YtekogckmgkodfaaGreatDoorMachG
import Derived.Deep.RegionHeld3
import Derived.Deep.DrawnRows
set_option linter.unusedVariables false
namespace Go.Proofs.YtekogckmgkodfaaGreatDoor.Mach
open Go.RowKit Mem Arena Kinds Path Cat Suite
def Fine(p:Prg)(s:St):Prop:=s.over=false→WT p.vs s∧Fits s
section
variable {T:TypeId} {base g:Nat} {p:Prg} {vv av:Value}
end
end Go.Proofs.YtekogckmgkodfaaGreatDoor.Mach
namespace Go.Proofs.YtekogckmgkodfaaGreatDoor.Mach
open Go.RowKit Mem Arena Kinds Path Cat Suite
attribute [local go_sem ↓] Go.wp_at_zero Go.wp_at_succ
end Go.Proofs.YtekogckmgkodfaaGreatDoor.Mach
