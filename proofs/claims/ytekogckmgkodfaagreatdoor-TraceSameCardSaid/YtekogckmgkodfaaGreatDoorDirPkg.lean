/-
  What is asked of package direct; the reference's Out.
-/
import Derived.Test.YtekogckmgkodfaaGreatDoorMachN
set_option linter.unusedVariables false
set_option linter.unusedSimpArgs false
namespace Go.Proofs.YtekogckmgkodfaaGreatDoor.Dir
open Go.RowKit Mem Arena Kinds Path Cat Suite Delta Mach
attribute [local go_sem ↓] Go.wp_at_zero Go.wp_at_succ
end Go.Proofs.YtekogckmgkodfaaGreatDoor.Dir
