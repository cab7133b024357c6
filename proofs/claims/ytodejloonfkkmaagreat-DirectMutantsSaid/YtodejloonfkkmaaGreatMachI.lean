/-
  The reference of machine, walked: the first kid ends it; or; if.
  The reference of machine, walked: while; two values.
  The reference of machine, walked: a block.
  The reference of machine, walked: a variable set, an array read, an array set.
  The reference of machine, walked: an array set.
-/
import Derived.Test.YtodejloonfkkmaaGreatMachH
import Derived.Test.YtodejloonfkkmaaGreatMachG
import Derived.BigQuiet
set_option linter.unusedVariables false
set_option linter.unusedSimpArgs false
namespace Go.Proofs.YtodejloonfkkmaaGreat.Mach
open Go.RowKit Mem Arena Kinds Path Cat Suite
attribute [local go_sem ↓] Go.wp_at_zero Go.wp_at_succ
section
variable {T:TypeId} {base g:Nat} {κ κ':Nat→Nat} {p:Prg} {vv av evv:Value} {Y:List ((Option Addr×Nat)×List Int)} {s:St} {W W':World}
end
section
variable {T:TypeId} {base g:Nat} {κ κ':Nat→Nat} {p:Prg} {vv av evv:Value} {Y:List ((Option Addr×Nat)×List Int)} {s:St} {W W':World}
end
section
variable {T:TypeId} {base g:Nat} {κ κ':Nat→Nat} {p:Prg} {vv av evv:Value} {Y:List ((Option Addr×Nat)×List Int)} {s:St} {W W':World}
end
end Go.Proofs.YtodejloonfkkmaaGreat.Mach
namespace Go.Proofs.YtodejloonfkkmaaGreat.Mach
open Go.RowKit Mem Arena Kinds Path Cat Suite
attribute [local go_sem ↓] Go.wp_at_zero Go.wp_at_succ
section
variable {T:TypeId} {base g:Nat} {κ κ':Nat→Nat} {p:Prg} {vv av evv:Value} {Y:List ((Option Addr×Nat)×List Int)} {s:St} {W W':World}
theorem SM.drewN(h:SM T base g κ p vv av evv Y s W)(n:Nat):SM T base g κ p vv av evv Y s (W.drewN n):=h.move (Nat.le_refl _) fun _ _=>rfl
theorem Went.drewN(h:Went κ κ' W W')(n:Nat):Went κ κ' W (W'.drewN n):=⟨⟨h.kept.os,h.kept.tape,h.kept.output,h.kept.size,h.kept.block⟩,h.new⟩
end
end Go.Proofs.YtodejloonfkkmaaGreat.Mach
namespace Go.Proofs.YtodejloonfkkmaaGreat.Mach
open Go.RowKit Mem Arena Kinds Path Cat Suite
attribute [local go_sem ↓] Go.wp_at_zero Go.wp_at_succ
section
variable {T:TypeId} {base g:Nat} {κ κ':Nat→Nat} {p:Prg} {vv av evv:Value} {Y:List ((Option Addr×Nat)×List Int)} {s:St} {W W':World}
end
end Go.Proofs.YtodejloonfkkmaaGreat.Mach
