/-
  The reference of machine, walked: every node of a typed program, entered, does what it means.
  The reference of machine, walked: may a program be run; are events alike, and runs.
-/
import Derived.Test.YtodejloonfkkmaaMachI
import Derived.Test.YtodejloonfkkmaaMachG
import Derived.Deep.RegionHeld3
import Derived.Deep.DrawnRows
set_option linter.unusedVariables false
namespace Go.Proofs.Ytodejloonfkkmaa.Mach
open Go.RowKit Mem _root_.Go.Proofs.Ytodejloonfkkmaa.Arena _root_.Go.Proofs.Ytodejloonfkkmaa.Kinds _root_.Go.Proofs.Ytodejloonfkkmaa.Path _root_.Go.Proofs.Ytodejloonfkkmaa.Cat _root_.Go.Proofs.Ytodejloonfkkmaa.Suite

theorem KidOk.cast {T : TypeId} {base g : Nat} {p : Prg} {vv av : Value} {q : Int} {s : St} {r r' : St × Int} (h : KidOk T base g p vv av q s r) (e : r = r') : KidOk T base g p vv av q s r' := e ▸ h
section
variable {T : TypeId} {base g : Nat} {p : Prg} {vv av : Value}
end
end Go.Proofs.Ytodejloonfkkmaa.Mach

set_option linter.unusedVariables false
namespace Go.Proofs.Ytodejloonfkkmaa.Mach
open Go.RowKit Mem _root_.Go.Proofs.Ytodejloonfkkmaa.Arena _root_.Go.Proofs.Ytodejloonfkkmaa.Kinds _root_.Go.Proofs.Ytodejloonfkkmaa.Path _root_.Go.Proofs.Ytodejloonfkkmaa.Cat _root_.Go.Proofs.Ytodejloonfkkmaa.Suite
attribute [local go_sem ↓] Go.wp_at_zero Go.wp_at_succ

end Go.Proofs.Ytodejloonfkkmaa.Mach
