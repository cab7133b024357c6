/-
  The laws of layer 12, walked: what changed a tag, or a number, is changed back.
-/
import Derived.Test.YthkhonkibigdaaaGreatDeltaLawA
import Derived.Test.YthkhonkibigdaaaGreatKindsP
import Derived.Test.YthkhonkibigdaaaGreatPathH
import Derived.Deep.RegionHeld3
import Derived.Deep.DrawnRows
import Derived.Deep.QuietTactic
namespace Go.Proofs.YthkhonkibigdaaaGreat.Delta
open Go.RowKit Mem _root_.Go.Proofs.YthkhonkibigdaaaGreat.Arena _root_.Go.Proofs.YthkhonkibigdaaaGreat.Kinds _root_.Go.Proofs.YthkhonkibigdaaaGreat.Path
set_option linter.unusedVariables false
attribute [local go_sem ↓] Go.wp_at_zero Go.wp_at_succ

theorem Dlt.Ok.again {d : Dlt} {w : World} (h : d.Ok w) (k : Int) : Dlt.Ok ⟨d.A, d.c, d.p, d.op, k⟩ w := ⟨h.path, h.len, h.cap, h.none⟩

end Go.Proofs.YthkhonkibigdaaaGreat.Delta
