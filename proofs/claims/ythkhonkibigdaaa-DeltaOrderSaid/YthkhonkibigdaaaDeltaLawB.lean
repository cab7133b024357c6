/-
  The laws of layer 12, walked: a delta's bytes, and the delta of bytes.
-/
import Derived.Test.YthkhonkibigdaaaDeltaLawA
import Derived.Test.YthkhonkibigdaaaDeltaRefI
namespace Go.Proofs.Ythkhonkibigdaaa.Delta
open Go.RowKit Leb Mem Wire _root_.Go.Proofs.Ythkhonkibigdaaa.Arena _root_.Go.Proofs.Ythkhonkibigdaaa.Kinds _root_.Go.Proofs.Ythkhonkibigdaaa.Path _root_.Go.Proofs.Ythkhonkibigdaaa.Code
set_option linter.unusedVariables false
attribute [local go_sem ↓] Go.wp_at_zero Go.wp_at_succ

theorem one_box (d : Dlt) (w : World) : Below w.heap.size w (w.alloc (.cells #[.slice d.A d.p.length d.c, .int .i64 d.op, .int .i64 d.n] 27)) ∧ Blk (w.alloc (.cells #[.slice d.A d.p.length d.c, .int .i64 d.op, .int .i64 d.n] 27)) w.heap.size 27 #[.slice d.A d.p.length d.c, .int .i64 d.op, .int .i64 d.n] :=
  ⟨(Below.refl _ _).alloc (Nat.le_refl _) _, Blk.new _ _ _⟩
/-- What Get told. -/
def Got (L : List Int) (op n E : Int) (w : World) (e : Ending) (w' : World) : Prop :=
  Below w.heap.size w w' ∧ ∃ A c, e = .returned (.tuple #[.agg #[.slice A L.length c, .int .i64 op, .int .i64 n], .int .i64 E]) ∧ Dlt.Ok ⟨A, c, L, op, n⟩ w'
end Go.Proofs.Ythkhonkibigdaaa.Delta
