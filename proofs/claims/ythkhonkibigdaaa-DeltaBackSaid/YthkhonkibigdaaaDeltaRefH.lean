/-
  The reference of deltas, walked: a delta is read, as well as can be.
-/
import Derived.Test.YthkhonkibigdaaaDeltaRefG
import Derived.Test.YthkhonkibigdaaaCodeRefC
import Derived.Deep.CutBlock
import Derived.Deep.CutRange
namespace Go.Proofs.Ythkhonkibigdaaa.Delta
open Go.RowKit Leb Mem Wire _root_.Go.Proofs.Ythkhonkibigdaaa.Arena _root_.Go.Proofs.Ythkhonkibigdaaa.Kinds _root_.Go.Proofs.Ythkhonkibigdaaa.Code _root_.Go.Proofs.Ythkhonkibigdaaa.Path
set_option linter.unusedVariables false
attribute [local go_sem ↓] Go.wp_at_zero Go.wp_at_succ

section
variable {w wr w' : World} {S : ByteArray} {v : Value} {op n : Int} {st : Int × Int}
end
theorem own_setCell {w : World} {base : Nat} {e : TypeId} {size : Nat} {v : Value} {n : Nat} {xs : List Value} (h : w.ownsRow base e size v n xs) (a : Addr) (x : Value) (ha : a.block < base) : (w.setCell a x).ownsRow base e size v n xs :=
  own_of_block h (fun i hi => Below.heap_setCell _ _ _ _ (by have := (h.lt i hi).1; omega))
theorem rp_range {S : ByteArray} {s : Int × Int} (h0 : 0 ≤ s.1) (h : s.1 ≤ S.size) : ∀ k, 0 ≤ (rp (fun s => Code.ask S s 2) s k).2.1 ∧ (rp (fun s => Code.ask S s 2) s k).2.1 ≤ S.size
  | 0 => ⟨h0, h⟩
  | k + 1 => ask_range (rp_range h0 h k).1 (rp_range h0 h k).2

theorem row_drewAt {w : World} {A : Option Addr} {ks : List Int} (h : IRow w w.heap.size A ks) : IRow w.drew w.drew.heap.size A ks := h
/-- What Read gives. -/
def ReadEnds (S : ByteArray) (w : World) (e : Ending) (w' : World) : Prop :=
  Below w.heap.size w w' ∧ ∃ A c s1 s2, e = .returned (.tuple #[.agg #[.string S, .int .i64 s1, .int .i64 s2], .agg #[.slice A (d2 S).1.length c, .int .i64 (d3 S).2, .int .i64 (d4 S).2]]) ∧ Dlt.Ok ⟨A, c, (d2 S).1, (d3 S).2, (d4 S).2⟩ w' ∧ ∀ ad, A = some ad → w.heap.size ≤ ad.block

end Go.Proofs.Ythkhonkibigdaaa.Delta
