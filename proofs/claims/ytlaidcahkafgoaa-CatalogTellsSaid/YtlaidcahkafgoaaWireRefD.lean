/-
  The document's own text for what is read, walked.
-/
import Derived.Test.YtlaidcahkafgoaaWireOps
import Derived.Test.YtlaidcahkafgoaaLebG
import Derived.RegionTactic
import Derived.BigRegion
import Derived.StillTailTactics
namespace Go.Proofs.Ytlaidcahkafgoaa.Wire
open Go.RowKit Leb Mem

/-- A reader of the document's, as a value. -/
def rdV (S : ByteArray) (p er : Int) : Value := .agg #[.string S, .int .i64 p, .int .i64 er]

/-- What the document's calls end in. -/
def TwoEnds (S : ByteArray) (f : Out) (w : World) (e : Ending) (w' : World) : Prop :=
  e = .returned (.tuple #[.agg #[.string S, .int .i64 f.to, .int .i64 f.er], .agg #[.int .u64 f.num, .int .i64 f.int, .string (strB f.text), .int .i64 0, .int .i64 0]]) ∧ Below w.heap.size w w'
theorem TwoEnds.mk {S : ByteArray} {f : Out} {w w' : World} {p er num int : Int} {t : ByteArray} {x : List UInt8} (h : f = ⟨num, int, x, p, er⟩) (ht : t = strB x) (hb : Below w.heap.size w w') :
    TwoEnds S f w (.returned (.tuple #[.agg #[.string S, .int .i64 p, .int .i64 er], .agg #[.int .u64 num, .int .i64 int, .string t, .int .i64 0, .int .i64 0]])) w' := by
  subst h; subst ht; exact ⟨rfl, hb⟩

theorem TwoEnds.to {S : ByteArray} {f : Out} {w w' : World} {e : Ending} (h : TwoEnds S f w e w') : e = .returned (.tuple #[.agg #[.string S, .int .i64 f.to, .int .i64 f.er], .agg #[.int .u64 f.num, .int .i64 f.int, .string (strB f.text), .int .i64 0, .int .i64 0]]) ∧ Below w.heap.size w w' := h

/-- What is told is stored. -/
theorem below_sets {B : Nat} {a W : World} (h : Below B a W) {i j : Nat} (hi : B ≤ i) (hj : B ≤ j) (v0 v1 v2 u0 u1 u2 u3 u4 : Value) :
    Below B a ((((((((W.setCell ⟨i, 0, none⟩ v0).setCell ⟨i, 1, none⟩ v1).setCell ⟨i, 2, none⟩ v2).setCell ⟨j, 0, none⟩ u0).setCell ⟨j, 1, none⟩ u1).setCell ⟨j, 2, none⟩ u2).setCell ⟨j, 3, none⟩ u3).setCell ⟨j, 4, none⟩ u4) :=
  (((((((h.setCell (p := ⟨i, 0, none⟩) hi v0).setCell (p := ⟨i, 1, none⟩) hi v1).setCell (p := ⟨i, 2, none⟩) hi v2).setCell (p := ⟨j, 0, none⟩) hj u0).setCell (p := ⟨j, 1, none⟩) hj u1).setCell (p := ⟨j, 2, none⟩) hj u2).setCell (p := ⟨j, 3, none⟩) hj u3).setCell (p := ⟨j, 4, none⟩) hj u4

theorem neq_facts {x : Int} (h : x ≠ 0) : (x == 0) = false ∧ (x != 0) = true := by constructor <;> simpa using h

end Go.Proofs.Ytlaidcahkafgoaa.Wire
