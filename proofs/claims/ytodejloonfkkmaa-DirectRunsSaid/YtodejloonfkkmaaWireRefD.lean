/-
  The document's own text for what is read, walked.
-/
import Derived.Test.YtodejloonfkkmaaWireOps
import Derived.Test.YtodejloonfkkmaaLebG
import Derived.RegionTactic
import Derived.BigRegion
import Derived.StillTailTactics
namespace Go.Proofs.Ytodejloonfkkmaa.Wire
open Go.RowKit Leb Mem

/-- What the document's calls end in. -/
def TwoEnds (S : ByteArray) (f : Out) (w : World) (e : Ending) (w' : World) : Prop :=
  e = .returned (.tuple #[.agg #[.string S, .int .i64 f.to, .int .i64 f.er], .agg #[.int .u64 f.num, .int .i64 f.int, .string (strB f.text), .int .i64 0, .int .i64 0]]) ∧ Below w.heap.size w w'
theorem TwoEnds.mk {S : ByteArray} {f : Out} {w w' : World} {p er num int : Int} {t : ByteArray} {x : List UInt8} (h : f = ⟨num, int, x, p, er⟩) (ht : t = strB x) (hb : Below w.heap.size w w') :
    TwoEnds S f w (.returned (.tuple #[.agg #[.string S, .int .i64 p, .int .i64 er], .agg #[.int .u64 num, .int .i64 int, .string t, .int .i64 0, .int .i64 0]])) w' := by
  subst h; subst ht; exact ⟨rfl, hb⟩

theorem TwoEnds.to {S : ByteArray} {f : Out} {w w' : World} {e : Ending} (h : TwoEnds S f w e w') : e = .returned (.tuple #[.agg #[.string S, .int .i64 f.to, .int .i64 f.er], .agg #[.int .u64 f.num, .int .i64 f.int, .string (strB f.text), .int .i64 0, .int .i64 0]]) ∧ Below w.heap.size w w' := h

end Go.Proofs.Ytodejloonfkkmaa.Wire
