/-
  Package zigzag: Put and Get, walked; the reference's Put.
-/
import Derived.Test.YthimplhfmamejaaZigWalk
import Derived.Deep.DrawnRows
namespace Go.Proofs.Ythimplhfmamejaa.Zig
open Go.RowKit Leb

attribute [local go_sem ↓] Go.wp_at_zero Go.wp_at_succ

theorem ret_bool {p q : Bool} (h : p = q) : Ending.returned (.bool p) = .returned (.bool q) := by rw [h]
theorem size_mk (l : List UInt8) : (ByteArray.mk l.toArray).size = l.length := by simp [ByteArray.size]
theorem below2 {w w1 w2 : World} (h1 : Below w.heap.size w w1) (h2 : Below w1.heap.size w1 w2) : Below w.heap.size w w2 := h1.trans (h2.mono h1.size)

theorem wf_u64_bounds {n : Int} (h : (Lit.int .u64 n).wf = true) : 0 ≤ n ∧ n ≤ 18446744073709551615 := by
  simp [Lit.wf, IntKind.min, IntKind.max, IntKind.signed, IntKind.bits] at h
  omega
theorem wf_i64_bounds {n : Int} (h : (Lit.int .i64 n).wf = true) : -9223372036854775808 ≤ n ∧ n ≤ 9223372036854775807 := by
  simp [Lit.wf, IntKind.min, IntKind.max, IntKind.signed, IntKind.bits] at h
  omega

/-- The bytes of a number with a sign. -/
def zput (n : Int) : List UInt8 := lput (zig n).toNat

/-- What Get gives. -/
def ZGetEnds (s : ByteArray) (a : Int) (w : World) (e : Ending) (w' : World) : Prop :=
  e = .returned (.tuple #[.int .i64 (zag ((lget s.data.toList a).1 : Int)), .int .i64 (lget s.data.toList a).2.1, .int .i64 (lget s.data.toList a).2.2]) ∧ Below w.heap.size w w'

theorem ZGetEnds.mk {s : ByteArray} {a : Int} {w w' : World} {m : Int} {n : Nat} {b c : Int} (h : lget s.data.toList a = (n, b, c)) (hm : m = zag (n : Int)) (hb : Below w.heap.size w w') : ZGetEnds s a w (.returned (.tuple #[.int .i64 m, .int .i64 b, .int .i64 c])) w' :=
  ⟨by rw [h, hm], hb⟩

theorem ZGetEnds.to {s : ByteArray} {a : Int} {w w' : World} {e : Ending} {n : Nat} {b c : Int} (h : ZGetEnds s a w e w') (hl : lget s.data.toList a = (n, b, c)) : e = .returned (.tuple #[.int .i64 (zag (n : Int)), .int .i64 b, .int .i64 c]) ∧ Below w.heap.size w w' := by
  obtain ⟨h1, h2⟩ := h
  rw [hl] at h1
  exact ⟨h1, h2⟩

end Go.Proofs.Ythimplhfmamejaa.Zig
