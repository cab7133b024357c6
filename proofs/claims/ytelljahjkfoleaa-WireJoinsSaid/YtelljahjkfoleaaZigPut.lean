/-
  Package zigzag: Put and Get, walked; the reference's Put.
-/
import Derived.Test.YtelljahjkfoleaaZigWalk
import Derived.Deep.DrawnRows
namespace Go.Proofs.Ytelljahjkfoleaa.Zig
open Go.RowKit Leb

attribute [local go_sem ↓] Go.wp_at_zero Go.wp_at_succ

theorem ret_bool {p q : Bool} (h : p = q) : Ending.returned (.bool p) = .returned (.bool q) := by rw [h]
theorem size_mk (l : List UInt8) : (ByteArray.mk l.toArray).size = l.length := by simp [ByteArray.size]
theorem below2 {w w1 w2 : World} (h1 : Below w.heap.size w w1) (h2 : Below w1.heap.size w1 w2) : Below w.heap.size w w2 := h1.trans (h2.mono h1.size)

theorem wf_u64_bounds {n : Int} (h : (Lit.int .u64 n).wf = true) : 0 ≤ n ∧ n ≤ 18446744073709551615 := by
  simp [Lit.wf, IntKind.min, IntKind.max, IntKind.signed, IntKind.bits] at h
  omega
theorem wf_i64_bounds {n : Int} (h : (Lit.int .i64 n).wf = true) : -9223372036854775808 ≤ n ∧ n ≤ 9223372036854775807 := by
  simp [Lit.wf, IntKind.min, IntKind.max, IntKind.signed, IntKind.bits] at h
  omega

/-- The bytes of a number with a sign. -/
def zput (n : Int) : List UInt8 := lput (zig n).toNat

theorem Put_any (n : Int) (h0 : -9223372036854775808 ≤ n) (h1 : n ≤ 9223372036854775807) (w : World) :
    Calls Try.prog 51 #[.int .i64 n] w fun e w' => e = .returned (.string ⟨(zput n).toArray⟩) ∧ Below w.heap.size w w' := by
  obtain ⟨z0, z1⟩ := zig_range h0 h1
  unfold zput
  go_enter Try.func51, Try.ntmps51
  go_wp2_with (first | (go_at_call 58; refine (Zig_any n h0 h1 _).mono ?_; rintro e w1 ⟨rfl, hb1⟩) | (go_at_call 45; refine (Leb.Put_any _ z0 z1 _).mono ?_; rintro e w2 ⟨rfl, hb2⟩))
  go_ret
  exact ⟨rfl, below2 hb1 hb2⟩

theorem ref_Put_any (n : Int) (h0 : -9223372036854775808 ≤ n) (h1 : n ≤ 9223372036854775807) (w : World) :
    Calls Try.prog 33 #[.int .i64 n] w fun e w' => e = .returned (.string ⟨(zput n).toArray⟩) ∧ Below w.heap.size w w' := by
  obtain ⟨z0, z1⟩ := zig_range h0 h1
  unfold zput
  go_enter Try.func33, Try.ntmps33
  go_wp2_with (first | (go_at_call 52; refine (ref_Zig_any n h0 h1 _).mono ?_; rintro e w1 ⟨rfl, rfl⟩) | (go_at_call 32; refine (ref_put_any _ z0 z1 _).mono ?_; rintro e w2 ⟨rfl, hb2⟩))
  go_ret
  exact ⟨rfl, hb2⟩

/-- What Get gives. -/
def ZGetEnds (s : ByteArray) (a : Int) (w : World) (e : Ending) (w' : World) : Prop :=
  e = .returned (.tuple #[.int .i64 (zag ((lget s.data.toList a).1 : Int)), .int .i64 (lget s.data.toList a).2.1, .int .i64 (lget s.data.toList a).2.2]) ∧ Below w.heap.size w w'

theorem ZGetEnds.mk {s : ByteArray} {a : Int} {w w' : World} {m : Int} {n : Nat} {b c : Int} (h : lget s.data.toList a = (n, b, c)) (hm : m = zag (n : Int)) (hb : Below w.heap.size w w') : ZGetEnds s a w (.returned (.tuple #[.int .i64 m, .int .i64 b, .int .i64 c])) w' :=
  ⟨by rw [h, hm], hb⟩

theorem ZGetEnds.to {s : ByteArray} {a : Int} {w w' : World} {e : Ending} {n : Nat} {b c : Int} (h : ZGetEnds s a w e w') (hl : lget s.data.toList a = (n, b, c)) : e = .returned (.tuple #[.int .i64 (zag (n : Int)), .int .i64 b, .int .i64 c]) ∧ Below w.heap.size w w' := by
  obtain ⟨h1, h2⟩ := h
  rw [hl] at h1
  exact ⟨h1, h2⟩

set_option maxRecDepth 100000 in
set_option maxHeartbeats 400000 in
theorem Get_any (s : ByteArray) (a : Int) (hs : s.size ≤ 1073741824) (w : World) : Calls Try.prog 54 #[.string s, .int .i64 a] w (ZGetEnds s a w) := by
  have hg := fun W => get_any s a hs W
  have hle := lget_fst_le s.data.toList a
  obtain ⟨⟨n, b, c⟩, hl⟩ : ∃ t, lget s.data.toList a = t := ⟨_, rfl⟩
  rw [hl] at hle
  simp only at hle
  have hn0 : (0 : Int) ≤ (n : Int) := by omega
  have hn1 : (n : Int) ≤ 18446744073709551615 := by omega
  by_cases he : c = 0
  · subst he
    have HL := Lib.hid hl
    have HG := Lib.hid hg
    clear hg hl hle
    go_enter Try.func54, Try.ntmps54
    go_wp2_with (first | (go_at_call 53; refine (HG.out _).mono ?_; intro e w1 hq; obtain ⟨rfl, hb1⟩ := hq.to HL.out; clear hq) | (go_at_call 59; refine (Zag_any _ hn0 hn1 _).mono ?_; rintro e w2 ⟨rfl, hb2⟩))
    go_ret3
    exact ZGetEnds.mk HL.out rfl (below2 hb1 hb2)
  · obtain ⟨h1, h2⟩ := lget_err s.data.toList a (by rw [hl]; exact he)
    rw [hl] at h1 h2
    simp only at h1 h2
    subst h1 h2
    have he' : (c == 0) = false := by simpa using he
    have he2 : (c != 0) = true := by simpa using he
    have HL := Lib.hid hl
    have HG := Lib.hid hg
    clear hg hl hle he
    go_enter Try.func54, Try.ntmps54
    go_wp2_with (go_at_call 53; refine (HG.out _).mono ?_; intro e w1 hq; obtain ⟨rfl, hb1⟩ := hq.to HL.out; clear hq)
    go_ret3
    exact ZGetEnds.mk HL.out rfl hb1

end Go.Proofs.Ytelljahjkfoleaa.Zig
