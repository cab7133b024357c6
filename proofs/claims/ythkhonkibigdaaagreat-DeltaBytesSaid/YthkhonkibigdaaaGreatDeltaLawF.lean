/-
  The laws of layer 12, walked: deltas stand in one order.
-/
import Derived.Test.YthkhonkibigdaaaGreatDeltaLawC
import Derived.Deep.RegionHeld3
import Derived.Deep.DrawnRows
import Derived.Deep.CutBlock
import Derived.Deep.CutRange
namespace Go.Proofs.YthkhonkibigdaaaGreat.Delta
open Go.RowKit Leb Mem Wire _root_.Go.Proofs.YthkhonkibigdaaaGreat.Arena _root_.Go.Proofs.YthkhonkibigdaaaGreat.Kinds _root_.Go.Proofs.YthkhonkibigdaaaGreat.Path _root_.Go.Proofs.YthkhonkibigdaaaGreat.Code
set_option linter.unusedVariables false
attribute [local go_sem ↓] Go.wp_at_zero Go.wp_at_succ

theorem three_rng (a b : Int) : -1 ≤ three a b ∧ three a b ≤ 1 := by
  unfold three
  repeat' split
  all_goals omega
theorem dcmp_rng (p : List Int) (op n : Int) (p' : List Int) (op' n' : Int) : -1 ≤ dcmp p op n p' op' n' ∧ dcmp p op n p' op' n' ≤ 1 := by
  unfold dcmp
  split
  · have := cmp_three p p'; omega
  · split
    · exact three_rng _ _
    · exact three_rng _ _
/-- Deltas that may be put have the same bytes just if they are alike. -/
theorem dput_same {p p' : List Int} {op op' n n' : Int} (g : Right p op) (g' : Right p' op') (h : N64 n) (h' : N64 n') : ((⟨(dput p op n).toArray⟩ : ByteArray).toList == (⟨(dput p' op' n').toArray⟩ : ByteArray).toList) = (dcmp p op n p' op' n' == 0) := by
  rw [Bool.eq_iff_iff]
  simp only [beq_iff_eq]
  rw [ByteArray.toList_eq, ByteArray.toList_eq, dcmp_zero]
  constructor
  · intro q
    have q' : dput p op n ++ [] = dput p' op' n' ++ [] := by simpa using q
    exact (dput_one g g' h.1 h.2 h'.1 h'.2 q').1
  · rintro ⟨rfl, rfl, rfl⟩
    rfl

/-- Three deltas that came by value, in variables. -/
theorem three_boxes (a b c : Dlt) (w : World) : Below w.heap.size w (((w.alloc (.cells #[.slice a.A a.p.length a.c, .int .i64 a.op, .int .i64 a.n] 24)).alloc (.cells #[.slice b.A b.p.length b.c, .int .i64 b.op, .int .i64 b.n] 24)).alloc (.cells #[.slice c.A c.p.length c.c, .int .i64 c.op, .int .i64 c.n] 24)) ∧ Blk (((w.alloc (.cells #[.slice a.A a.p.length a.c, .int .i64 a.op, .int .i64 a.n] 24)).alloc (.cells #[.slice b.A b.p.length b.c, .int .i64 b.op, .int .i64 b.n] 24)).alloc (.cells #[.slice c.A c.p.length c.c, .int .i64 c.op, .int .i64 c.n] 24)) w.heap.size 24 #[.slice a.A a.p.length a.c, .int .i64 a.op, .int .i64 a.n] ∧ Blk (((w.alloc (.cells #[.slice a.A a.p.length a.c, .int .i64 a.op, .int .i64 a.n] 24)).alloc (.cells #[.slice b.A b.p.length b.c, .int .i64 b.op, .int .i64 b.n] 24)).alloc (.cells #[.slice c.A c.p.length c.c, .int .i64 c.op, .int .i64 c.n] 24)) (w.heap.size + 1) 24 #[.slice b.A b.p.length b.c, .int .i64 b.op, .int .i64 b.n] ∧ Blk (((w.alloc (.cells #[.slice a.A a.p.length a.c, .int .i64 a.op, .int .i64 a.n] 24)).alloc (.cells #[.slice b.A b.p.length b.c, .int .i64 b.op, .int .i64 b.n] 24)).alloc (.cells #[.slice c.A c.p.length c.c, .int .i64 c.op, .int .i64 c.n] 24)) (w.heap.size + 1 + 1) 24 #[.slice c.A c.p.length c.c, .int .i64 c.op, .int .i64 c.n] := by
  refine ⟨(((Below.refl _ _).alloc (Nat.le_refl _) _).alloc (by simp) _).alloc (by simp; omega) _, ((Blk.new w _ _).alloc _).alloc _, ?_, ?_⟩
  · have := (Blk.new (w.alloc (.cells #[.slice a.A a.p.length a.c, .int .i64 a.op, .int .i64 a.n] 24)) 24 #[.slice b.A b.p.length b.c, .int .i64 b.op, .int .i64 b.n]).alloc (.cells #[.slice c.A c.p.length c.c, .int .i64 c.op, .int .i64 c.n] 24)
    rwa [World.size_alloc] at this
  · have := Blk.new ((w.alloc (.cells #[.slice a.A a.p.length a.c, .int .i64 a.op, .int .i64 a.n] 24)).alloc (.cells #[.slice b.A b.p.length b.c, .int .i64 b.op, .int .i64 b.n] 24)) 24 #[.slice c.A c.p.length c.c, .int .i64 c.op, .int .i64 c.n]
    rwa [World.size_alloc, World.size_alloc] at this

theorem put_one (C : Pkg) (d : Dlt) (hn : N64 d.n) : ∃ (T : ByteArray) (E : Int),
    ∀ W, d.Ok W → Calls Tryz.prog 7 #[.agg #[.slice d.A d.p.length d.c, .int .i64 d.op, .int .i64 d.n]] W fun e w' => e = .returned (.tuple #[.string T, .int .i64 E]) ∧ Below W.heap.size W w' := by
  by_cases hr : Right d.p d.op
  · exact ⟨⟨(dput d.p d.op d.n).toArray⟩, 0, fun W h => C.put d W h hr hn⟩
  · exact ⟨⟨#[]⟩, 17, fun W h => C.putNo d W h hr⟩

end Go.Proofs.YthkhonkibigdaaaGreat.Delta
