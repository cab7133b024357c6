/-
  The examples' programs in memory, and what they come to.
-/
import Derived.Test.YtodejloonfkkmaaMachLawA
import Derived.Test.YtodejloonfkkmaaMachEx
set_option linter.unusedVariables false
set_option linter.unusedSimpArgs false
namespace Go.Proofs.Ytodejloonfkkmaa.Mach
open Go.RowKit Mem _root_.Go.Proofs.Ytodejloonfkkmaa.Arena _root_.Go.Proofs.Ytodejloonfkkmaa.Kinds _root_.Go.Proofs.Ytodejloonfkkmaa.Path _root_.Go.Proofs.Ytodejloonfkkmaa.Cat _root_.Go.Proofs.Ytodejloonfkkmaa.Suite _root_.Go.Proofs.Ytodejloonfkkmaa.Delta
attribute [local go_sem ↓] Go.wp_at_zero Go.wp_at_succ

theorem ERow.one {W : World} {g B : Nat} {a b c : Int} (h : Blk W g 64 #[.int .i64 a, .int .i64 b, .int .i64 c]) (hB : g < B) : ERow W B (some ⟨g, 0, Option.none⟩) [(a, b, c)] := by
  intro i e hi
  match i, hi with
  | 0, hi =>
    cases hi
    exact ⟨_, rfl, hB, h.cell 0, h.cell 1, h.cell 2⟩
theorem x5_out' : (rrun 1 [0] X5 [4] 4).kind = 4 ∧ (rrun 1 [0] X5 [4] 4).value = 0 ∧ (rrun 1 [0] X5 [4] 4).steps = 4 ∧ (rrun 1 [0] X5 [4] 4).ev = [] := by
  rw [rrun_ok (x5_right rfl (by decide) (by decide))]
  unfold mrun
  rw [mean_whole x5w]
  decide +kernel
def P5 (g : Nat) : Prg := ⟨1, some ⟨g, 0, none⟩, 1, [0], some ⟨g + 1, 0, none⟩, 5, X5⟩
theorem rrun_no {ps : Int} {vs : List Int} {xs : List Nd} {args : List Int} {f : Int} (h : mcheck ps vs xs args.length f ≠ 0) : (rrun ps vs xs args f).kind = 0 ∧ (rrun ps vs xs args f).value = 0 ∧ (rrun ps vs xs args f).steps = 0 ∧ (rrun ps vs xs args f).ev = [] := by
  unfold rrun
  rw [if_neg h]
  exact ⟨rfl, rfl, rfl, rfl⟩
theorem n64 {n : Int} (h0 : -100000 ≤ n) (h1 : n ≤ 100000) : N64 n := ⟨by omega, by omega⟩
theorem P5_made (w : World) : (P5 w.heap.size).Ok (((w.alloc (.cells #[.int .i64 0] 3)).alloc (.cells #[.int .i64 20, .int .i64 1, .int .i64 25, .int .i64 0, .int .i64 7, .int .i64 0, .int .i64 3, .int .i64 0, .int .i64 1, .int .i64 1] 39)).alloc (.cells #[.int .i64 1, .slice (some ⟨w.heap.size, 0, none⟩) 1 1, .slice (some ⟨w.heap.size + 1, 0, none⟩) 5 5] 25)) ∧ Blk (((w.alloc (.cells #[.int .i64 0] 3)).alloc (.cells #[.int .i64 20, .int .i64 1, .int .i64 25, .int .i64 0, .int .i64 7, .int .i64 0, .int .i64 3, .int .i64 0, .int .i64 1, .int .i64 1] 39)).alloc (.cells #[.int .i64 1, .slice (some ⟨w.heap.size, 0, none⟩) 1 1, .slice (some ⟨w.heap.size + 1, 0, none⟩) 5 5] 25)) (w.heap.size + 2) 25 #[.int .i64 1, .slice (some ⟨w.heap.size, 0, none⟩) 1 1, .slice (some ⟨w.heap.size + 1, 0, none⟩) 5 5] ∧ Below w.heap.size w (((w.alloc (.cells #[.int .i64 0] 3)).alloc (.cells #[.int .i64 20, .int .i64 1, .int .i64 25, .int .i64 0, .int .i64 7, .int .i64 0, .int .i64 3, .int .i64 0, .int .i64 1, .int .i64 1] 39)).alloc (.cells #[.int .i64 1, .slice (some ⟨w.heap.size, 0, none⟩) 1 1, .slice (some ⟨w.heap.size + 1, 0, none⟩) 5 5] 25)) := by
  have b0 := ((Blk.new w 3 #[.int .i64 0]).alloc (.cells #[.int .i64 20, .int .i64 1, .int .i64 25, .int .i64 0, .int .i64 7, .int .i64 0, .int .i64 3, .int .i64 0, .int .i64 1, .int .i64 1] 39)).alloc (.cells #[.int .i64 1, .slice (some ⟨w.heap.size, 0, none⟩) 1 1, .slice (some ⟨w.heap.size + 1, 0, none⟩) 5 5] 25)
  have b1 := (Blk.new (w.alloc (.cells #[.int .i64 0] 3)) 39 #[.int .i64 20, .int .i64 1, .int .i64 25, .int .i64 0, .int .i64 7, .int .i64 0, .int .i64 3, .int .i64 0, .int .i64 1, .int .i64 1]).alloc (.cells #[.int .i64 1, .slice (some ⟨w.heap.size, 0, none⟩) 1 1, .slice (some ⟨w.heap.size + 1, 0, none⟩) 5 5] 25)
  have b2 := Blk.new ((w.alloc (.cells #[.int .i64 0] 3)).alloc (.cells #[.int .i64 20, .int .i64 1, .int .i64 25, .int .i64 0, .int .i64 7, .int .i64 0, .int .i64 3, .int .i64 0, .int .i64 1, .int .i64 1] 39)) 25 #[.int .i64 1, .slice (some ⟨w.heap.size, 0, none⟩) 1 1, .slice (some ⟨w.heap.size + 1, 0, none⟩) 5 5]
  simp only [World.size_alloc] at b1 b2
  have hb : Below w.heap.size w (((w.alloc (.cells #[.int .i64 0] 3)).alloc (.cells #[.int .i64 20, .int .i64 1, .int .i64 25, .int .i64 0, .int .i64 7, .int .i64 0, .int .i64 3, .int .i64 0, .int .i64 1, .int .i64 1] 39)).alloc (.cells #[.int .i64 1, .slice (some ⟨w.heap.size, 0, none⟩) 1 1, .slice (some ⟨w.heap.size + 1, 0, none⟩) 5 5] 25)) := (((Below.refl _ w).alloc (Nat.le_refl _) _).alloc (by simp) _).alloc (by simp; omega) _
  exact ⟨⟨IRow.of_blk (ks := [0]) b0 b0.lt, Nodes.of_blk (xs := X5) b1 b1.lt, by simp [P5], by simp [P5, X5], by simp [P5], by simp [P5, X5], (fun e => by cases e), (fun e => by cases e)⟩, b2, hb⟩
theorem hb4 (W : World) : Below W.heap.size W (W.alloc (.cells #[.int .i64 4] 3)) := (Below.refl _ _).alloc (Nat.le_refl _) _
theorem arg4 (W : World) : IRow (W.alloc (.cells #[.int .i64 4] 3)) (W.alloc (.cells #[.int .i64 4] 3)).heap.size (some ⟨W.heap.size, 0, none⟩) [4] := IRow.of_blk (ks := [4]) (Blk.new W 3 #[.int .i64 4]) (Blk.new W 3 #[.int .i64 4]).lt
end Go.Proofs.Ytodejloonfkkmaa.Mach
