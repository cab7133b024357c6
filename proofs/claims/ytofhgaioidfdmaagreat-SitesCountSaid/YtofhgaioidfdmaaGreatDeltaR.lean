/-
  The reference of deltas, walked: its small functions.
  The reference of deltas, walked: nodes with others instead of those between two places.
  The reference of deltas, walked: may a node be changed so?
  The reference of deltas, walked: a body that is changed.
  The reference of deltas, walked: a body that is changed, of any delta that may be.
  The reference of deltas, walked: a program that is changed.
-/
import Derived.Test.YtofhgaioidfdmaaGreatDeltaG
import Derived.Test.YtofhgaioidfdmaaGreatPathG
import Derived.Deep.QuietTactic
import Derived.Test.YtofhgaioidfdmaaGreatArenaH
import Derived.Deep.CutBlock
import Derived.Deep.CutRange
import Derived.Deep.RegionHeld3
import Derived.Deep.DrawnRows
namespace Go.Proofs.YtofhgaioidfdmaaGreat.Delta
open Go.RowKit Mem _root_.Go.Proofs.YtofhgaioidfdmaaGreat.Arena _root_.Go.Proofs.YtofhgaioidfdmaaGreat.Path
set_option linter.unusedVariables false
attribute [local go_sem ↓] Go.wp_at_zero Go.wp_at_succ

set_option maxRecDepth 100000 in
theorem ref_less_any (a b : Int) (w : World) : Calls Tryz.prog 67 #[.int .i64 a, .int .i64 b] w fun e w' => e = .returned (.int .i64 (three a b)) ∧ w' = w := by
  by_cases h1 : a < b
  · have hE := Lib.hid (show three a b = -1 from if_pos h1)
    go_enter Tryz.func67, Tryz.ntmps67
    go_wp2
    go_ret
    exact ⟨by rw [hE.out]; rfl, rfl⟩
  by_cases h2 : b < a
  · have hE := Lib.hid (show three a b = 1 by unfold three; rw [if_neg h1, if_pos h2])
    go_enter Tryz.func67, Tryz.ntmps67
    go_wp2
    go_ret
    exact ⟨by rw [hE.out]; rfl, rfl⟩
  have hE := Lib.hid (show three a b = 0 by unfold three; rw [if_neg h1, if_neg h2])
  go_enter Tryz.func67, Tryz.ntmps67
  go_wp2
  go_ret
  exact ⟨by rw [hE.out]; rfl, rfl⟩

set_option maxRecDepth 100000 in
set_option maxHeartbeats 1000000 in
theorem ref_DCompare_any (a b : Dlt) (w : World) (ha : a.Ok w) (hb : b.Ok w) :
    Calls Tryz.prog 34 #[.agg #[.slice a.A a.p.length a.c, .int .i64 a.op, .int .i64 a.n], .agg #[.slice b.A b.p.length b.c, .int .i64 b.op, .int .i64 b.n]] w fun e w' => e = .returned (.int .i64 (dcmp a.p a.op a.n b.p b.op b.n)) ∧ Below w.heap.size w w' := by
  obtain ⟨A, c, p, op, n⟩ := a
  obtain ⟨A', c', p', op', n'⟩ := b
  simp only at *
  have hB0 : Below w.heap.size w (w.alloc (.cells #[.slice A p.length c, .int .i64 op, .int .i64 n] 34)) := (Below.refl _ _).alloc (Nat.le_refl _) _
  have hB1 := hB0.alloc hB0.size (.cells #[.slice A' p'.length c', .int .i64 op', .int .i64 n'] 34)
  obtain ⟨x0, x1, x2⟩ := ((Blk.new w 34 #[.slice A p.length c, .int .i64 op, .int .i64 n]).alloc (.cells #[.slice A' p'.length c', .int .i64 op', .int .i64 n'] 34)).three
  have bY := Blk.new (w.alloc (.cells #[.slice A p.length c, .int .i64 op, .int .i64 n] 34)) 34 #[.slice A' p'.length c', .int .i64 op', .int .i64 n']
  rw [World.size_alloc] at bY
  obtain ⟨y0, y1, y2⟩ := bY.three
  have bX := (Blk.new w 34 #[.slice A p.length c, .int .i64 op, .int .i64 n]).alloc (.cells #[.slice A' p'.length c', .int .i64 op', .int .i64 n'] 34)
  have hlX := bX.lt
  have hlY := bY.lt
  have HX := Lib.hid (fun W (h : Below _ _ W) => (bX.below h hlX).three)
  have HY := Lib.hid (fun W (h : Below _ _ W) => (bY.below h hlY).three)
  have HC := Lib.hid (Path.ref_Compare_any A c p A' c' p' _ (ha.at hB1).path (hb.at hB1).path ha.len hb.len)
  have HL := Lib.hid (fun W => ref_less_any op op' W)
  have HN := Lib.hid (fun W => ref_less_any n n' W)
  by_cases h : cmp p p' = 0
  · by_cases k : op = op'
    · subst k
      have HE := Lib.hid (show dcmp p op n p' op n' = three n n' by unfold dcmp; rw [if_neg (by omega), if_neg (by omega)])
      rw [h] at HC
      clear ha hb bX bY h
      go_enter Tryz.func34, Tryz.ntmps34
      go_wp2_with (first
        | (go_at_call 66; refine HC.out.mono ?_; rintro e w1 ⟨rfl, hb1⟩; obtain ⟨x0, x1, x2⟩ := HX.out _ hb1; obtain ⟨y0, y1, y2⟩ := HY.out _ hb1)
        | (go_at_call 67; refine (HN.out _).mono ?_; rintro e w2 ⟨rfl, rfl⟩))
      go_ret
      exact ⟨by rw [HE.out]; rfl, hB1.trans (hb1.mono hB1.size)⟩
    · have HE := Lib.hid (show dcmp p op n p' op' n' = three op op' by unfold dcmp; rw [if_neg (by omega), if_pos k])
      have e1 : (op == op') = false := by simpa using k
      have e2 : (op != op') = true := by simpa using k
      rw [h] at HC
      clear ha hb bX bY h k
      go_enter Tryz.func34, Tryz.ntmps34
      go_wp2_with (first
        | (go_at_call 66; refine HC.out.mono ?_; rintro e w1 ⟨rfl, hb1⟩; obtain ⟨x0, x1, x2⟩ := HX.out _ hb1; obtain ⟨y0, y1, y2⟩ := HY.out _ hb1)
        | (go_at_call 67; refine (HL.out _).mono ?_; rintro e w2 ⟨rfl, rfl⟩))
      go_ret
      exact ⟨by rw [HE.out]; rfl, hB1.trans (hb1.mono hB1.size)⟩
  · have HE := Lib.hid (show dcmp p op n p' op' n' = cmp p p' from if_pos h)
    obtain ⟨cc, hcc⟩ : ∃ cc, cmp p p' = cc := ⟨_, rfl⟩
    rw [hcc] at HC HE h
    have e1 : (cc == 0) = false := by simpa using h
    have e2 : (cc != 0) = true := by simpa using h
    clear ha hb bX bY h hcc
    go_enter Tryz.func34, Tryz.ntmps34
    go_wp2_with (first
      | (go_at_call 66; refine HC.out.mono ?_; rintro e w1 ⟨rfl, hb1⟩))
    go_ret
    exact ⟨by rw [HE.out]; rfl, hB1.trans (hb1.mono hB1.size)⟩

end Go.Proofs.YtofhgaioidfdmaaGreat.Delta

namespace Go.Proofs.YtofhgaioidfdmaaGreat.Delta
open Go.RowKit Mem _root_.Go.Proofs.YtofhgaioidfdmaaGreat.Arena _root_.Go.Proofs.YtofhgaioidfdmaaGreat.Path
set_option linter.unusedVariables false
attribute [local go_sem ↓] Go.wp_at_zero Go.wp_at_succ

end Go.Proofs.YtofhgaioidfdmaaGreat.Delta

namespace Go.Proofs.YtofhgaioidfdmaaGreat.Delta
open Go.RowKit Mem _root_.Go.Proofs.YtofhgaioidfdmaaGreat.Arena _root_.Go.Proofs.YtofhgaioidfdmaaGreat.Path
set_option linter.unusedVariables false
attribute [local go_sem ↓] Go.wp_at_zero Go.wp_at_succ

end Go.Proofs.YtofhgaioidfdmaaGreat.Delta

namespace Go.Proofs.YtofhgaioidfdmaaGreat.Delta
open Go.RowKit Mem _root_.Go.Proofs.YtofhgaioidfdmaaGreat.Arena _root_.Go.Proofs.YtofhgaioidfdmaaGreat.Path
set_option linter.unusedVariables false
attribute [local go_sem ↓] Go.wp_at_zero Go.wp_at_succ

end Go.Proofs.YtofhgaioidfdmaaGreat.Delta

namespace Go.Proofs.YtofhgaioidfdmaaGreat.Delta
open Go.RowKit Mem _root_.Go.Proofs.YtofhgaioidfdmaaGreat.Arena _root_.Go.Proofs.YtofhgaioidfdmaaGreat.Path
set_option linter.unusedVariables false
attribute [local go_sem ↓] Go.wp_at_zero Go.wp_at_succ

end Go.Proofs.YtofhgaioidfdmaaGreat.Delta

namespace Go.Proofs.YtofhgaioidfdmaaGreat.Delta
open Go.RowKit Mem _root_.Go.Proofs.YtofhgaioidfdmaaGreat.Arena _root_.Go.Proofs.YtofhgaioidfdmaaGreat.Kinds _root_.Go.Proofs.YtofhgaioidfdmaaGreat.Path
set_option linter.unusedVariables false
attribute [local go_sem ↓] Go.wp_at_zero Go.wp_at_succ

theorem zero_ok (w : World) : Prg.Ok ⟨0, none, 0, [], none, 0, []⟩ w := ⟨fun i x h => by simp at h, fun i x h => by simp at h, by simp, by simp, by simp, by simp, fun _ => rfl, fun _ => rfl⟩

end Go.Proofs.YtofhgaioidfdmaaGreat.Delta
