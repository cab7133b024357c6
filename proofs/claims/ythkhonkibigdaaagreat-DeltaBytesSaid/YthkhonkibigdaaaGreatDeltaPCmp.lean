/-
  Package delta, walked: how two deltas stand.
-/
import Derived.Test.YthkhonkibigdaaaGreatDeltaPSmall
namespace Go.Proofs.YthkhonkibigdaaaGreat.Delta
open Go.RowKit Mem _root_.Go.Proofs.YthkhonkibigdaaaGreat.Arena _root_.Go.Proofs.YthkhonkibigdaaaGreat.Kinds _root_.Go.Proofs.YthkhonkibigdaaaGreat.Path
set_option linter.unusedVariables false
attribute [local go_sem ↓] Go.wp_at_zero Go.wp_at_succ

theorem three_any (x y : Int) (w : World) : Calls Tryz.prog 50 #[.int .i64 x, .int .i64 y] w fun e w' => e = .returned (.int .i64 (three x y)) ∧ w' = w := p_cmp_any x y w
theorem orl_any (A : Option Addr) (cap : Nat) (l : List Int) (n : Nat) (hn : l.length = n) (w : World) (hx : IRow w w.heap.size A l) (hl : n ≤ 1000000) : Calls Tryz.prog 48 #[.slice A n cap] w fun e w' => e = .returned (.int .i64 (orl l)) ∧ w' = w := by
  subst hn
  exact Or_any A cap l w hx hl
theorem row3 (w : World) (x y z : Int) : IRow (w.alloc (.cells #[.int .i64 x, .int .i64 y, .int .i64 z] 3)) (w.alloc (.cells #[.int .i64 x, .int .i64 y, .int .i64 z] 3)).heap.size (some ⟨w.heap.size, 0, none⟩) [x, y, z] := by
  have b := Blk.new w 3 #[.int .i64 x, .int .i64 y, .int .i64 z]
  intro i v hv
  refine ⟨_, rfl, b.lt, ?_⟩
  match i, hv with
  | 0, hv => cases hv; exact b.cell 0
  | 1, hv => cases hv; exact b.cell 1
  | 2, hv => cases hv; exact b.cell 2
theorem or3_any (x y z : Int) (W : World) : Calls Tryz.prog 48 #[.slice (some ⟨W.heap.size, 0, none⟩) 3 3] (W.alloc (.cells #[.int .i64 x, .int .i64 y, .int .i64 z] 3)) fun e w' => e = .returned (.int .i64 (orl [x, y, z])) ∧ w' = W.alloc (.cells #[.int .i64 x, .int .i64 y, .int .i64 z] 3) :=
  orl_any (some ⟨W.heap.size, 0, none⟩) 3 [x, y, z] 3 rfl _ (row3 W x y z) (by omega)
theorem orl_three (c op op' n n' : Int) : orl [c, three op op', three n n'] = if c ≠ 0 then c else if op ≠ op' then three op op' else three n n' := by
  simp only [orl]
  by_cases hc : c = 0
  · rw [if_pos hc, if_neg (show ¬ (c ≠ 0) from fun h => h hc)]
    by_cases ho : op = op'
    · rw [if_pos (three_zero.2 ho), if_neg (show ¬ (op ≠ op') from fun h => h ho)]
      split
      · rename_i h; exact h.symm
      · rfl
    · rw [if_neg (fun e => ho (three_zero.1 e)), if_pos (show op ≠ op' from ho)]
  · rw [if_neg hc, if_pos (show c ≠ 0 from hc)]

set_option maxRecDepth 100000 in
set_option maxHeartbeats 8000000 in
theorem DCompare_any (a b : Dlt) (w : World) (ha : a.Ok w) (hb : b.Ok w) :
    Calls Tryz.prog 19 #[.agg #[.slice a.A a.p.length a.c, .int .i64 a.op, .int .i64 a.n], .agg #[.slice b.A b.p.length b.c, .int .i64 b.op, .int .i64 b.n]] w fun e w' => e = .returned (.int .i64 (dcmp a.p a.op a.n b.p b.op b.n)) ∧ Below w.heap.size w w' := by
  have hb1 : Below w.heap.size w (w.alloc (.cells #[.slice a.A a.p.length a.c, .int .i64 a.op, .int .i64 a.n] 24)) := (Below.refl _ _).alloc (Nat.le_refl _) _
  have hb2 := hb1.alloc hb1.size (.cells #[.slice b.A b.p.length b.c, .int .i64 b.op, .int .i64 b.n] 24)
  have b1 := (Blk.new w 24 #[.slice a.A a.p.length a.c, .int .i64 a.op, .int .i64 a.n]).alloc (.cells #[.slice b.A b.p.length b.c, .int .i64 b.op, .int .i64 b.n] 24)
  have b2 := Blk.new (w.alloc (.cells #[.slice a.A a.p.length a.c, .int .i64 a.op, .int .i64 a.n] 24)) 24 #[.slice b.A b.p.length b.c, .int .i64 b.op, .int .i64 b.n]
  simp only [World.size_alloc] at b2
  obtain ⟨w2, hw2⟩ : ∃ w2, (w.alloc (.cells #[.slice a.A a.p.length a.c, .int .i64 a.op, .int .i64 a.n] 24)).alloc (.cells #[.slice b.A b.p.length b.c, .int .i64 b.op, .int .i64 b.n] 24) = w2 := ⟨_, rfl⟩
  rw [hw2] at hb2 b1 b2
  have g1 := b1.lt
  have g2 := b2.lt
  have HT := Lib.hid (fun W (h : Below w2.heap.size w2 W) => And.intro ((b1.below h g1).three) ((b2.below h g2).three))
  have HP := Lib.hid (fun W (h : Below w2.heap.size w2 W) => Path.Compare_any a.A a.c a.p b.A b.c b.p W ((ha.path.at hb2).at h) ((hb.path.at hb2).at h) ha.len hb.len)
  have HK1 := Lib.hid (fun W => three_any a.op b.op W)
  have HK2 := Lib.hid (fun W => three_any a.n b.n W)
  have HO := Lib.hid or3_any
  have HE := Lib.hid (orl_three (cmp a.p b.p) a.op b.op a.n b.n)
  have HD := Lib.hid (show dcmp a.p a.op a.n b.p b.op b.n = _ from (orl_three (cmp a.p b.p) a.op b.op a.n b.n).symm)
  generalize dcmp a.p a.op a.n b.p b.op b.n = D at *
  generalize cmp a.p b.p = c at *
  generalize three a.op b.op = t1 at *
  generalize three a.n b.n = t2 at *
  obtain ⟨⟨c0, c1, c2⟩, d0, d1, d2⟩ := HT.out _ (Below.refl _ _)
  have hB := Below.refl w2.heap.size w2
  have HW := Lib.hid hw2
  have HB2 := Lib.hid hb2
  clear hb1 hb2 b1 b2 hw2 ha hb HE g1 g2
  go_enter Tryz.func19, Tryz.ntmps19
  go_wp2_with fail
  rw [HW.out]
  have hC := HT.out _ hB
  go_region_held3 (fun w' => (w'.cell? ⟨w.heap.size, 0, none⟩ = some (.slice a.A a.p.length a.c) ∧ w'.cell? ⟨w.heap.size, 1, none⟩ = some (.int .i64 a.op) ∧ w'.cell? ⟨w.heap.size, 2, none⟩ = some (.int .i64 a.n)) ∧ (w'.cell? ⟨w.heap.size + 1, 0, none⟩ = some (.slice b.A b.p.length b.c) ∧ w'.cell? ⟨w.heap.size + 1, 1, none⟩ = some (.int .i64 b.op) ∧ w'.cell? ⟨w.heap.size + 1, 2, none⟩ = some (.int .i64 b.n))) (first | (with_reducible exact hC) | (with_reducible exact HT.out _ hB.drew) | (with_reducible exact HT.out _ (hB.alloc hB.size _)) | fail) (first
    | (go_at_call 49; (with_reducible refine (HP.out _ hB.drew).mono ?_); rintro e w3 ⟨rfl, hb⟩; have hB := hB.drew.trans (hb.mono hB.size); have hC := HT.out _ hB)
    | (go_at_call 50; first
        | ((with_reducible refine (HK1.out _).mono ?_); rintro e w4 ⟨rfl, rfl⟩)
        | ((with_reducible refine (HK2.out _).mono ?_); rintro e w4 ⟨rfl, rfl⟩)
        | fail)
    | (go_at_call 48; (with_reducible refine (HO.out _ _ _ _).mono ?_); rintro e w4 ⟨rfl, rfl⟩)
    | fail)
  all_goals go_wp2
  all_goals go_ret
  all_goals exact ⟨by rw [HD.out]; rfl, HB2.out.trans ((hB.alloc hB.size _).mono HB2.out.size)⟩

set_option maxRecDepth 100000 in
theorem DSame_any (a b : Dlt) (w : World) (ha : a.Ok w) (hb : b.Ok w) :
    Calls Tryz.prog 18 #[.agg #[.slice a.A a.p.length a.c, .int .i64 a.op, .int .i64 a.n], .agg #[.slice b.A b.p.length b.c, .int .i64 b.op, .int .i64 b.n]] w fun e w' => e = .returned (.bool (dcmp a.p a.op a.n b.p b.op b.n == 0)) ∧ Below w.heap.size w w' := by
  have hb1 : Below w.heap.size w (w.alloc (.cells #[.slice a.A a.p.length a.c, .int .i64 a.op, .int .i64 a.n] 24)) := (Below.refl _ _).alloc (Nat.le_refl _) _
  have hb2 := hb1.alloc hb1.size (.cells #[.slice b.A b.p.length b.c, .int .i64 b.op, .int .i64 b.n] 24)
  have HC := Lib.hid (DCompare_any a b _ (ha.at hb2) (hb.at hb2))
  generalize dcmp a.p a.op a.n b.p b.op b.n = D at *
  clear ha hb
  go_enter Tryz.func18, Tryz.ntmps18
  go_wp2_with (go_at_call 19; refine HC.out.mono ?_; rintro e w3 ⟨rfl, hb3⟩)
  go_ret
  exact ⟨rfl, hb2.trans (hb3.mono hb2.size)⟩

end Go.Proofs.YthkhonkibigdaaaGreat.Delta
