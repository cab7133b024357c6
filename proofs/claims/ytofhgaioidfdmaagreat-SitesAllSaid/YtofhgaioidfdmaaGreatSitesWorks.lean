/-
  The laws of layer 14, walked on what the package's functions come to: the document's example.
-/
import Derived.Test.YtofhgaioidfdmaaGreatSitesBox
import Derived.Test.YtofhgaioidfdmaaGreatSitesEx
import Derived.Deep.RegionHeld3
import Derived.Deep.DrawnRows
import Derived.Deep.CutBlock
set_option linter.unusedVariables false
namespace Go.Proofs.YtofhgaioidfdmaaGreat.Sites
open Go.RowKit Mem _root_.Go.Proofs.YtofhgaioidfdmaaGreat.Arena _root_.Go.Proofs.YtofhgaioidfdmaaGreat.Delta _root_.Go.Proofs.YtofhgaioidfdmaaGreat.Path _root_.Go.Proofs.YtofhgaioidfdmaaGreat.Cat _root_.Go.Proofs.YtofhgaioidfdmaaGreat.Kinds
attribute [local go_sem ↓] Go.wp_at_zero Go.wp_at_succ

/-- The example in memory. -/
abbrev p3 (g : Nat) : Prg := ⟨0, none, 0, [], some ⟨g, 0, none⟩, 3, E3⟩
theorem merr_f : merr 0 [] E3 [0] 7 0 = 0 := by
  unfold merr mlet
  rw [pcheck33, e3f1, e3l1]
  decide
theorem merr_g : merr 0 [] E3 [] 5 0 = 17 := by
  unfold merr mlet
  rw [pcheck33, e3f0, e3l0]
  decide
/-- Cells of a row of deltas, as the walk writes them. -/
def Cen (w : World) (ad : Addr) (o : Nat) (P : Option Addr) (c : Nat) (m : Mt) : Prop :=
  w.cell? ⟨ad.block, ad.off + o, none⟩ = some (.slice P m.1.length c) ∧ w.cell? ⟨ad.block, ad.off + o + 1, none⟩ = some (.int .i64 m.2.1) ∧ w.cell? ⟨ad.block, ad.off + o + 2, none⟩ = some (.int .i64 m.2.2)
theorem cen_of {w : World} {ad : Addr} {j : Nat} {P : Option Addr} {c : Nat} {m : Mt} (h : Cem w ad (j + 1) P c m) : Cen w ad ((j + 1) * 3) P c m := by
  obtain ⟨h1, h2, h3⟩ := h
  have e : ad.add ((j + 1) * 3) = ⟨ad.block, ad.off + (j + 1) * 3, none⟩ := by unfold Addr.add; rw [if_neg (by omega)]
  rw [e] at h1 h2 h3
  exact ⟨h1, h2, h3⟩
theorem cen_zero {w : World} {ad : Addr} {P : Option Addr} {c : Nat} {m : Mt} (h : Cem w ad 0 P c m) : w.cell? ad = some (.slice P m.1.length c) ∧ w.cell? ⟨ad.block, ad.off + 1, none⟩ = some (.int .i64 m.2.1) ∧ w.cell? ⟨ad.block, ad.off + 2, none⟩ = some (.int .i64 m.2.2) := by
  have e : ad.add (0 * 3) = ad := by unfold Addr.add; simp
  unfold Cem at h
  rw [e] at h
  exact h

theorem m5_cells {w : World} {A : Option Addr} (h : MRow w A M5) : ∃ ad P0 c0 P1 c1 P2 c2 P3 c3 P4 c4, A = some ad ∧ ad.block < w.heap.size ∧ ∀ W, Below w.heap.size w W →
    ((W.cell? ad = some (.slice P0 1 c0) ∧ W.cell? ⟨ad.block, ad.off + 1, none⟩ = some (.int .i64 5) ∧ W.cell? ⟨ad.block, ad.off + 2, none⟩ = some (.int .i64 0)) ∧
     Cen W ad 3 P1 c1 ([0], 7, 0) ∧ Cen W ad 6 P2 c2 ([0, 0], 4, -1) ∧ Cen W ad 9 P3 c3 ([0, 0], 4, 0) ∧ Cen W ad 12 P4 c4 ([0, 0], 4, 2)) ∧ (dl P1 c1 ([0], 7, 0)).Ok W ∧ (dl P3 c3 ([0, 0], 4, 0)).Ok W := by
  obtain ⟨ad, P0, c0, rfl, hlt, -, -⟩ := h 0 ([0], 5, 0) rfl
  obtain ⟨ad0, P0, c0, e0, K0⟩ := h.get (i := 0) (m := ([0], 5, 0)) rfl
  cases e0
  obtain ⟨ad1, P1, c1, e1, K1⟩ := h.get (i := 1) (m := ([0], 7, 0)) rfl
  cases e1
  obtain ⟨ad2, P2, c2, e2, K2⟩ := h.get (i := 2) (m := ([0, 0], 4, -1)) rfl
  cases e2
  obtain ⟨ad3, P3, c3, e3, K3⟩ := h.get (i := 3) (m := ([0, 0], 4, 0)) rfl
  cases e3
  obtain ⟨ad4, P4, c4, e4, K4⟩ := h.get (i := 4) (m := ([0, 0], 4, 2)) rfl
  cases e4
  exact ⟨ad, P0, c0, P1, c1, P2, c2, P3, c3, P4, c4, rfl, hlt, fun W hb => ⟨⟨cen_zero (K0 W hb).2, cen_of (K1 W hb).2, cen_of (K2 W hb).2, cen_of (K3 W hb).2, cen_of (K4 W hb).2⟩, (K1 W hb).1, (K3 W hb).1⟩⟩

set_option maxRecDepth 100000 in
set_option maxHeartbeats 8000000 in
theorem works_of (C : SPkg) : Works := by
  intro w
  obtain ⟨wz, hwz⟩ : ∃ wz, (w.alloc (.cells #[.int .i64 20, .int .i64 1, .int .i64 25, .int .i64 0, .int .i64 1, .int .i64 1] 54)).alloc (.cells #[.int .i64 0, .slice none 0 0, .slice (some ⟨w.heap.size, 0, none⟩) 3 3] 25) = wz := ⟨_, rfl⟩
  have b0 := (Blk.new w 54 #[.int .i64 20, .int .i64 1, .int .i64 25, .int .i64 0, .int .i64 1, .int .i64 1]).alloc (.cells #[.int .i64 0, .slice none 0 0, .slice (some ⟨w.heap.size, 0, none⟩) 3 3] 25)
  have b1 := Blk.new (w.alloc (.cells #[.int .i64 20, .int .i64 1, .int .i64 25, .int .i64 0, .int .i64 1, .int .i64 1] 54)) 25 #[.int .i64 0, .slice none 0 0, .slice (some ⟨w.heap.size, 0, none⟩) 3 3]
  have hB : Below w.heap.size w wz := by
    rw [← hwz]
    exact ((Below.refl _ w).alloc (Nat.le_refl _) _).alloc (by simp) _
  rw [hwz] at b0 b1
  rw [World.size_alloc] at b1
  have l0 := b0.lt
  have l1 := b1.lt
  have oP : (p3 w.heap.size).Ok wz := ⟨fun i x h => by simp at h, Nodes.of_blk (xs := E3) b0 l0, by simp, by simp [E3], by simp, by simp [E3], fun _ => rfl, fun e => by cases e⟩
  have HP := Lib.hid (fun W (h : Below wz.heap.size wz W) => oP.at h)
  have H1 := Lib.hid (fun W (h : Below wz.heap.size wz W) => (b1.below h l1).three)
  have HWZ := Lib.hid hwz
  have HB := Lib.hid hB
  have k1 := Lib.hid (fun W (h : (p3 w.heap.size).Ok W) => show Calls Tryz.prog 12 #[.agg #[.int .i64 0, .slice none 0 0, .slice (some ⟨w.heap.size, 0, none⟩) 3 3]] W (fun e w' => Below W.heap.size W w' ∧ ∃ A c, e = .returned (.tuple #[.slice A 5 c, .int .i64 0]) ∧ 5 ≤ c ∧ (A = none → c = 0) ∧ MRow w' A M5) from
    (C.all (p3 w.heap.size) W h).mono (fun e w' q => by have r := q.ok pcheck33; rw [show msites (p3 w.heap.size).xs = M5 from msites3] at r; exact r))
  have k2 := Lib.hid (fun (P : Option Addr) (c : Nat) W (h : (p3 w.heap.size).Ok W) (h' : (dl P c ([0], 7, 0)).Ok W) => show Calls Tryz.prog 16 #[.agg #[.int .i64 0, .slice none 0 0, .slice (some ⟨w.heap.size, 0, none⟩) 3 3], .agg #[.slice P 1 c, .int .i64 7, .int .i64 0]] W (fun e w' => Below W.heap.size W w' ∧ ∃ A c B ce, e = .returned (.tuple #[.agg #[.int .i64 0, .slice A 0 c, .slice B 3 ce], .int .i64 0]) ∧ Prg.Ok ⟨0, A, c, [], B, ce, F3⟩ w') from
    (C.mutant (p3 w.heap.size) (dl P c ([0], 7, 0)) W h h').mono (fun e w' q => by
      have r := MEndsE.ok q merr_f
      rw [show anew (p3 w.heap.size).xs (dl P c ([0], 7, 0)).p (dl P c ([0], 7, 0)).op (dl P c ([0], 7, 0)).n = F3 from e3n] at r
      obtain ⟨r1, A, c, B, ce, r2, r3, -⟩ := r
      exact ⟨r1, A, c, B, ce, r2, r3⟩))
  have k3 := Lib.hid (fun W (h : (p3 w.heap.size).Ok W) => show Calls Tryz.prog 16 #[.agg #[.int .i64 0, .slice none 0 0, .slice (some ⟨w.heap.size, 0, none⟩) 3 3], .agg #[.slice none 0 0, .int .i64 5, .int .i64 0]] W (fun e w' => Below W.heap.size W w' ∧ ∃ A c B ce, e = .returned (.tuple #[.agg #[.int .i64 0, .slice A 0 c, .slice B 0 ce], .int .i64 17])) from
    (C.mutant (p3 w.heap.size) ⟨none, 0, [], 5, 0⟩ W h ⟨fun i x h => by simp at h, by simp, by simp, fun _ => rfl⟩).mono (fun e w' q => by
      have r := MEndsE.one q
      rw [show merr (p3 w.heap.size).ps (p3 w.heap.size).vs (p3 w.heap.size).xs (Dlt.p ⟨none, 0, [], 5, 0⟩) (Dlt.op ⟨none, 0, [], 5, 0⟩) (Dlt.n ⟨none, 0, [], 5, 0⟩) = 17 from merr_g] at r
      obtain ⟨r1, A, c, B, ce, r2, -⟩ := r
      exact ⟨r1, A, c, B, ce, r2⟩))
  have k4 := Lib.hid (fun W => show Calls Tryz.prog 12 #[.agg #[.int .i64 0, .slice none 0 0, .slice none 0 0]] W (fun e w' => Below W.heap.size W w' ∧ ∃ A c, e = .returned (.tuple #[.slice A 0 c, .int .i64 10])) from
    (C.all ⟨0, none, 0, [], none, 0, []⟩ W (zero_ok W)).mono (fun e w' q => by
      have r := q.no (by rw [show pcheck (Prg.ps ⟨0, none, 0, [], none, 0, []⟩) (Prg.vs ⟨0, none, 0, [], none, 0, []⟩) (Prg.xs ⟨0, none, 0, [], none, 0, []⟩) = 10 from pcheck00]; decide)
      rw [show pcheck (Prg.ps ⟨0, none, 0, [], none, 0, []⟩) (Prg.vs ⟨0, none, 0, [], none, 0, []⟩) (Prg.xs ⟨0, none, 0, [], none, 0, []⟩) = 10 from pcheck00] at r
      exact r))
  have k5 := Lib.hid (fun (A : Option Addr) (cA : Nat) (P : Option Addr) (c : Nat) W (hm : MRow W A M5) (hc : 5 ≤ cA) (hA : A = none → cA = 0) (h' : (dl P c ([0, 0], 4, 0)).Ok W) => show Calls Tryz.prog 23 #[.slice A 5 cA, .agg #[.slice P 2 c, .int .i64 4, .int .i64 0]] W (fun e w' => Below W.heap.size W w' ∧ e = .returned (.int .i64 3)) from
    (C.find A cA M5 (dl P c ([0, 0], 4, 0)) W hm hc hA (by simp [M5]) h').mono (fun e w' q => by
      obtain ⟨r1, k, r2, r3⟩ := q
      rw [find3 r3] at r2
      exact ⟨r1, r2⟩))
  have k6 := Lib.hid (fun (A : Option Addr) (cA : Nat) W (hm : MRow W A M5) (hc : 5 ≤ cA) (hA : A = none → cA = 0) => show Calls Tryz.prog 23 #[.slice A 5 cA, .agg #[.slice none 0 0, .int .i64 0, .int .i64 0]] W (fun e w' => Below W.heap.size W w' ∧ e = .returned (.int .i64 (-1))) from
    (C.find A cA M5 ⟨none, 0, [], 0, 0⟩ W hm hc hA (by simp [M5]) ⟨fun i x h => by simp at h, by simp, by simp, fun _ => rfl⟩).mono (fun e w' q => by
      obtain ⟨r1, k, r2, r3⟩ := q
      rw [find_1 r3] at r2
      exact ⟨r1, r2⟩))
  clear b0 b1 hwz hB
  go_enter Tryz.func10, Tryz.ntmps10
  go_wp2_with (first
    | (go_at_call 12; rw [HWZ.out]; refine (k1.out _ (HP.out _ (Below.refl _ _))).mono ?_; rintro e w1 ⟨hb1, A1, c1, rfl, hc1, hA1, hm1⟩; obtain ⟨m0, m1, m2⟩ := H1.out _ hb1)
    | fail)
  have HM1 := Lib.hid hm1
  obtain ⟨ad, P0, c0, P1, c1', P2, c2, P3, c3, P4, c4, rfl, had, HC⟩ := m5_cells hm1
  have HBX := Lib.hid (fun W (h : Below w1.heap.size w1 W) => And.intro (H1.out _ (hb1.trans (h.mono hb1.size))) (HC W h).1.2.1)
  have HOK := Lib.hid (fun W (h : Below w1.heap.size w1 W) => And.intro (HP.out _ (hb1.trans (h.mono hb1.size))) (HC W h).2.1)
  have HCC := Lib.hid HC
  have hS := HBX.out _ (Below.refl _ _)
  unfold Cen at hS
  have AL : Below w1.heap.size w1 (w1.alloc (.cells #[.int .i64 0, .slice none 0 0, .slice none 0 0] 25)) := (Below.refl _ _).alloc (Nat.le_refl _) _
  have hbd : Below w1.heap.size w1 w1.drew := (Below.refl _ _).drew
  have hgp : w.heap.size + 1 < w1.heap.size := Nat.lt_of_lt_of_le l1 hb1.size
  have nb : ∀ i, (⟨w1.heap.size, i, none⟩ : Addr) ≠ ⟨ad.block, ad.off + 3, none⟩ := fun i => ne_blk (by show ad.block ≠ _; omega)
  have nb1 : ∀ i o, (⟨w1.heap.size, i, none⟩ : Addr) ≠ ⟨ad.block, o, none⟩ := fun i o => ne_blk (by show ad.block ≠ _; omega)
  have nb2 : ∀ i o, (⟨w1.heap.size, i, none⟩ : Addr) ≠ ⟨w.heap.size + 1, o, none⟩ := fun i o => ne_blk (by show w.heap.size + 1 ≠ _; omega)
  clear HC hm1 m0 m1 m2
  go_region_held3 (fun w' => (w'.cell? ⟨w.heap.size + 1, 0, none⟩ = some (.int .i64 0) ∧ w'.cell? ⟨w.heap.size + 1, 1, none⟩ = some (.slice none 0 0) ∧ w'.cell? ⟨w.heap.size + 1, 2, none⟩ = some (.slice (some ⟨w.heap.size, 0, none⟩) 3 3)) ∧ (w'.cell? ⟨ad.block, ad.off + 3, none⟩ = some (.slice P1 1 c1') ∧ w'.cell? ⟨ad.block, ad.off + 3 + 1, none⟩ = some (.int .i64 7) ∧ w'.cell? ⟨ad.block, ad.off + 3 + 2, none⟩ = some (.int .i64 0))) (first | exact hS | exact HBX.out _ AL.drew | exact HBX.out _ AL | exact HBX.out _ (hBq.alloc hBq.size _) | exact ⟨⟨by (repeat rw [World.cell?_setCell_other _ _ _ _ (nb2 _ _)]); exact hS.1.1, by (repeat rw [World.cell?_setCell_other _ _ _ _ (nb2 _ _)]); exact hS.1.2.1, by (repeat rw [World.cell?_setCell_other _ _ _ _ (nb2 _ _)]); exact hS.1.2.2⟩, by (repeat rw [World.cell?_setCell_other _ _ _ _ (nb1 _ _)]); exact hS.2.1, by (repeat rw [World.cell?_setCell_other _ _ _ _ (nb1 _ _)]); exact hS.2.2.1, by (repeat rw [World.cell?_setCell_other _ _ _ _ (nb1 _ _)]); exact hS.2.2.2⟩ | fail) (first
    | (go_at_call 16; first
      | ((with_reducible refine (k2.out P1 c1' w1.drew (HOK.out _ hbd).1 (HOK.out _ hbd).2).mono ?_); rintro e w7 ⟨hb7, A6, c6, B6, ce6, rfl, ok7⟩; have hBq : Below w1.heap.size w1 w7 := hbd.trans hb7; have hS := HBX.out _ hBq; unfold Cen at hS)
      | ((with_reducible refine (k2.out P1 c1' _ (HOK.out _ AL.drew).1 (HOK.out _ AL.drew).2).mono ?_); rintro e w7 ⟨hb7, A6, c6, B6, ce6, rfl, ok7⟩; have bX0 := (Blk.new w1 25 #[.int .i64 0, .slice none 0 0, .slice none 0 0]).drew; have bX := bX0.below hb7 bX0.lt; have hBq : Below w1.heap.size w1 w7 := AL.drew.trans (hb7.mono AL.drew.size); have zf := bX.frozen; obtain ⟨z0, z1, z2⟩ := bX.three; have hS := HBX.out _ hBq; unfold Cen at hS)
      | fail)
    | fail)
  all_goals first
    | (have hF : FinP w1 (((w7.setCell ⟨w1.heap.size, 0, none⟩ (.int .i64 0)).setCell ⟨w1.heap.size, 1, none⟩ (.slice A6 0 c6)).setCell ⟨w1.heap.size, 2, none⟩ (.slice B6 3 ce6)) w1.heap.size 0 A6 c6 [] B6 ce6 F3 := finp_set hBq ok7 bX (Nat.le_refl _) (fun h => absurd rfl h)
       generalize ((w7.setCell ⟨w1.heap.size, 0, none⟩ (.int .i64 0)).setCell ⟨w1.heap.size, 1, none⟩ (.slice A6 0 c6)).setCell ⟨w1.heap.size, 2, none⟩ (.slice B6 3 ce6) = w8 at hF ⊢
       obtain ⟨g7, hg7⟩ : ∃ g7, w1.heap.size = g7 := ⟨_, rfl⟩
       have hF2 := hF.2
       have hF1 := hF.1
       rw [hg7] at hF2
       clear hF
       have hF : Below w1.heap.size w1 w8 ∧ _ := ⟨hF1, hF2⟩
       rw [hg7])
    | (have hF : FinP w1 (w7.alloc (.cells #[.int .i64 0, .slice A6 0 c6, .slice B6 3 ce6] 25)) w7.heap.size 0 A6 c6 [] B6 ce6 F3 := finp_new hBq ok7
       generalize w7.alloc (.cells #[.int .i64 0, .slice A6 0 c6, .slice B6 3 ce6] 25) = w8 at hF ⊢
       generalize w7.heap.size = g7 at hF ⊢)
  all_goals (
    obtain ⟨hB8, bF, okF⟩ := hF
    obtain ⟨adB, hadB, -, -⟩ := okF.body 2 (1, 0) rfl
    simp only at hadB
    subst hadB
    have HF8 := Lib.hid (fun W (h : Below w8.heap.size w8 W) => show W.cell? ⟨g7, 2, none⟩ = some (.slice (some adB) 3 ce6) ∧ W.cell? ⟨adB.block, adB.off + 4 + 1, none⟩ = some (.int .i64 0) from ⟨(bF.below h bF.lt).three.2.2, by
      obtain ⟨ad', e, -, -, h2⟩ := (okF.at h).body 2 (1, 0) rfl
      cases e
      have e4 : adB.add (2 * 2) = ⟨adB.block, adB.off + 4, none⟩ := by unfold Addr.add; rw [if_neg (by omega)]
      rw [e4] at h2
      exact h2⟩)
    have hbz8 := hb1.trans (hB8.mono hb1.size)
    obtain ⟨m0, m1, m2⟩ := H1.out _ hbz8
    clear hBq ok7 hS bF okF hb7 nb nb1 nb2 hbd AL
    go_wp2_with (first
      | (go_at_call 16; refine (k3.out _ (HP.out _ hbz8)).mono ?_; rintro e w9 ⟨hb9, A9, c9, B9, ce9, rfl⟩)
      | (go_at_call 12; refine (k4.out _).mono ?_; rintro e w10 ⟨hb10, A10, c10, rfl⟩; have hb9a := hb9.alloc hb9.size (.cells #[.int .i64 0, .slice A9 0 c9, .slice B9 0 ce9] 25); have hb8 := hb9a.trans (hb10.mono hb9a.size); obtain ⟨g2, g3⟩ := HF8.out _ hb8; have hb110 := hB8.trans (hb8.mono hB8.size); obtain ⟨⟨⟨y0, y1, y2⟩, ⟨y3, y4, y5⟩, ⟨y6, y7, y8⟩, ⟨y9, y10, y11⟩, y12, y13, y14⟩, okA, okB⟩ := HCC.out _ hb110; simp only at y0 y1 y2 y3 y4 y5 y6 y7 y8 y9 y10 y11 y12 y13 y14)
      | (go_at_call 23; first
        | ((with_reducible refine (k5.out (some ad) c1 P3 c3 _ (HM1.out.at hb110) hc1 hA1 okB).mono ?_); rintro e w11 ⟨hb11, rfl⟩; have hb111 := hb110.trans (hb11.mono hb110.size))
        | ((with_reducible refine (k6.out (some ad) c1 _ (HM1.out.at hb111) hc1 hA1).mono ?_); rintro e w12 ⟨hb12, rfl⟩; have hb112 := hb111.trans (hb12.mono hb111.size)))
      | fail)
    go_ret
    exact ⟨rfl, HB.out.trans ((hb1.trans (hb112.mono hb1.size)).mono HB.out.size)⟩)

end Go.Proofs.YtofhgaioidfdmaaGreat.Sites
