/-
  The reference of deltas, walked: a body that is changed, of any delta that may be.
-/
import Derived.Test.YthkhonkibigdaaaDeltaRefD
namespace Go.Proofs.Ythkhonkibigdaaa.Delta
open Go.RowKit Mem _root_.Go.Proofs.Ythkhonkibigdaaa.Arena _root_.Go.Proofs.Ythkhonkibigdaaa.Path
set_option linter.unusedVariables false
attribute [local go_sem ↓] Go.wp_at_zero Go.wp_at_succ

set_option maxRecDepth 100000 in
set_option maxHeartbeats 4000000 in
theorem ref_changed_ret (A : Option Addr) (c : Nat) (l : List Nd) (a n : Nat) (x : Nd) (d : Dlt) (w : World) (hx : Nodes w w.heap.size A l) (hl : l.length ≤ 1000000) (h : scan 1 (l.drop a) = some n) (hxa : l[a]? = some x) (hm : dmay x.1 d.op d.n = true) (h7 : d.op = 7) :
    Calls Try.prog 28 #[.slice A l.length c, .int .i64 a, .agg #[.slice d.A d.p.length d.c, .int .i64 d.op, .int .i64 d.n]] w (NodesEnds (dch l a d.op d.n) w) := by
  obtain ⟨DA, dc, p, op, v⟩ := d
  simp only at *
  have hal : a < l.length := (List.getElem?_eq_some_iff.1 hxa).1
  have hB1 : Below w.heap.size w (w.alloc (.cells #[.slice DA p.length dc, .int .i64 op, .int .i64 v] 27)) := (Below.refl _ _).alloc (Nat.le_refl _) _
  obtain ⟨ad, rfl, hbk, g0, g1⟩ := (hx.below hB1) a x hxa
  have hB2 := hB1.alloc hB1.size (.cells #[.int .i64 x.1, .int .i64 x.2] 45)
  have bZ := (Blk.new w 27 #[.slice DA p.length dc, .int .i64 op, .int .i64 v]).alloc (.cells #[.int .i64 x.1, .int .i64 x.2] 45)
  obtain ⟨z0, z1, z2⟩ := bZ.three
  have bY := Blk.new (w.alloc (.cells #[.slice DA p.length dc, .int .i64 op, .int .i64 v] 27)) 45 #[.int .i64 x.1, .int .i64 x.2]
  rw [World.size_alloc] at bY
  obtain ⟨y0, y1⟩ := bY.two
  have HX := Lib.hid hx
  have HZ := Lib.hid bZ
  have HSW := Lib.hid (fun (f t : Nat) (y : Nd) (F T : Int) (hF : F = f) (hT : T = t) (W : World) (hf : f ≤ l.length) (ht : t ≤ l.length) (hW : Below w.heap.size w W) (G : Nat) (hG : G = W.heap.size) =>
    (show Calls Try.prog 57 #[.slice (some ad) l.length c, .int .i64 F, .int .i64 T, .slice (some ⟨G, 0, none⟩) 1 1] (W.alloc (.cells #[.int .i64 y.1, .int .i64 y.2] 45)) (NodesEnds (swap l f t [y]) (W.alloc (.cells #[.int .i64 y.1, .int .i64 y.2] 45))) by
      subst hF hT hG
      exact ref_swap_any (some ad) c l f t (some ⟨W.heap.size, 0, none⟩) 1 [y] _ (HX.out.at (hW.alloc hW.size _)) hl (Nodes.of_blk (Blk.new W _ _) (by simp)) (by simp) hf ht))
  have HEN := Lib.hid (fun q W hW => ref_End_any (some ad) c l q W hW hl)
  have HG := Lib.hid (getD_at hxa)
  have v1 : IntKind.i64.wrap ((a : Int) + 1) = (a : Int) + 1 := IntWalk.i64_in _ (by omega)
  have i0 : (0 : Int) ≤ (a : Int) := by omega
  have i1 : (a : Int) < (l.length : Int) := by omega
  subst h7
  obtain ⟨n1, hn1, hn2⟩ := ret_kid h hxa hm
  have he : aend l ((a : Int) + 1) = ((a + 1 + n1 : Nat) : Int) := by rw [show (a : Int) + 1 = ((a + 1 : Nat) : Int) by omega, aend_some hn1]; omega
  have HE := Lib.hid (show dch l a 7 v = swap l (a + 1) (a + 1 + n1) [(1, v)] by unfold dch; rw [if_neg (by omega), if_neg (by omega), if_neg (by omega), if_neg (by omega), show ((a + 1 : Nat) : Int) = (a : Int) + 1 by omega, he, Int.toNat_natCast])
  have HQ := Lib.hid (fun W hW => (show Calls Try.prog 54 #[.slice (some ad) l.length c, .int .i64 ((a : Int) + 1)] W (fun e w' => e = .returned (.int .i64 ((a + 1 + n1 : Nat) : Int)) ∧ Below W.heap.size W w') from he ▸ HEN.out ((a : Int) + 1) W hW))
  have hC := z2
  clear hx h hxa hm bZ bY he hn1
  go_enter Try.func28, Try.ntmps28
  go_upto_region 13 with fail
  have HSG := Lib.hid (fun (f t : Nat) (y1 y2 : Int) (F T : Int) (hF : F = f) (hT : T = t) (W : World) (hf : f ≤ l.length) (ht : t ≤ l.length) (hW : Below w.heap.size w W) (G : Nat) (hG : Blk W G 45 #[.int .i64 y1, .int .i64 y2]) =>
    (show Calls Try.prog 57 #[.slice (some ad) l.length c, .int .i64 F, .int .i64 T, .slice (some ⟨G, 0, none⟩) 1 1] W (NodesEnds (swap l f t [(y1, y2)]) W) by
      subst hF hT
      exact ref_swap_any (some ad) c l f t (some ⟨G, 0, none⟩) 1 [(y1, y2)] _ (HX.out.at hW) hl (Nodes.of_blk hG hG.lt) (by simp) hf ht))
  have hf1 : a + 1 ≤ l.length := by omega
  have hf2 : a + 1 + n1 ≤ l.length := hn2
  have hD := hB2.drew
  have hN := (hB2.alloc hB2.size (.cells #[.int .i64 1, .int .i64 v] 45)).drew
  have HQD := Lib.hid (HQ.out _ (HX.out.at hD))
  have HQN := Lib.hid (HQ.out _ (HX.out.at hN))
  have hZN := (HZ.out.alloc (.cells #[.int .i64 1, .int .i64 v] 45)).drew
  have hCN := hZN.three.2.2
  have bN := (Blk.new ((w.alloc (.cells #[.slice DA p.length dc, .int .i64 7, .int .i64 v] 27)).alloc (.cells #[.int .i64 x.1, .int .i64 x.2] 45)) 45 #[.int .i64 1, .int .i64 v]).drew
  simp only [World.size_alloc] at bN
  go_region_held3 (fun w' => w'.cell? ⟨w.heap.size, 2, none⟩ = some (.int .i64 v)) (first | exact hC | exact hCN | exact (hZ3.alloc _).three.2.2) (first
    | (go_at_call 54; (with_reducible refine HQD.out.mono ?_); rintro e w3 ⟨rfl, hb3⟩; have hB3 := hD.trans (hb3.mono hD.size); have hZ3 := HZ.out.drew.below hb3 HZ.out.lt; have hC := hZ3.three.2.2; have hBE := hB3.alloc hB3.size (.cells #[.int .i64 1, .int .i64 v] 45); have hZE := hZ3.alloc (.cells #[.int .i64 1, .int .i64 v] 45); have bE := Blk.new w3 45 #[.int .i64 1, .int .i64 v])
    | (go_at_call 54; (with_reducible refine HQN.out.mono ?_); rintro e w3 ⟨rfl, hb3⟩; have hBE := hN.trans (hb3.mono hN.size); have hZE := hZN.below hb3 hZN.lt; have hC := hZE.three.2.2; have bE := bN.below hb3 bN.lt)
    | (go_at_call 57; refine (HSG.out (a + 1) (a + 1 + n1) 1 v _ _ ?_ ?_ _ hf1 hf2 hBE _ bE).mono ?_; omega; omega; rintro e w4 ⟨hb4, A4, c4, rfl, hc4, hA4, hN4⟩; have hC := (hZE.below hb4 hZE.lt).three.2.2))
  all_goals go_wp2_with fail
  all_goals go_ret
  all_goals rw [HE.out]
  all_goals exact ⟨hBE.trans (hb4.mono hBE.size), A4, c4, rfl, hc4, hA4, hN4⟩

set_option maxRecDepth 100000 in
/-- A body that is changed. -/
theorem ref_changed_any (A : Option Addr) (c : Nat) (l : List Nd) (a n : Nat) (x : Nd) (d : Dlt) (w : World) (hx : Nodes w w.heap.size A l) (hl : l.length ≤ 1000000) (h : scan 1 (l.drop a) = some n) (hxa : l[a]? = some x) (hm : dmay x.1 d.op d.n = true) :
    Calls Try.prog 28 #[.slice A l.length c, .int .i64 a, .agg #[.slice d.A d.p.length d.c, .int .i64 d.op, .int .i64 d.n]] w (NodesEnds (dch l a d.op d.n) w) := by
  by_cases h7 : d.op = 7
  · exact ref_changed_ret A c l a n x d w hx hl h hxa hm h7
  · exact ref_changed_six A c l a n x d w hx hl h hxa hm h7

end Go.Proofs.Ythkhonkibigdaaa.Delta
