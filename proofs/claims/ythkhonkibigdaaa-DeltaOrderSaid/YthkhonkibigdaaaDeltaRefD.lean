/-
  The reference of deltas, walked: a body that is changed.
-/
import Derived.Test.YthkhonkibigdaaaDeltaRefC
import Derived.Test.YthkhonkibigdaaaArenaH
import Derived.Deep.RegionHeld3
import Derived.Deep.DrawnRows
namespace Go.Proofs.Ythkhonkibigdaaa.Delta
open Go.RowKit Mem _root_.Go.Proofs.Ythkhonkibigdaaa.Arena _root_.Go.Proofs.Ythkhonkibigdaaa.Path
set_option linter.unusedVariables false
attribute [local go_sem ↓] Go.wp_at_zero Go.wp_at_succ

theorem dmay_op {t op v : Int} (h : dmay t op v = true) : op = 1 ∨ op = 2 ∨ op = 3 ∨ op = 4 ∨ op = 5 ∨ op = 6 ∨ op = 7 := by
  rcases ops_split op with q | q | q | q | q | q | q | q
  all_goals try omega
  rw [dmay_no q] at h
  cases h
/-- The first kid of a Return. -/
theorem ret_kid {l : List Nd} {a n : Nat} {x : Nd} (h : scan 1 (l.drop a) = some n) (hx : l[a]? = some x) {v : Int} (hm : dmay x.1 7 v = true) : ∃ n1, scan 1 (l.drop (a + 1)) = some n1 ∧ a + 1 + n1 ≤ l.length := by
  have ha : a < l.length := (List.getElem?_eq_some_iff.1 hx).1
  have hm' : x.1 = 25 := by
    have : dmay x.1 7 v = decide (x.1 = 25) := rfl
    rw [this, decide_eq_true_eq] at hm
    exact hm
  have hd : l.drop a = x :: l.drop (a + 1) := by
    rw [List.drop_eq_getElem_cons ha]
    rw [List.getElem?_eq_getElem ha] at hx
    rw [Option.some.inj hx]
  have har : 0 ≤ ar x := by
    by_cases c : ar x < 0
    · rw [hd, show (1 : Nat) = 0 + 1 from rfl, scan_bad c] at h; cases h
    · omega
  have ha1 : ar x = 1 := by
    unfold ar at har ⊢
    rw [hm'] at har ⊢
    rw [if_neg (by decide)] at har ⊢
    split
    · rename_i c; rw [if_pos c] at har; omega
    · unfold asks; simp
  rw [hd, show (1 : Nat) = 0 + 1 from rfl, scan_good har, ha1, Option.map_eq_some_iff] at h
  obtain ⟨n1, h1, rfl⟩ := h
  have h1' : scan 1 (l.drop (a + 1)) = some n1 := h1
  have hl1 := scan_le _ _ _ h1'
  rw [List.length_drop] at hl1
  exact ⟨n1, h1', by omega⟩

set_option maxRecDepth 100000 in
set_option maxHeartbeats 4000000 in
/-- All but Return (that one draws: DeltaRefE). -/
theorem ref_changed_six (A : Option Addr) (c : Nat) (l : List Nd) (a n : Nat) (x : Nd) (d : Dlt) (w : World) (hx : Nodes w w.heap.size A l) (hl : l.length ≤ 1000000) (h : scan 1 (l.drop a) = some n) (hxa : l[a]? = some x) (hm : dmay x.1 d.op d.n = true) (h7 : d.op ≠ 7) :
    Calls Try.prog 28 #[.slice A l.length c, .int .i64 a, .agg #[.slice d.A d.p.length d.c, .int .i64 d.op, .int .i64 d.n]] w (NodesEnds (dch l a d.op d.n) w) := by
  obtain ⟨DA, dc, p, op, v⟩ := d
  simp only at *
  have hal : a < l.length := (List.getElem?_eq_some_iff.1 hxa).1
  have hB1 : Below w.heap.size w (w.alloc (.cells #[.slice DA p.length dc, .int .i64 op, .int .i64 v] 27)) := (Below.refl _ _).alloc (Nat.le_refl _) _
  obtain ⟨ad, rfl, hbk, g0, g1⟩ := (hx.below hB1) a x hxa
  have hB2 := hB1.alloc hB1.size (.cells #[.int .i64 x.1, .int .i64 x.2] 45)
  have bZ := (Blk.new w 27 #[.slice DA p.length dc, .int .i64 op, .int .i64 v]).alloc (.cells #[.int .i64 x.1, .int .i64 x.2] 45)
  obtain ⟨z0, z1, z2⟩ := bZ.three
  have bY := Blk.new (w.alloc (.cells #[.slice DA p.length dc, .int .i64 op, .int .i64 v] 27)) 45 #[.int .i64 x.1, .int .i64 x.2]
  rw [World.size_alloc] at bY
  obtain ⟨y0, y1⟩ := bY.two
  have HX := Lib.hid hx
  have HZ := Lib.hid bZ
  have HSW := Lib.hid (fun (f t : Nat) (y : Nd) (F T : Int) (hF : F = f) (hT : T = t) (W : World) (hf : f ≤ l.length) (ht : t ≤ l.length) (hW : Below w.heap.size w W) (G : Nat) (hG : G = W.heap.size) =>
    (show Calls Try.prog 57 #[.slice (some ad) l.length c, .int .i64 F, .int .i64 T, .slice (some ⟨G, 0, none⟩) 1 1] (W.alloc (.cells #[.int .i64 y.1, .int .i64 y.2] 45)) (NodesEnds (swap l f t [y]) (W.alloc (.cells #[.int .i64 y.1, .int .i64 y.2] 45))) by
      subst hF hT hG
      exact ref_swap_any (some ad) c l f t (some ⟨W.heap.size, 0, none⟩) 1 [y] _ (HX.out.at (hW.alloc hW.size _)) hl (Nodes.of_blk (Blk.new W _ _) (by simp)) (by simp) hf ht))
  have HEN := Lib.hid (fun q W hW => ref_End_any (some ad) c l q W hW hl)
  have HG := Lib.hid (getD_at hxa)
  have v1 : IntKind.i64.wrap ((a : Int) + 1) = (a : Int) + 1 := IntWalk.i64_in _ (by omega)
  have i0 : (0 : Int) ≤ (a : Int) := by omega
  have i1 : (a : Int) < (l.length : Int) := by omega
  rcases dmay_op hm with rfl | rfl | rfl | rfl | rfl | rfl | rfl
  · have HE := Lib.hid (show dch l a 1 v = swap l a (a + 1) [(v, x.2)] by unfold dch; rw [if_pos (by omega), HG.out])
    clear hx h hxa hm bZ bY
    go_enter Try.func28, Try.ntmps28
    go_wp2_with (go_at_call 57; refine (HSW.out a (a + 1) ((v, x.2)) _ _ (by omega) (by omega) _ (by omega) (by omega) hB2 _ (by simp only [World.size_alloc])).mono ?_; rintro e w4 ⟨hb4, A4, c4, rfl, hc4, hA4, hN4⟩)
    go_ret
    rw [HE.out]
    exact ⟨(hB2.alloc hB2.size _).trans (hb4.mono (hB2.alloc hB2.size _).size), A4, c4, rfl, hc4, hA4, hN4⟩
  · have HE := Lib.hid (show dch l a 2 v = swap l a (a + 1) [(v, x.2)] by unfold dch; rw [if_pos (by omega), HG.out])
    clear hx h hxa hm bZ bY
    go_enter Try.func28, Try.ntmps28
    go_wp2_with (go_at_call 57; refine (HSW.out a (a + 1) ((v, x.2)) _ _ (by omega) (by omega) _ (by omega) (by omega) hB2 _ (by simp only [World.size_alloc])).mono ?_; rintro e w4 ⟨hb4, A4, c4, rfl, hc4, hA4, hN4⟩)
    go_ret
    rw [HE.out]
    exact ⟨(hB2.alloc hB2.size _).trans (hb4.mono (hB2.alloc hB2.size _).size), A4, c4, rfl, hc4, hA4, hN4⟩
  · have HE := Lib.hid (show dch l a 3 v = swap l a (a + 1) [(v, x.2)] by unfold dch; rw [if_pos (by omega), HG.out])
    clear hx h hxa hm bZ bY
    go_enter Try.func28, Try.ntmps28
    go_wp2_with (go_at_call 57; refine (HSW.out a (a + 1) ((v, x.2)) _ _ (by omega) (by omega) _ (by omega) (by omega) hB2 _ (by simp only [World.size_alloc])).mono ?_; rintro e w4 ⟨hb4, A4, c4, rfl, hc4, hA4, hN4⟩)
    go_ret
    rw [HE.out]
    exact ⟨(hB2.alloc hB2.size _).trans (hb4.mono (hB2.alloc hB2.size _).size), A4, c4, rfl, hc4, hA4, hN4⟩
  · have HE := Lib.hid (show dch l a 4 v = swap l a (a + 1) [(x.1, v)] by unfold dch; rw [if_neg (by omega), if_pos rfl, HG.out])
    clear hx h hxa hm bZ bY
    go_enter Try.func28, Try.ntmps28
    go_wp2_with (go_at_call 57; refine (HSW.out a (a + 1) ((x.1, v)) _ _ (by omega) (by omega) _ (by omega) (by omega) hB2 _ (by simp only [World.size_alloc])).mono ?_; rintro e w4 ⟨hb4, A4, c4, rfl, hc4, hA4, hN4⟩)
    go_ret
    rw [HE.out]
    exact ⟨(hB2.alloc hB2.size _).trans (hb4.mono (hB2.alloc hB2.size _).size), A4, c4, rfl, hc4, hA4, hN4⟩
  · have he : aend l a = ((a + n : Nat) : Int) := by rw [aend_some h]; omega
    have hln := scan_le _ _ _ h
    rw [List.length_drop] at hln
    have HE := Lib.hid (show dch l a 5 v = swap l a (a + n) [(26, 0)] by unfold dch; rw [if_neg (by omega), if_neg (by omega), if_pos rfl, he, Int.toNat_natCast])
    have HQ := Lib.hid (fun W hW => (show Calls Try.prog 54 #[.slice (some ad) l.length c, .int .i64 a] W (fun e w' => e = .returned (.int .i64 ((a + n : Nat) : Int)) ∧ Below W.heap.size W w') from he ▸ HEN.out (a : Int) W hW))
    clear hx h hxa hm bZ bY he
    go_enter Try.func28, Try.ntmps28
    go_wp2_with (first
      | (go_at_call 54; refine (HQ.out _ (HX.out.at hB2)).mono ?_; rintro e w3 ⟨rfl, hb3⟩; have hB3 := hB2.trans (hb3.mono hB2.size))
      | (go_at_call 57; refine (HSW.out a (a + n) (26, 0) _ _ (by omega) (by omega) _ (by omega) (by omega) hB3 _ rfl).mono ?_; rintro e w4 ⟨hb4, A4, c4, rfl, hc4, hA4, hN4⟩))
    go_ret
    rw [HE.out]
    exact ⟨(hB3.alloc hB3.size _).trans (hb4.mono (hB3.alloc hB3.size _).size), A4, c4, rfl, hc4, hA4, hN4⟩
  · have HE := Lib.hid (show dch l a 6 v = swap l (a + 1) (a + 1) [(6, 0)] by unfold dch; rw [if_neg (by omega), if_neg (by omega), if_neg (by omega), if_pos rfl])
    clear hx h hxa hm bZ bY
    go_enter Try.func28, Try.ntmps28
    go_wp2_with (go_at_call 57; refine (HSW.out (a + 1) (a + 1) ((6, 0)) _ _ (by omega) (by omega) _ (by omega) (by omega) hB2 _ (by simp only [World.size_alloc])).mono ?_; rintro e w4 ⟨hb4, A4, c4, rfl, hc4, hA4, hN4⟩)
    go_ret
    rw [HE.out]
    exact ⟨(hB2.alloc hB2.size _).trans (hb4.mono (hB2.alloc hB2.size _).size), A4, c4, rfl, hc4, hA4, hN4⟩
  · exact absurd rfl h7

end Go.Proofs.Ythkhonkibigdaaa.Delta
