/-
  The laws of layer 8, walked: where one part is replaced, all else stays.
-/
import Derived.Test.YtoloocnpgmpnpaaArenaLawB
namespace Go.Proofs.Ytoloocnpgmpnpaa.Arena
open Go.RowKit Mem
set_option linter.unusedVariables false
attribute [local go_sem ↓] Go.wp_at_zero Go.wp_at_succ

set_option maxRecDepth 100000 in
set_option maxHeartbeats 4000000 in
theorem arenaElse_walk (A : Option Addr) (cap : Nat) (xs : List Nd) (hlen : xs.length ≤ maxLen) (hcap : xs.length ≤ cap) (hA : A = none → cap = 0) (a : Int) (wf : (Lit.int .i64 a).wf = true) (A' : Option Addr) (cap' : Nat) (ys : List Nd) (hlen' : ys.length ≤ maxLen) (hcap' : ys.length ≤ cap') (hA' : A' = none → cap' = 0) (i : Int) (wf' : (Lit.int .i64 i).wf = true) (w : World)
    (hx : Nodes w w.heap.size A xs) (hy : Nodes w w.heap.size A' ys) :
    Calls Try.prog 7 #[.slice A xs.length cap, .int .i64 a, .slice A' ys.length cap', .int .i64 i] w fun e w' => e = .returned (.bool true) ∧ Below w.heap.size w w' := by
  have HW := Lib.hid (fun W => works_any W)
  have HX := Lib.hid hx
  have HY := Lib.hid hy
  clear hx hy
  by_cases h1 : 80 < xs.length
  · have e1 : (80 : Int) < (xs.length : Int) := by omega
    go_enter Try.func7, Try.ntmps7
    go_wp2_with (first
      | (go_at_call 8; refine (HW.out _).mono ?_; rintro e w1 ⟨rfl, hB⟩; have hX := HX.out.at hB; have hY := HY.out.at hB))
    go_ret
    exact ⟨rfl, hB⟩
  have e1 : ¬ (80 : Int) < (xs.length : Int) := by omega
  by_cases h2 : 80 < ys.length
  · have e2 : (80 : Int) < (ys.length : Int) := by omega
    go_enter Try.func7, Try.ntmps7
    go_wp2_with (first
      | (go_at_call 8; refine (HW.out _).mono ?_; rintro e w1 ⟨rfl, hB⟩; have hX := HX.out.at hB; have hY := HY.out.at hB))
    go_ret
    exact ⟨rfl, hB⟩
  have e2 : ¬ (80 : Int) < (ys.length : Int) := by omega
  have hl : xs.length ≤ 1000000 := by omega
  have hl' : ys.length ≤ 1000000 := by omega
  have H6 := Lib.hid (fun W (hW : Nodes W W.heap.size A xs) => End_any A cap xs 0 W hW hl)
  have H7 := Lib.hid (fun W (hW : Nodes W W.heap.size A xs) => End_any A cap xs a W hW hl)
  have H8 := Lib.hid (fun W (hW : Nodes W W.heap.size A' ys) => End_any A' cap' ys 0 W hW hl')
  by_cases h0 : aend xs 0 = xs.length
  rotate_left
  · obtain ⟨E, hE⟩ : ∃ E, aend xs 0 = E := ⟨_, rfl⟩
    rw [hE] at H6 h0
    have e3 : (E != (xs.length : Int)) = true := by simpa using h0
    clear hE h0
    go_enter Try.func7, Try.ntmps7
    go_wp2_with (first
      | (go_at_call 8; refine (HW.out _).mono ?_; rintro e w1 ⟨rfl, hB⟩; have hX := HX.out.at hB; have hY := HY.out.at hB)
      | (go_at_call 22; first
          | ((with_reducible refine (H6.out _ hX).mono ?_); rintro e w2 ⟨rfl, hb⟩; have hX := hX.at hb; have hY := hY.at hb; have hB := below2 hB hb)))
    go_ret
    exact ⟨rfl, hB⟩
  have hwx := whole_of h0
  rw [h0] at H6
  have e0 : ((xs.length : Int) != (xs.length : Int)) = false := by simp
  clear h0
  rcases aend_cases xs a with he | ⟨k, n, rfl, hs, he, hn1, hn2⟩
  · rw [he] at H7
    clear he
    go_enter Try.func7, Try.ntmps7
    go_wp2_with (first
      | (go_at_call 8; refine (HW.out _).mono ?_; rintro e w1 ⟨rfl, hB⟩; have hX := HX.out.at hB; have hY := HY.out.at hB)
      | (go_at_call 22; first
          | ((with_reducible refine (H6.out _ hX).mono ?_); rintro e w2 ⟨rfl, hb⟩; have hX := hX.at hb; have hY := hY.at hb; have hB := below2 hB hb)
          | ((with_reducible refine (H7.out _ hX).mono ?_); rintro e w2 ⟨rfl, hb⟩; have hX := hX.at hb; have hY := hY.at hb; have hB := below2 hB hb)))
    go_ret
    exact ⟨rfl, hB⟩
  rw [he] at H7
  have i3 : ¬ (k : Int) + (n : Int) < 0 := by omega
  clear he
  by_cases h3 : aend ys 0 = ys.length
  rotate_left
  · obtain ⟨E, hE⟩ : ∃ E, aend ys 0 = E := ⟨_, rfl⟩
    rw [hE] at H8 h3
    have e3 : (E != (ys.length : Int)) = true := by simpa using h3
    clear hE h3
    go_enter Try.func7, Try.ntmps7
    go_wp2_with (first
      | (go_at_call 8; refine (HW.out _).mono ?_; rintro e w1 ⟨rfl, hB⟩; have hX := HX.out.at hB; have hY := HY.out.at hB)
      | (go_at_call 22; first
          | ((with_reducible refine (H6.out _ hX).mono ?_); rintro e w2 ⟨rfl, hb⟩; have hX := hX.at hb; have hY := hY.at hb; have hB := below2 hB hb)
          | ((with_reducible refine (H7.out _ hX).mono ?_); rintro e w2 ⟨rfl, hb⟩; have hX := hX.at hb; have hY := hY.at hb; have hB := below2 hB hb)
          | ((with_reducible refine (H8.out _ hY).mono ?_); rintro e w2 ⟨rfl, hb⟩; have hX := hX.at hb; have hY := hY.at hb; have hB := below2 hB hb)))
    go_ret
    exact ⟨rfl, hB⟩
  have hwy := whole_of h3
  rw [h3] at H8
  have e3 : ((ys.length : Int) != (ys.length : Int)) = false := by simp
  obtain ⟨t1, t2⟩ := rep_whole hwx hs hwy
  have telse := fun i => rep_else (m := ys) hs i
  have H2 := Lib.hid (fun W (hW : Nodes W W.heap.size A xs) (hW' : Nodes W W.heap.size A' ys) => Replace_any A cap xs (k : Int) A' cap' ys W hW hA hcap hl hW' hA' hl')
  obtain ⟨R, hR⟩ : ∃ R, arep xs (k : Int) ys = R := ⟨_, rfl⟩
  rw [hR] at t1 t2 H2
  simp only [hR] at telse
  have hRl : R.length ≤ 1000000 := by omega
  have hRe : aend R 0 = R.length := by have := aend_some (l := R) (a := 0) (n := R.length) t1; simpa using this
  have H9 := Lib.hid (fun A1 c1 W (hW : Nodes W W.heap.size A1 R) => hRe ▸ End_any A1 c1 R 0 W hW hRl)
  have e9 : ((R.length : Int) != (R.length : Int)) = false := by simp
  have TE := Lib.hid telse
  have HRL := Lib.hid t2
  clear hs h3 hwx hwy t1 hR hRe telse
  by_cases j0 : i < 0
  · clear t2
    go_enter Try.func7, Try.ntmps7
    go_wp2_with (first
      | (go_at_call 8; refine (HW.out _).mono ?_; rintro e w1 ⟨rfl, hB⟩; have hX := HX.out.at hB; have hY := HY.out.at hB)
      | (go_at_call 22; first
          | ((with_reducible refine (H9.out _ _ _ hN2).mono ?_); rintro e w2 ⟨rfl, hb⟩; have hX := hX.at hb; have hY := hY.at hb; have hB := below2 hB hb; have hN2 := hN2.at hb)
          | ((with_reducible refine (H6.out _ hX).mono ?_); rintro e w2 ⟨rfl, hb⟩; have hX := hX.at hb; have hY := hY.at hb; have hB := below2 hB hb)
          | ((with_reducible refine (H7.out _ hX).mono ?_); rintro e w2 ⟨rfl, hb⟩; have hX := hX.at hb; have hY := hY.at hb; have hB := below2 hB hb; try have hN2 := hN2.at hb)
          | ((with_reducible refine (H8.out _ hY).mono ?_); rintro e w2 ⟨rfl, hb⟩; have hX := hX.at hb; have hY := hY.at hb; have hB := below2 hB hb))
      | (go_at_call 20; (with_reducible refine (H2.out _ hX hY).mono ?_); rintro e w4 ⟨hb, A2, c2, rfl, hc2, hA2, hN2⟩; have hX := hX.at hb; have hY := hY.at hb; have hB := below2 hB hb))
    go_ret
    exact ⟨rfl, hB⟩
  obtain ⟨p, rfl⟩ := Int.eq_ofNat_of_zero_le (show 0 ≤ i by omega)
  by_cases j1 : xs.length ≤ p
  · have j1' : (xs.length : Int) ≤ (p : Int) := by omega
    clear t2
    go_enter Try.func7, Try.ntmps7
    go_wp2_with (first
      | (go_at_call 8; refine (HW.out _).mono ?_; rintro e w1 ⟨rfl, hB⟩; have hX := HX.out.at hB; have hY := HY.out.at hB)
      | (go_at_call 22; first
          | ((with_reducible refine (H9.out _ _ _ hN2).mono ?_); rintro e w2 ⟨rfl, hb⟩; have hX := hX.at hb; have hY := hY.at hb; have hB := below2 hB hb; have hN2 := hN2.at hb)
          | ((with_reducible refine (H6.out _ hX).mono ?_); rintro e w2 ⟨rfl, hb⟩; have hX := hX.at hb; have hY := hY.at hb; have hB := below2 hB hb)
          | ((with_reducible refine (H7.out _ hX).mono ?_); rintro e w2 ⟨rfl, hb⟩; have hX := hX.at hb; have hY := hY.at hb; have hB := below2 hB hb; try have hN2 := hN2.at hb)
          | ((with_reducible refine (H8.out _ hY).mono ?_); rintro e w2 ⟨rfl, hb⟩; have hX := hX.at hb; have hY := hY.at hb; have hB := below2 hB hb))
      | (go_at_call 20; (with_reducible refine (H2.out _ hX hY).mono ?_); rintro e w4 ⟨hb, A2, c2, rfl, hc2, hA2, hN2⟩; have hX := hX.at hb; have hY := hY.at hb; have hB := below2 hB hb))
    go_ret
    exact ⟨rfl, hB⟩
  have j1' : ¬ (xs.length : Int) ≤ (p : Int) := by omega
  have j1'' : (p : Int) < (xs.length : Int) := by omega
  obtain ⟨⟨x1, x2⟩, hxp⟩ : ∃ x, xs[p]? = some x := ⟨_, List.getElem?_eq_getElem (by omega)⟩
  have HXP := Lib.hid hxp
  by_cases j2 : p < k
  · have j2' : ¬ (k : Int) ≤ (p : Int) := by omega
    have j3' : ¬ (k : Int) + (n : Int) ≤ (p : Int) := by omega
    have j4' : (p : Int) < (R.length : Int) := by omega
    have j5' : (0 : Int) ≤ (p : Int) := by omega
    have hrp := (TE.out p).1 j2
    rw [hxp] at hrp
    have HRP := Lib.hid hrp
    clear t2 hxp hrp
    go_enter Try.func7, Try.ntmps7
    go_wp2_with (first
      | (go_at_call 8; refine (HW.out _).mono ?_; rintro e w1 ⟨rfl, hB⟩; have hX := HX.out.at hB; have hY := HY.out.at hB)
      | (go_at_call 22; first
          | ((with_reducible refine (H9.out _ _ _ hN2).mono ?_); rintro e w2 ⟨rfl, hb⟩; have hX := hX.at hb; have hY := hY.at hb; have hB := below2 hB hb; have hN2 := hN2.at hb)
          | ((with_reducible refine (H6.out _ hX).mono ?_); rintro e w2 ⟨rfl, hb⟩; have hX := hX.at hb; have hY := hY.at hb; have hB := below2 hB hb)
          | ((with_reducible refine (H7.out _ hX).mono ?_); rintro e w2 ⟨rfl, hb⟩; have hX := hX.at hb; have hY := hY.at hb; have hB := below2 hB hb; try have hN2 := hN2.at hb)
          | ((with_reducible refine (H8.out _ hY).mono ?_); rintro e w2 ⟨rfl, hb⟩; have hX := hX.at hb; have hY := hY.at hb; have hB := below2 hB hb))
      | (go_at_call 20; (with_reducible refine (H2.out _ hX hY).mono ?_); rintro e w4 ⟨hb, A2, c2, rfl, hc2, hA2, hN2⟩; have hX := hX.at hb; have hY := hY.at hb; have hB := below2 hB hb))
    obtain ⟨ad, q, hbk, g0, g1⟩ := hX p _ HXP.out
    obtain ⟨ad2, q2, hbk2, g2, g3⟩ := hN2 p _ HRP.out
    subst q q2
    simp only at g0 g1 g2 g3
    go_quiet (fail)
    go_wp2
    go_ret
    exact ⟨ret_true (by simp), belowN hB _⟩
  by_cases j3 : p < k + n
  · have j2' : (k : Int) ≤ (p : Int) := by omega
    have j3' : (p : Int) < (k : Int) + (n : Int) := by omega
    clear t2
    go_enter Try.func7, Try.ntmps7
    go_wp2_with (first
      | (go_at_call 8; refine (HW.out _).mono ?_; rintro e w1 ⟨rfl, hB⟩; have hX := HX.out.at hB; have hY := HY.out.at hB)
      | (go_at_call 22; first
          | ((with_reducible refine (H9.out _ _ _ hN2).mono ?_); rintro e w2 ⟨rfl, hb⟩; have hX := hX.at hb; have hY := hY.at hb; have hB := below2 hB hb; have hN2 := hN2.at hb)
          | ((with_reducible refine (H6.out _ hX).mono ?_); rintro e w2 ⟨rfl, hb⟩; have hX := hX.at hb; have hY := hY.at hb; have hB := below2 hB hb)
          | ((with_reducible refine (H7.out _ hX).mono ?_); rintro e w2 ⟨rfl, hb⟩; have hX := hX.at hb; have hY := hY.at hb; have hB := below2 hB hb; try have hN2 := hN2.at hb)
          | ((with_reducible refine (H8.out _ hY).mono ?_); rintro e w2 ⟨rfl, hb⟩; have hX := hX.at hb; have hY := hY.at hb; have hB := below2 hB hb))
      | (go_at_call 20; (with_reducible refine (H2.out _ hX hY).mono ?_); rintro e w4 ⟨hb, A2, c2, rfl, hc2, hA2, hN2⟩; have hX := hX.at hb; have hY := hY.at hb; have hB := below2 hB hb))
    go_ret
    exact ⟨rfl, hB⟩
  have j2' : (k : Int) ≤ (p : Int) := by omega
  have j3' : ¬ (p : Int) < (k : Int) + (n : Int) := by omega
  have j3'' : (k : Int) + (n : Int) ≤ (p : Int) := by omega
  obtain ⟨z, hz⟩ : ∃ z, p - (k + n) + k + ys.length = z := ⟨_, rfl⟩
  have hrp := (TE.out p).2 (by omega)
  rw [hxp, hz] at hrp
  have v1 : IntKind.i64.wrap ((p : Int) - ((k : Int) + (n : Int))) = (p : Int) - ((k : Int) + (n : Int)) := IntWalk.i64_in _ (by omega)
  have v2 : IntKind.i64.wrap ((p : Int) - ((k : Int) + (n : Int)) + (k : Int)) = (p : Int) - ((k : Int) + (n : Int)) + (k : Int) := IntWalk.i64_in _ (by omega)
  have v3 : IntKind.i64.wrap ((p : Int) - ((k : Int) + (n : Int)) + (k : Int) + (ys.length : Int)) = (z : Int) := by rw [IntWalk.i64_in _ (by omega)]; omega
  have j4' : (z : Int) < (R.length : Int) := by have := (List.getElem?_eq_some_iff.1 hrp).1; omega
  have j5' : (0 : Int) ≤ (z : Int) := by omega
  have j6' : (0 : Int) ≤ (p : Int) := by omega
  have HRP := Lib.hid hrp
  clear t2 hxp hrp hz
  go_enter Try.func7, Try.ntmps7
  go_wp2_with (first
    | (go_at_call 8; refine (HW.out _).mono ?_; rintro e w1 ⟨rfl, hB⟩; have hX := HX.out.at hB; have hY := HY.out.at hB)
    | (go_at_call 22; first
        | ((with_reducible refine (H9.out _ _ _ hN2).mono ?_); rintro e w2 ⟨rfl, hb⟩; have hX := hX.at hb; have hY := hY.at hb; have hB := below2 hB hb; have hN2 := hN2.at hb)
        | ((with_reducible refine (H6.out _ hX).mono ?_); rintro e w2 ⟨rfl, hb⟩; have hX := hX.at hb; have hY := hY.at hb; have hB := below2 hB hb)
        | ((with_reducible refine (H7.out _ hX).mono ?_); rintro e w2 ⟨rfl, hb⟩; have hX := hX.at hb; have hY := hY.at hb; have hB := below2 hB hb; try have hN2 := hN2.at hb)
        | ((with_reducible refine (H8.out _ hY).mono ?_); rintro e w2 ⟨rfl, hb⟩; have hX := hX.at hb; have hY := hY.at hb; have hB := below2 hB hb))
    | (go_at_call 20; (with_reducible refine (H2.out _ hX hY).mono ?_); rintro e w4 ⟨hb, A2, c2, rfl, hc2, hA2, hN2⟩; have hX := hX.at hb; have hY := hY.at hb; have hB := below2 hB hb))
  obtain ⟨ad, q, hbk, g0, g1⟩ := hX p _ HXP.out
  obtain ⟨ad2, q2, hbk2, g2, g3⟩ := hN2 z _ HRP.out
  subst q q2
  simp only at g0 g1 g2 g3
  go_quiet (fail)
  go_wp2
  go_ret
  exact ⟨ret_true (by simp), belowN hB _⟩

end Go.Proofs.Ytoloocnpgmpnpaa.Arena
