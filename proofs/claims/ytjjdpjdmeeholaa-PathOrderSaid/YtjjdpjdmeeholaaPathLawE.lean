/-
  The laws of layer 11, walked on what the package's functions come to: a kid's path is its node's, and its number behind it.
-/
import Derived.Test.YtjjdpjdmeeholaaPathLawB
namespace Go.Proofs.Ytjjdpjdmeeholaa.Path
open Go.RowKit Mem _root_.Go.Proofs.Ytjjdpjdmeeholaa.Arena
set_option linter.unusedVariables false
attribute [local go_sem ↓] Go.wp_at_zero Go.wp_at_succ

set_option maxRecDepth 100000 in
set_option maxHeartbeats 4000000 in
theorem pathKids_of (C : Pkg) (A : Option Addr) (c : Nat) (l : List Nd) (ll : l.length ≤ maxLen) (ml : l.length ≤ c) (nl : A = none → c = 0) (b : Int) (wb : (Lit.int .i64 b).wf = true) (n : Int) (wn : (Lit.int .i64 n).wf = true)
    (w : World) (hx : Nodes w w.heap.size A l) :
    Calls Try.prog 7 #[.slice A l.length c, .int .i64 b, .int .i64 n] w fun e w' => e = .returned (.bool true) ∧ Below w.heap.size w w' := by
  have HW := Lib.hid (fun W => Path.works_any C W)
  have HX := Lib.hid (fun W (h : Below w.heap.size w W) => Nodes.at hx h)
  clear hx
  by_cases h1 : 60 < l.length
  · have j1 : (60 : Int) < (l.length : Int) := by omega
    go_enter Try.func7, Try.ntmps7
    go_wp2_with (go_at_call 8; refine (HW.out _).mono ?_; rintro e w2 ⟨rfl, hb2⟩)
    go_ret
    exact ⟨rfl, hb2⟩
  have j1 : ¬ (60 : Int) < (l.length : Int) := by omega
  obtain ⟨q, ok, q1, q2, hql, q3⟩ := path_is l b
  have K1 := Lib.hid (fun W h => (C.of A c l b W h (by omega)).mono (fun e w' h => q3 W e w' h))
  have KK := Lib.hid (fun W h => Arena.Kids_any A c l b W h (by omega))
  have hkl := kids_in_len l b
  by_cases hgo : ok = true ∧ 0 ≤ n ∧ n < (akids l b).length
  rotate_left
  · obtain ⟨ks, hks⟩ : ∃ ks, akids l b = ks := ⟨_, rfl⟩
    rw [hks] at KK hgo hkl
    have hcase : ok = false ∨ (ok = true ∧ n < 0) ∨ (ok = true ∧ ¬ n < 0 ∧ (ks.length : Int) ≤ n) := by
      cases ok with
      | false => exact .inl rfl
      | true =>
        by_cases z : n < 0
        · exact .inr (.inl ⟨rfl, z⟩)
        · exact .inr (.inr ⟨rfl, z, by
            by_cases z2 : (ks.length : Int) ≤ n
            · exact z2
            · exact absurd ⟨rfl, by omega, by omega⟩ hgo⟩)
    clear q1 q2 q3 hgo hks
    rcases hcase with rfl | ⟨rfl, g1⟩ | ⟨rfl, g1, g2⟩
    all_goals
      go_enter Try.func7, Try.ntmps7
      go_wp2_with (go_at_call 8; refine (HW.out _).mono ?_; rintro e w2 ⟨rfl, hB⟩)
      refine (K1.out _ (HX.out _ hB)).mono ?_
      rintro e w4 ⟨hb, A1, c1, rfl, r1, -⟩
      have hB := hB.trans (hb.mono hB.size)
      go_wp2_with fail
      refine (KK.out _ (HX.out _ hB)).mono ?_
      rintro e w5 ⟨hb, A2, c2, rfl, r2, -⟩
      have hB := hB.trans (hb.mono hB.size)
      go_wp2_with fail
      go_ret
      exact ⟨rfl, hB⟩
  obtain ⟨rfl, h0, hn⟩ := hgo
  obtain ⟨j, rfl⟩ := Int.eq_ofNat_of_zero_le h0
  have lq := q1 rfl
  obtain ⟨a, rfl⟩ := Int.eq_ofNat_of_zero_le lq.2.1
  have ra := lq.rng.1
  obtain ⟨m, hm⟩ := lq.1.at (b := a) (by omega)
  obtain ⟨y, my, hy, -⟩ := kid_at hm (j := j) (by omega)
  have ly := leads_kid lq hy (by omega)
  have K2 := Lib.hid (fun W h => (C.of A c l (y : Int) W h (by omega)).mono (fun e w' h => h.ok ly))
  have hly := ly.rng.2
  have K3 := Lib.hid (fun A1 c1 A2 c2 W (h : IRow W W.heap.size A1 (q ++ [(j : Int)])) (h' : IRow W W.heap.size A2 (q ++ [(j : Int)])) => show Calls Try.prog 11 #[.slice A1 (q.length + 1) c1, .slice A2 (q.length + 1) c2] W (fun e w' => e = .returned (.bool true) ∧ Below W.heap.size W w') from (by
    have z := Arena.Ints_any A1 c1 (q ++ [(j : Int)]) A2 c2 (q ++ [(j : Int)]) W h h' (by omega)
    rw [List.length_append, List.length_singleton] at z
    simpa using z))
  obtain ⟨ks, hks⟩ : ∃ ks, akids l (a : Int) = ks := ⟨_, rfl⟩
  rw [hks] at KK hn hkl hy
  have HY := Lib.hid hy
  have i1 : ¬ (j : Int) < 0 := by omega
  have i2 : ¬ (ks.length : Int) ≤ (j : Int) := by omega
  have i3 : (j : Int) < (ks.length : Int) := by omega
  have i4 : (0 : Int) ≤ (j : Int) := by omega
  clear q1 q2 q3 hks hy lq hm ly
  go_enter Try.func7, Try.ntmps7
  go_wp2_with (go_at_call 8; refine (HW.out _).mono ?_; rintro e w2 ⟨rfl, hB⟩)
  refine (K1.out _ (HX.out _ hB)).mono ?_
  rintro e w4 ⟨hb, A1, c1, rfl, r1, m1⟩
  have hB := hB.trans (hb.mono hB.size)
  obtain ⟨m1, n1⟩ := m1 (by first | rfl | trivial)
  go_wp2_with fail
  refine (KK.out _ (HX.out _ hB)).mono ?_
  rintro e w5 ⟨hb, A2, c2, rfl, r2, -⟩
  have hB := hB.trans (hb.mono hB.size)
  have r1 := r1.at hb
  obtain ⟨ad, rfl, -, g0⟩ := r2 j _ HY.out
  go_wp2_with fail
  refine (K2.out _ (HX.out _ hB)).mono ?_
  rintro e w6 ⟨hb, A3, c3, rfl, s1, s2, s3⟩
  have hB := hB.trans (hb.mono hB.size)
  have r1 := r1.at hb
  have hO4 := World.ownsRow_lit (e := 3) (size := 1) (base := w6.heap.size) w6 #[] 0 (Nat.le_refl _) (by simp [maxLen]) (by simp)
  have hB4 : Below w6.heap.size w6 (w6.alloc (.cells #[] 3)) := (Below.refl _ _).alloc (Nat.le_refl _) _
  have r4 := r1.at hB4
  go_wp2_with (first
    | (at_builtin; refine append_ints rfl _ _ rfl w6.heap.size hB4.size _ [] rfl hO4 _ A1 c1 q _ rfl rfl n1 r4 (by simp; omega) ?_; intro v5 w7 hown5 hgr5 hat5
       have hB5 := hB4.grown hgr5 hB4.size (fun i hi => by have := (hO4.lt i hi).1; exact this)
       have hO6 := hown5.alloc (.cells #[.int .i64 j] 3)
       have hB6 := hB5.alloc hB5.size (.cells #[.int .i64 j] 3)
       have hr6 := IRow.of_blk (B := w7.heap.size + 1) (ks := [(j : Int)]) (Blk.new w7 3 #[.int .i64 j]) (Nat.lt_succ_self _))
    | (at_builtin; refine append_ints rfl _ _ rfl w6.heap.size hB6.size _ ([] ++ q) rfl hO6 _ (some ⟨w7.heap.size, 0, none⟩) 1 [(j : Int)] 1 rfl rfl (fun e => by cases e) hr6 (by simp; omega) ?_; intro v7 w8 hown7 hgr7 hat7
       have hB7 := hB6.grown hgr7 hB6.size (fun i hi => (hown5.lt i hi).1)
       obtain ⟨A7, c7, rfl, h7c, h7n, h7r, -⟩ := own_ints2' hown7)
    | (go_at_call 11; refine (K3.out _ _ _ _ _ (s3.at hB7) h7r).mono ?_; rintro e w9 ⟨rfl, hb⟩; have hB9 := hB.trans ((hB7.trans (hb.mono hB7.size)).mono hB.size))
    | fail)
  go_ret
  exact ⟨rfl, hB9⟩

end Go.Proofs.Ytjjdpjdmeeholaa.Path
