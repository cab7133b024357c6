/-
  The laws of layer 11, walked on what the package's functions come to: each node has a path, and a path leads to one node.
-/
import Derived.Test.YtjjdpjdmeeholaaPathLawB
namespace Go.Proofs.Ytjjdpjdmeeholaa.Path
open Go.RowKit Mem _root_.Go.Proofs.Ytjjdpjdmeeholaa.Arena
set_option linter.unusedVariables false
attribute [local go_sem ↓] Go.wp_at_zero Go.wp_at_succ

theorem down_or (l : List Nd) : ∀ (p : List Int) (a n : Nat), T l a n → down l p a = -1 ∨ 0 ≤ down l p a
  | [], a, n, _ => .inr (by rw [down_nil]; omega)
  | x :: p, a, n, h => by
    by_cases hx : x < 0 ∨ ((akids l a).length : Int) ≤ x
    · exact .inl (down_no hx)
    · obtain ⟨j, rfl⟩ := Int.eq_ofNat_of_zero_le (show 0 ≤ x by omega)
      obtain ⟨q, m, r1, r2, -⟩ := kid_at h (j := j) (by omega)
      rw [down_go r1]
      exact down_or l p q m r2
theorem pfind_or (l : List Nd) (p : List Int) : pfind l p = -1 ∨ Leads l (pfind l p) p := by
  unfold pfind
  by_cases h : aend l 0 = l.length
  · rw [if_pos h]
    rcases down_or l p 0 l.length (Whole.t h) with q | q
    · exact .inl q
    · exact .inr ⟨h, q, rfl⟩
  · rw [if_neg h]; exact .inl rfl
theorem pfind_leads {l : List Nd} {b : Int} {p : List Int} (h : Leads l b p) : pfind l p = b := by
  unfold pfind
  rw [if_pos (show aend l 0 = l.length from h.1)]
  exact h.2.2

set_option maxRecDepth 100000 in
set_option maxHeartbeats 4000000 in
theorem pathBack_of (C : Pkg) (A : Option Addr) (c : Nat) (l : List Nd) (ll : l.length ≤ maxLen) (ml : l.length ≤ c) (nl : A = none → c = 0) (b : Int) (wf : (Lit.int .i64 b).wf = true)
    (A' : Option Addr) (c' : Nat) (p : List Int) (lp : p.length ≤ maxLen) (mp : p.length ≤ c') (np : A' = none → c' = 0)
    (w : World) (hx : Nodes w w.heap.size A l) (hy : IRow w w.heap.size A' p) :
    Calls Try.prog 4 #[.slice A l.length c, .int .i64 b, .slice A' p.length c'] w fun e w' => e = .returned (.bool true) ∧ Below w.heap.size w w' := by
  have HW := Lib.hid (fun W => Path.works_any C W)
  have HX := Lib.hid (fun W (h : Below w.heap.size w W) => Nodes.at hx h)
  have HY := Lib.hid (fun W (h : Below w.heap.size w W) => IRow.at hy h)
  clear hx hy
  by_cases h1 : 60 < l.length
  · have j1 : (60 : Int) < (l.length : Int) := by omega
    go_enter Try.func4, Try.ntmps4
    go_wp2_with (go_at_call 8; refine (HW.out _).mono ?_; rintro e w2 ⟨rfl, hb2⟩)
    go_ret
    exact ⟨rfl, hb2⟩
  have j1 : ¬ (60 : Int) < (l.length : Int) := by omega
  by_cases h2 : 60 < p.length
  · have j2 : (60 : Int) < (p.length : Int) := by omega
    go_enter Try.func4, Try.ntmps4
    go_wp2_with (go_at_call 8; refine (HW.out _).mono ?_; rintro e w2 ⟨rfl, hb2⟩)
    go_ret
    exact ⟨rfl, hb2⟩
  have j2 : ¬ (60 : Int) < (p.length : Int) := by omega
  obtain ⟨q, ok, q1, q2, hql, q3⟩ := path_is l b
  have K1 := Lib.hid (fun W h => (C.of A c l b W h (by omega)).mono (fun e w' h => q3 W e w' h))
  have KE := Lib.hid (fun W h => Arena.End_any A c l 0 W h (by omega))
  have K4 := Lib.hid (fun W h h' => C.find A c l A' c' p W h (by omega) h' (by omega) mp np)
  have hpf := pfind_or l p
  by_cases hw : Whole l
  rotate_left
  · have hok : ok = false := by
      cases ok with
      | false => rfl
      | true => exact absurd (q1 rfl).1 hw
    have ht : pfind l p = -1 := by unfold pfind; rw [if_neg (show ¬ aend l 0 = l.length from hw)]
    have e1 : (aend l 0 == (l.length : Int)) = false := by rw [beq_eq_false_iff_ne]; exact hw
    have e2 : (aend l 0 != (l.length : Int)) = true := by simp [bne, e1]
    subst hok
    rw [ht] at K4
    clear q1 q2 q3 h1 h2 hw hpf ht
    go_enter Try.func4, Try.ntmps4
    go_wp2_with (first
      | (go_at_call 8; refine (HW.out _).mono ?_; rintro e w2 ⟨rfl, hB⟩)
      | (go_at_call 14; refine (KE.out _ (HX.out _ hB)).mono ?_; rintro e w3 ⟨rfl, hb⟩; have hB := hB.trans (hb.mono hB.size))
      | fail)
    refine (K1.out _ (HX.out _ hB)).mono ?_
    rintro e w4 ⟨hb, A1, c1, rfl, r1, -⟩
    have hB := hB.trans (hb.mono hB.size)
    go_wp2_with (go_at_call 12; refine (K4.out _ (HX.out _ hB) (HY.out _ hB)).mono ?_; rintro e w6 ⟨rfl, hb⟩; have hB := hB.trans (hb.mono hB.size))
    go_ret
    exact ⟨rfl, hB⟩
  have hwe : aend l 0 = l.length := hw
  rw [hwe] at KE
  have hcase : (ok = true ∧ 0 ≤ b ∧ b < l.length ∧ pfind l q = b) ∨ (ok = false ∧ b < 0) ∨ (ok = false ∧ ¬ b < 0 ∧ (l.length : Int) ≤ b) := by
    cases ok with
    | true =>
      have := q1 rfl
      exact .inl ⟨rfl, this.2.1, this.rng.1, pfind_leads this⟩
    | false =>
      by_cases hn : b < 0
      · exact .inr (.inl ⟨rfl, hn⟩)
      · by_cases hg : (l.length : Int) ≤ b
        · exact .inr (.inr ⟨rfl, hn, hg⟩)
        · exact absurd (leads_ex hw (by omega) (by omega)) (q2 rfl)
  have K6 := Lib.hid (fun t (ht : Leads l t p) W h => (C.of A c l t W h (by omega)).mono (fun e w' h => h.ok ht))
  have K7 := Lib.hid (fun A1 c1 W (h : IRow W W.heap.size A1 p) (h' : IRow W W.heap.size A' p) => show Calls Try.prog 11 #[.slice A1 p.length c1, .slice A' p.length c'] W (fun e w' => e = .returned (.bool true) ∧ Below W.heap.size W w') from (by
    have z := Arena.Ints_any A1 c1 p A' c' p W h h' (by omega)
    simpa using z))
  have KF := Lib.hid (fun A1 c1 W h h' h2 h3 => C.find A c l A1 c1 q W h (by omega) h' (by omega) h2 h3)
  clear q1 q2 q3 h1 h2 hw hwe
  -- behind the node's path: the path that was given
  generalize pfind l p = t at *
  generalize pfind l q = t2 at *
  rcases hpf with ht | ht
  · subst ht
    rcases hcase with ⟨rfl, g1, g2, rfl⟩ | ⟨rfl, g1⟩ | ⟨rfl, g1, g2⟩
    · have g3 : ¬ t2 < 0 := by omega
      go_enter Try.func4, Try.ntmps4
      go_wp2_with (first
        | (go_at_call 8; refine (HW.out _).mono ?_; rintro e w2 ⟨rfl, hB⟩)
        | (go_at_call 14; refine (KE.out _ (HX.out _ hB)).mono ?_; rintro e w3 ⟨rfl, hb⟩; have hB := hB.trans (hb.mono hB.size))
        | fail)
      refine (K1.out _ (HX.out _ hB)).mono ?_
      rintro e w4 ⟨hb, A1, c1, rfl, r1, r2⟩
      have hB := hB.trans (hb.mono hB.size)
      obtain ⟨r2, r3⟩ := r2 (by first | rfl | trivial)
      go_wp2_with fail
      refine (KF.out _ _ _ (HX.out _ hB) r1 r2 r3).mono ?_
      rintro e w5 ⟨rfl, hb⟩
      have hB := hB.trans (hb.mono hB.size)
      go_wp2_with (go_at_call 12; refine (K4.out _ (HX.out _ hB) (HY.out _ hB)).mono ?_; rintro e w6 ⟨rfl, hb⟩; have hB := hB.trans (hb.mono hB.size))
      go_ret
      exact ⟨rfl, hB⟩
    all_goals
      go_enter Try.func4, Try.ntmps4
      go_wp2_with (first
        | (go_at_call 8; refine (HW.out _).mono ?_; rintro e w2 ⟨rfl, hB⟩)
        | (go_at_call 14; refine (KE.out _ (HX.out _ hB)).mono ?_; rintro e w3 ⟨rfl, hb⟩; have hB := hB.trans (hb.mono hB.size))
        | fail)
      refine (K1.out _ (HX.out _ hB)).mono ?_
      rintro e w4 ⟨hb, A1, c1, rfl, r1, -⟩
      have hB := hB.trans (hb.mono hB.size)
      go_wp2_with (go_at_call 12; refine (K4.out _ (HX.out _ hB) (HY.out _ hB)).mono ?_; rintro e w6 ⟨rfl, hb⟩; have hB := hB.trans (hb.mono hB.size))
      go_ret
      exact ⟨rfl, hB⟩
  · have f0 := ht.2.1
    have f1 : ¬ t < 0 := by omega
    have K8 := Lib.hid (K6.out t ht)
    clear ht
    rcases hcase with ⟨rfl, g1, g2, rfl⟩ | ⟨rfl, g1⟩ | ⟨rfl, g1, g2⟩
    · have g3 : ¬ t2 < 0 := by omega
      go_enter Try.func4, Try.ntmps4
      go_wp2_with (first
        | (go_at_call 8; refine (HW.out _).mono ?_; rintro e w2 ⟨rfl, hB⟩)
        | (go_at_call 14; refine (KE.out _ (HX.out _ hB)).mono ?_; rintro e w3 ⟨rfl, hb⟩; have hB := hB.trans (hb.mono hB.size))
        | fail)
      refine (K1.out _ (HX.out _ hB)).mono ?_
      rintro e w4 ⟨hb, A1, c1, rfl, r1, r2⟩
      have hB := hB.trans (hb.mono hB.size)
      obtain ⟨r2, r3⟩ := r2 (by first | rfl | trivial)
      go_wp2_with fail
      refine (KF.out _ _ _ (HX.out _ hB) r1 r2 r3).mono ?_
      rintro e w5 ⟨rfl, hb⟩
      have hB := hB.trans (hb.mono hB.size)
      go_wp2_with (go_at_call 12; refine (K4.out _ (HX.out _ hB) (HY.out _ hB)).mono ?_; rintro e w6 ⟨rfl, hb⟩; have hB := hB.trans (hb.mono hB.size))
      refine (K8.out _ (HX.out _ hB)).mono ?_
      rintro e w7 ⟨hb, A2, c2, rfl, s1, s2, s3⟩
      have hB := hB.trans (hb.mono hB.size)
      go_wp2_with (go_at_call 11; refine (K7.out _ _ _ s3 (HY.out _ hB)).mono ?_; rintro e w8 ⟨rfl, hb⟩; have hB := hB.trans (hb.mono hB.size))
      go_ret
      exact ⟨rfl, hB⟩
    all_goals
      go_enter Try.func4, Try.ntmps4
      go_wp2_with (first
        | (go_at_call 8; refine (HW.out _).mono ?_; rintro e w2 ⟨rfl, hB⟩)
        | (go_at_call 14; refine (KE.out _ (HX.out _ hB)).mono ?_; rintro e w3 ⟨rfl, hb⟩; have hB := hB.trans (hb.mono hB.size))
        | fail)
      refine (K1.out _ (HX.out _ hB)).mono ?_
      rintro e w4 ⟨hb, A1, c1, rfl, r1, -⟩
      have hB := hB.trans (hb.mono hB.size)
      go_wp2_with (go_at_call 12; refine (K4.out _ (HX.out _ hB) (HY.out _ hB)).mono ?_; rintro e w6 ⟨rfl, hb⟩; have hB := hB.trans (hb.mono hB.size))
      refine (K8.out _ (HX.out _ hB)).mono ?_
      rintro e w7 ⟨hb, A2, c2, rfl, s1, s2, s3⟩
      have hB := hB.trans (hb.mono hB.size)
      go_wp2_with (go_at_call 11; refine (K7.out _ _ _ s3 (HY.out _ hB)).mono ?_; rintro e w8 ⟨rfl, hb⟩; have hB := hB.trans (hb.mono hB.size))
      go_ret
      exact ⟨rfl, hB⟩

end Go.Proofs.Ytjjdpjdmeeholaa.Path
