/-
  The reference of paths, walked: how two stand; the node of a path.
-/
import Derived.Test.YtjjdpjdmeeholaaPathPkg
namespace Go.Proofs.Ytjjdpjdmeeholaa.Path
open Go.RowKit Mem _root_.Go.Proofs.Ytjjdpjdmeeholaa.Arena
set_option linter.unusedVariables false
attribute [local go_sem ↓] Go.wp_at_zero Go.wp_at_succ

theorem cmp_take : ∀ (p q : List Int) (k : Nat), p.take k = q.take k → k ≤ p.length → k ≤ q.length → cmp p q = cmp (p.drop k) (q.drop k)
  | p, q, 0, _, _, _ => by rw [List.drop_zero, List.drop_zero]
  | [], _, k + 1, _, h, _ => absurd h (by simp)
  | _ :: _, [], k + 1, _, _, h => absurd h (by simp)
  | x :: p, y :: q, k + 1, h, h1, h2 => by
    rw [List.take_succ_cons, List.take_succ_cons, List.cons.injEq] at h
    obtain ⟨rfl, h⟩ := h
    rw [List.drop_succ_cons, List.drop_succ_cons, cmp, if_neg (by omega), if_neg (by omega)]
    simp only [List.length_cons] at h1 h2
    exact cmp_take p q k h (by omega) (by omega)
theorem kids_in_len (l : List Nd) (a : Int) : (akids l a).length ≤ 1000000 := by
  unfold akids
  split
  · simp
  · rw [kids_len]
    have := (ar_le (l.getD a.toNat (0, 0))).2
    omega
theorem drop_at {xs : List Int} {k : Nat} {x : Int} (h : xs[k]? = some x) : xs.drop k = x :: xs.drop (k + 1) := by
  obtain ⟨hk, e⟩ := List.getElem?_eq_some_iff.1 h
  rw [List.drop_eq_getElem_cons hk, e]

set_option maxRecDepth 100000 in
set_option maxHeartbeats 2000000 in
theorem ref_Compare_any (A : Option Addr) (c : Nat) (p : List Int) (A' : Option Addr) (c' : Nat) (q : List Int) (w : World) (hx : IRow w w.heap.size A p) (hy : IRow w w.heap.size A' q) (hp : p.length ≤ 1000000) (hq : q.length ≤ 1000000) :
    Calls Try.prog 16 #[.slice A p.length c, .slice A' q.length c'] w fun e w' => e = .returned (.int .i64 (cmp p q)) ∧ Below w.heap.size w w' := by
  have HX := Lib.hid hx
  have HY := Lib.hid hy
  clear hx hy
  go_enter Try.func16, Try.ntmps16
  go_wp2
  go_loopw [5] (fun i wr => ∃ k : Nat, k ≤ p.length ∧ k ≤ q.length ∧ p.take k = q.take k ∧ i = .int .i64 k ∧ Below w.heap.size w wr) (fun i _ => p.length - (intOf i).toNat)
  case atStart => exact ⟨0, by omega, by omega, rfl, rfl, Below.refl _ _⟩
  case round =>
    obtain ⟨k, hk, hk2, hs, rfl, hB⟩ := hrel
    by_cases h1 : k < p.length
    · have i1 : (k : Int) < (p.length : Int) := by omega
      obtain ⟨x, hxk⟩ : ∃ x, p[k]? = some x := ⟨_, List.getElem?_eq_getElem h1⟩
      by_cases h2 : k < q.length
      · have i2 : (k : Int) < (q.length : Int) := by omega
        obtain ⟨y, hyk⟩ : ∃ y, q[k]? = some y := ⟨_, List.getElem?_eq_getElem h2⟩
        obtain ⟨ad, rfl, hb, h0⟩ := (IRow.below HX.out hB) k _ hxk
        obtain ⟨ad', rfl, hb', g0⟩ := (IRow.below HY.out hB) k _ hyk
        have j2 : (0 : Int) ≤ (k : Int) := by omega
        have hc := cmp_take p q k hs hk hk2
        rw [drop_at hxk, drop_at hyk, cmp] at hc
        by_cases hlt : x < y
        · rw [if_pos hlt] at hc
          have HC := Lib.hid hc
          clear hxk hyk hs hc
          go_wp2
          go_quiet (fail)
          go_wp2
          go_ret
          exact ⟨by rw [HC.out]; rfl, belowN hB _⟩
        · by_cases hgt : y < x
          · rw [if_neg hlt, if_pos hgt] at hc
            have HC := Lib.hid hc
            clear hxk hyk hs hc
            go_wp2
            go_quiet (fail)
            go_wp2
            go_quiet (fail)
            go_wp2
            go_ret
            exact ⟨by rw [HC.out]; rfl, belowN (belowN hB _) _⟩
          · obtain rfl : x = y := by omega
            have HS := Lib.hid (show p.take (k + 1) = q.take (k + 1) by rw [List.take_add_one, List.take_add_one, hxk, hyk, hs])
            clear hxk hyk hs hc
            go_wp2
            go_quiet (fail)
            go_wp2
            go_quiet (fail)
            go_wp2
            go_roundw
            case rel => exact ⟨k + 1, by omega, by omega, HS.out, by go_num, belowN hB _⟩
            case measure => simp [intOf]; omega
      · have i2 : ¬ (k : Int) < (q.length : Int) := by omega
        have l1 : ¬ (p.length : Int) < (q.length : Int) := by omega
        have l2 : (q.length : Int) < (p.length : Int) := by omega
        have hc := cmp_take p q k hs hk hk2
        rw [drop_at hxk, List.drop_eq_nil_of_le (by omega : q.length ≤ k), cmp] at hc
        have HC := Lib.hid hc
        clear hxk hs hc
        go_wp2
        go_ret
        exact ⟨by rw [HC.out]; rfl, hB⟩
    · have i1 : ¬ (k : Int) < (p.length : Int) := by omega
      have hc := cmp_take p q k hs hk hk2
      by_cases h2 : k < q.length
      · have l1 : (p.length : Int) < (q.length : Int) := by omega
        obtain ⟨y, hyk⟩ : ∃ y, q[k]? = some y := ⟨_, List.getElem?_eq_getElem h2⟩
        rw [drop_at hyk, List.drop_eq_nil_of_le (by omega : p.length ≤ k), cmp] at hc
        have HC := Lib.hid hc
        clear hyk hs hc
        go_wp2
        go_ret
        exact ⟨by rw [HC.out]; rfl, hB⟩
      · have l1 : ¬ (p.length : Int) < (q.length : Int) := by omega
        have l2 : ¬ (q.length : Int) < (p.length : Int) := by omega
        rw [List.drop_eq_nil_of_le (by omega : q.length ≤ k), List.drop_eq_nil_of_le (by omega : p.length ≤ k), cmp] at hc
        have HC := Lib.hid hc
        clear hs hc
        go_wp2
        go_ret
        exact ⟨by rw [HC.out]; rfl, hB⟩

set_option maxRecDepth 100000 in
set_option maxHeartbeats 2000000 in
theorem ref_Find_any (A : Option Addr) (c : Nat) (l : List Nd) (A' : Option Addr) (c' : Nat) (p : List Int) (w : World) (hx : Nodes w w.heap.size A l) (hl : l.length ≤ 1000000) (hy : IRow w w.heap.size A' p) (hp : p.length ≤ 1000000) :
    Calls Try.prog 13 #[.slice A l.length c, .slice A' p.length c'] w fun e w' => e = .returned (.int .i64 (pfind l p)) ∧ Below w.heap.size w w' := by
  have HX := Lib.hid hx
  have HY := Lib.hid hy
  have HE := Lib.hid (fun b W hW => ref_End_any A c l b W hW hl)
  have HK := Lib.hid (fun b W hW => (ref_Kids_any A c l b W hW hl).mono (fun e w' h => h.ints))
  clear hx hy
  by_cases hw : aend l 0 = l.length
  rotate_left
  · have HR := Lib.hid (show pfind l p = -1 by unfold pfind; rw [if_neg hw])
    have e1 : (aend l 0 == (l.length : Int)) = false := by simpa using hw
    have e2 : (aend l 0 != (l.length : Int)) = true := by simpa using hw
    clear hw
    go_enter Try.func13, Try.ntmps13
    go_wp2_with (go_at_call 20; refine (HE.out 0 _ HX.out).mono ?_; rintro e w1 ⟨rfl, hb1⟩)
    go_ret
    exact ⟨by rw [HR.out]; rfl, hb1⟩
  · have HR := Lib.hid (show pfind l p = down l p 0 by unfold pfind; rw [if_pos hw])
    have HE0 := Lib.hid (HE.out 0 w HX.out)
    rw [hw] at HE0
    clear hw
    go_enter Try.func13, Try.ntmps13
    go_wp2_with (go_at_call 20; refine HE0.out.mono ?_; rintro e w1 ⟨rfl, hb1⟩)
    go_loopw [5, 6] (fun a i wr => ∃ (k : Nat) (b : Int), k ≤ p.length ∧ i = .int .i64 k ∧ a = .int .i64 b ∧ down l p 0 = down l (p.drop k) b ∧ Below w.heap.size w wr) (fun _ i _ => p.length - (intOf i).toNat)
    case atStart => exact ⟨0, 0, by omega, rfl, rfl, by rw [List.drop_zero], hb1⟩
    case round =>
      obtain ⟨k, b, hk, rfl, rfl, hd, hB⟩ := hrel
      by_cases h1 : k < p.length
      · have i1 : (k : Int) < (p.length : Int) := by omega
        obtain ⟨x, hxk⟩ : ∃ x, p[k]? = some x := ⟨_, List.getElem?_eq_getElem h1⟩
        obtain ⟨ad, rfl, hb, h0⟩ := (IRow.below HY.out hB) k _ hxk
        have HROW := Lib.hid (fun W (h : Below w.heap.size w W) => show W.cell? (ad.add k) = some (.int .i64 x) from by
          obtain ⟨ad', e, -, h0⟩ := (IRow.below HY.out h) k _ hxk
          cases e; exact h0)
        have j2 : (0 : Int) ≤ (k : Int) := by omega
        rw [drop_at hxk] at hd
        by_cases hbad : x < 0 ∨ ((akids l b).length : Int) ≤ x
        · rw [down_no hbad] at hd
          have HD := Lib.hid hd
          by_cases hneg : x < 0
          · clear hxk hd hbad
            go_wp2_with (go_at_call 23; refine (HK.out b _ (Nodes.at HX.out hB)).mono ?_; rintro e w3 ⟨hb3, A3, c3, rfl, hr3, hf3⟩; have hB3 := hB.trans (hb3.mono hB.size); have h3 := HROW.out _ hB3)
            go_ret
            exact ⟨by rw [HR.out, HD.out]; rfl, hB3⟩
          · have hge : ((akids l b).length : Int) ≤ x := by omega
            have hlt : ¬ x < ((akids l b).length : Int) := by omega
            clear hxk hd hbad
            go_wp2_with (go_at_call 23; refine (HK.out b _ (Nodes.at HX.out hB)).mono ?_; rintro e w3 ⟨hb3, A3, c3, rfl, hr3, hf3⟩; have hB3 := hB.trans (hb3.mono hB.size); have h3 := HROW.out _ hB3)
            go_ret
            exact ⟨by rw [HR.out, HD.out]; rfl, hB3⟩
        · obtain ⟨j, rfl⟩ := Int.eq_ofNat_of_zero_le (show 0 ≤ x by omega)
          have hj : j < (akids l b).length := by omega
          obtain ⟨y, hyj⟩ : ∃ y, (akids l b)[j]? = some y := ⟨_, List.getElem?_eq_getElem hj⟩
          rw [down_go hyj] at hd
          have HD := Lib.hid hd
          have g1 : ¬ (j : Int) < 0 := by omega
          have g2 : ¬ ((akids l b).length : Int) ≤ (j : Int) := by omega
          have g3 : (j : Int) < ((akids l b).length : Int) := by omega
          have g4 : (0 : Int) ≤ (j : Int) := by omega
          have HYJ := Lib.hid hyj
          clear hxk hd hbad hyj
          go_wp2_with (go_at_call 23; refine (HK.out b _ (Nodes.at HX.out hB)).mono ?_; rintro e w3 ⟨hb3, A3, c3, rfl, hr3, hf3⟩; have hB3 := hB.trans (hb3.mono hB.size); have h3 := HROW.out _ hB3; obtain ⟨a3, rfl, hb3', h4⟩ := hr3 j y HYJ.out)
          go_roundw
          case rel => exact ⟨k + 1, y, by omega, by go_num, rfl, HD.out, hB3⟩
          case measure => simp [intOf]; omega
      · have hk9 : k = p.length := by omega
        subst hk9
        rw [List.drop_length, down_nil] at hd
        have HD := Lib.hid hd
        have i1 : ¬ (p.length : Int) < (p.length : Int) := by omega
        clear hd
        go_wp2
        go_ret
        exact ⟨by rw [HR.out, HD.out]; rfl, hB⟩

end Go.Proofs.Ytjjdpjdmeeholaa.Path
