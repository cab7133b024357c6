/-
  Package path, walked: the whole; how two paths stand; each kid's number and place, told to a loop's body.
-/
import Derived.Test.YtjjdpjdmeeholaaPathRefO
import Derived.Test.YtjjdpjdmeeholaaRangeO
import Derived.Shelf.Abstract
import Derived.Shelf.RegionOpen
import Derived.OwnWalkIn
import Derived.TacticsInMore
import Derived.LoopNIn
import Derived.LoopIn
import Derived.Laws.EntriesVeiled
namespace Go.Proofs.Ytjjdpjdmeeholaa.Path
open Go.RowKit Go.Shelf Mem _root_.Go.Proofs.Ytjjdpjdmeeholaa.Arena
set_option linter.unusedVariables false
attribute [local go_sem ↓] Go.wp_at_zero Go.wp_at_succ

/-- Kids one by one: how much stands ahead of each. -/
theorem row_scan (l : List Nd) : ∀ (c s n : Nat), scan c (l.drop s) = some n → ∀ j, j < c → ∃ r m : Nat, scan j (l.drop s) = some r ∧ (kidsFrom l c s)[j]? = some ((s + r : Nat) : Int) ∧ T l (s + r) m ∧ scan (j + 1) (l.drop s) = some (r + m) ∧ r + m ≤ n
  | 0, s, n, h, j, hj => absurd hj (by omega)
  | c + 1, s, n, h, j, hj => by
    rw [Nat.add_comm, scan_add] at h
    cases h1 : scan 1 (l.drop s) with
    | none => rw [h1] at h; cases h
    | some n1 =>
      rw [h1] at h
      simp only [Option.bind_some, Option.map_eq_some_iff, List.drop_drop] at h
      obtain ⟨m, h2, rfl⟩ := h
      have ek : aend l (s : Int) = ((s + n1 : Nat) : Int) := T.end h1
      cases j with
      | zero => exact ⟨0, n1, scan_0 _, by rw [kidsFrom]; rfl, h1, by rw [h1, Nat.zero_add], by omega⟩
      | succ j =>
        obtain ⟨r, m', r1, r2, r3, r4, r5⟩ := row_scan l c (s + n1) m h2 j (by omega)
        refine ⟨n1 + r, m', ?_, ?_, by rw [← Nat.add_assoc]; exact r3, ?_, by omega⟩
        · rw [Nat.add_comm j 1, scan_add, h1]
          simp only [Option.bind_some, List.drop_drop, r1, Option.map_some]
        · rw [kidsFrom, ek, List.getElem?_cons_succ, r2, Nat.add_assoc]
        · rw [Nat.add_comm (j + 1) 1, scan_add, h1]
          simp only [Option.bind_some, List.drop_drop, r4, Option.map_some, Nat.add_assoc]
/-- A node's kid. -/
theorem kid_scan {l : List Nd} {a n : Nat} (h : T l a n) : ∃ x c, l[a]? = some x ∧ ar x = ((c : Nat) : Int) ∧ c ≤ 200 ∧ (akids l a).length = c ∧ scan c (l.drop (a + 1)) = some (n - 1) ∧ 1 ≤ n ∧ a + n ≤ l.length ∧
    ∀ j, j < c → ∃ r m : Nat, scan j (l.drop (a + 1)) = some r ∧ (akids l a)[j]? = some ((a + 1 + r : Nat) : Int) ∧ T l (a + 1 + r) m ∧ scan (j + 1) (l.drop (a + 1)) = some (r + m) ∧ r + m ≤ n - 1 := by
  obtain ⟨x, h1, h2, h3, h4, h5, h6⟩ := node_kids h
  have := (ar_le x).2
  refine ⟨x, (ar x).toNat, h1, by omega, by omega, by rw [h3, kids_len], h4, h5, h6, fun j hj => ?_⟩
  rw [h3]
  exact row_scan l _ _ _ h4 j hj

set_option maxRecDepth 100000 in
theorem whole_any (A : Option Addr) (cap : Nat) (l : List Nd) (w : World) (hx : Nodes w w.heap.size A l) (hl : l.length ≤ 1000000) :
    Calls Try.prog 18 #[.slice A l.length cap] w fun e w' => e = .returned (.bool (aend l 0 == (l.length : Int))) ∧ Below w.heap.size w w' := by
  have HE := Lib.hid (End_any A cap l 0 w hx hl)
  clear hx
  generalize aend l 0 = z at *
  go_enter Try.func18, Try.ntmps18
  go_wp2_with (go_at_call 14; refine HE.out.mono ?_; rintro e w1 ⟨rfl, hb1⟩)
  go_ret
  exact ⟨rfl, hb1⟩

set_option maxRecDepth 100000 in
theorem p_nan_any (x : Int) (w : World) : Calls Try.prog 33 #[.int .i64 x] w fun e w' => e = .returned (.bool false) ∧ w' = w := by
  have h : (x != x) = false := by simp
  go_enter Try.func33, Try.ntmps33
  go_wp2
  go_ret
  first | exact ⟨rfl, rfl⟩ | exact ⟨by simp, rfl⟩
set_option maxRecDepth 100000 in
theorem p_cmp_any (x y : Int) (w : World) : Calls Try.prog 31 #[.int .i64 x, .int .i64 y] w fun e w' => e = .returned (.int .i64 (if x < y then -1 else if y < x then 1 else 0)) ∧ w' = w := by
  have HN := Lib.hid (fun z w => p_nan_any z w)
  by_cases h : x < y
  · rw [if_pos h]
    go_enter Try.func31, Try.ntmps31
    go_wp2_with (go_at_call 33; refine (HN.out _ _).mono ?_; rintro e w1 ⟨rfl, rfl⟩)
    go_ret
    exact ⟨rfl, rfl⟩
  · by_cases h2 : y < x
    · rw [if_neg h, if_pos h2]
      go_enter Try.func31, Try.ntmps31
      go_wp2_with (go_at_call 33; refine (HN.out _ _).mono ?_; rintro e w1 ⟨rfl, rfl⟩)
      go_ret
      exact ⟨rfl, rfl⟩
    · rw [if_neg h, if_neg h2]
      go_enter Try.func31, Try.ntmps31
      go_wp2_with (go_at_call 33; refine (HN.out _ _).mono ?_; rintro e w1 ⟨rfl, rfl⟩)
      go_ret
      exact ⟨rfl, rfl⟩

theorem cmp_one (x y : Int) (p q : List Int) : cmp (x :: p) (y :: q) = if (if x < y then (-1 : Int) else if y < x then 1 else 0) ≠ 0 then (if x < y then -1 else if y < x then 1 else 0) else cmp p q := by
  rw [cmp]
  by_cases h : x < y
  · simp [h]
  · by_cases h2 : y < x
    · simp [h, h2]
    · simp [h, h2]

set_option maxRecDepth 100000 in
set_option maxHeartbeats 2000000 in
theorem slices_Compare_any (A : Option Addr) (c : Nat) (p : List Int) (A' : Option Addr) (c' : Nat) (q : List Int) (w : World) (hx : IRow w w.heap.size A p) (hy : IRow w w.heap.size A' q) (hp : p.length ≤ 1000000) (hq : q.length ≤ 1000000) :
    Calls Try.prog 25 #[.slice A p.length c, .slice A' q.length c'] w fun e w' => e = .returned (.int .i64 (cmp p q)) ∧ Below w.heap.size w w' := by
  have HX := Lib.hid hx
  have HY := Lib.hid hy
  have HC := Lib.hid (fun x y w => p_cmp_any x y w)
  clear hx hy
  go_enter Try.func25, Try.ntmps25
  go_wp2
  go_loopw [11] (fun i wr => ∃ k : Nat, k ≤ p.length ∧ k ≤ q.length ∧ p.take k = q.take k ∧ i = .int .i64 k ∧ wr = w) (fun i _ => p.length - (intOf i).toNat)
  case atStart => exact ⟨0, by omega, by omega, rfl, rfl, rfl⟩
  case round =>
    obtain ⟨k, hk, hk2, hs, rfl, rfl⟩ := hrel
    by_cases h1 : k < p.length
    · have i1 : (k : Int) < (p.length : Int) := by omega
      obtain ⟨x, hxk⟩ : ∃ x, p[k]? = some x := ⟨_, List.getElem?_eq_getElem h1⟩
      obtain ⟨ad, rfl, hb, h0⟩ := HX.out k _ hxk
      have j2 : (0 : Int) ≤ (k : Int) := by omega
      by_cases h2 : k < q.length
      · have i2 : ¬ (q.length : Int) ≤ (k : Int) := by omega
        have i3 : (k : Int) < (q.length : Int) := by omega
        obtain ⟨y, hyk⟩ : ∃ y, q[k]? = some y := ⟨_, List.getElem?_eq_getElem h2⟩
        obtain ⟨ad', rfl, hb', g0⟩ := HY.out k _ hyk
        have hc := cmp_take p q k hs hk hk2
        rw [drop_at hxk, drop_at hyk, cmp_one] at hc
        have HXY := Lib.hid (HC.out x y wr)
        obtain ⟨z, hz⟩ : ∃ z : Int, (if x < y then (-1 : Int) else if y < x then 1 else 0) = z := ⟨_, rfl⟩
        rw [hz] at HXY hc
        by_cases hz0 : z = 0
        · have hxy : x = y := by
            by_cases h : x < y
            · rw [if_pos h] at hz; omega
            · by_cases h2 : y < x
              · rw [if_neg h, if_pos h2] at hz; omega
              · omega
          subst hxy
          subst hz0
          have HS := Lib.hid (show p.take (k + 1) = q.take (k + 1) by rw [List.take_add_one, List.take_add_one, hxk, hyk, hs])
          clear hxk hyk hs hc hz HC
          go_wp2_with (go_at_call 31; refine HXY.out.mono ?_; rintro e w1 ⟨rfl, rfl⟩)
          go_roundw
          case rel => exact ⟨k + 1, by omega, by omega, HS.out, by go_num, (by first | rfl | trivial)⟩
          case measure => simp [intOf]; omega
        · rw [if_pos hz0] at hc
          have HR := Lib.hid hc
          have e1 : (z != 0) = true := by simpa using hz0
          clear hxk hyk hs hc hz HC hz0
          go_wp2_with (go_at_call 31; refine HXY.out.mono ?_; rintro e w1 ⟨rfl, rfl⟩)
          go_ret
          exact ⟨by rw [HR.out]; rfl, Below.refl _ _⟩
      · have i2 : (q.length : Int) ≤ (k : Int) := by omega
        have hc := cmp_take p q k hs hk hk2
        rw [drop_at hxk, List.drop_eq_nil_of_le (by omega : q.length ≤ k), cmp] at hc
        have HR := Lib.hid hc
        clear hxk hs hc
        go_wp2
        go_ret
        exact ⟨by rw [HR.out]; rfl, Below.refl _ _⟩
    · have i1 : ¬ (k : Int) < (p.length : Int) := by omega
      have hc := cmp_take p q k hs hk hk2
      by_cases h2 : k < q.length
      · have l1 : (p.length : Int) < (q.length : Int) := by omega
        obtain ⟨y, hyk⟩ : ∃ y, q[k]? = some y := ⟨_, List.getElem?_eq_getElem h2⟩
        rw [drop_at hyk, List.drop_eq_nil_of_le (by omega : p.length ≤ k), cmp] at hc
        have HR := Lib.hid hc
        clear hyk hs hc
        go_wp2
        go_ret
        exact ⟨by rw [HR.out]; rfl, Below.refl _ _⟩
      · have l1 : ¬ (p.length : Int) < (q.length : Int) := by omega
        rw [List.drop_eq_nil_of_le (by omega : q.length ≤ k), List.drop_eq_nil_of_le (by omega : p.length ≤ k), cmp] at hc
        have HR := Lib.hid hc
        clear hs hc
        go_wp2
        go_ret
        exact ⟨by rw [HR.out]; rfl, Below.refl _ _⟩
set_option maxRecDepth 100000 in
theorem Compare_any (A : Option Addr) (c : Nat) (p : List Int) (A' : Option Addr) (c' : Nat) (q : List Int) (w : World) (hx : IRow w w.heap.size A p) (hy : IRow w w.heap.size A' q) (hp : p.length ≤ 1000000) (hq : q.length ≤ 1000000) :
    Calls Try.prog 15 #[.slice A p.length c, .slice A' q.length c'] w fun e w' => e = .returned (.int .i64 (cmp p q)) ∧ Below w.heap.size w w' := by
  have HC := Lib.hid (slices_Compare_any A c p A' c' q w hx hy hp hq)
  clear hx hy
  generalize cmp p q = z at *
  go_enter Try.func15, Try.ntmps15
  go_wp2_with (go_at_call 25; refine HC.out.mono ?_; rintro e w1 ⟨rfl, hb1⟩)
  go_ret
  exact ⟨rfl, hb1⟩

end Go.Proofs.Ytjjdpjdmeeholaa.Path
