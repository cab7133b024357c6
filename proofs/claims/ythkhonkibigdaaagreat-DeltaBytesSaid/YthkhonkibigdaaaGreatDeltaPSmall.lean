/-
  Package delta, walked: its small functions; how two deltas stand.
-/
import Derived.Test.YthkhonkibigdaaaGreatDeltaPkg
import Derived.Test.YthkhonkibigdaaaGreatPathH
import Derived.Deep.RegionHeld3
import Derived.Deep.DrawnRows
namespace Go.Proofs.YthkhonkibigdaaaGreat.Delta
open Go.RowKit Mem _root_.Go.Proofs.YthkhonkibigdaaaGreat.Arena _root_.Go.Proofs.YthkhonkibigdaaaGreat.Kinds _root_.Go.Proofs.YthkhonkibigdaaaGreat.Path
set_option linter.unusedVariables false
attribute [local go_sem ↓] Go.wp_at_zero Go.wp_at_succ

/-- Is a number one of a row of them? -/
def inrow (n a b : Int) : Bool := decide (a ≤ n ∧ n ≤ b)
set_option maxRecDepth 100000 in
theorem within_any (n a b : Int) (w : World) : Calls Tryz.prog 52 #[.int .i64 n, .int .i64 a, .int .i64 b] w fun e w' => e = .returned (.bool (inrow n a b)) ∧ w' = w := by
  by_cases h1 : a ≤ n
  · by_cases h2 : n ≤ b
    · have HE := Lib.hid (show inrow n a b = true from decide_eq_true ⟨h1, h2⟩)
      go_enter Tryz.func52, Tryz.ntmps52
      go_wp2
      go_ret
      exact ⟨by rw [HE.out]; rfl, rfl⟩
    · have HE := Lib.hid (show inrow n a b = false from decide_eq_false (fun h => h2 h.2))
      go_enter Tryz.func52, Tryz.ntmps52
      go_wp2
      go_ret
      exact ⟨by rw [HE.out]; rfl, rfl⟩
  · have HE := Lib.hid (show inrow n a b = false from decide_eq_false (fun h => h1 h.1))
    go_enter Tryz.func52, Tryz.ntmps52
    go_wp2
    go_ret
    exact ⟨by rw [HE.out]; rfl, rfl⟩
set_option maxRecDepth 100000 in
theorem isOperator_any (n : Int) (w : World) : Calls Tryz.prog 22 #[.int .i64 n] w fun e w' => e = .returned (.bool (inrow n 1 7)) ∧ w' = w := by
  have HW := Lib.hid (fun W => within_any n 1 7 W)
  generalize inrow n 1 7 = y at *
  go_enter Tryz.func22, Tryz.ntmps22
  go_wp2_with (go_at_call 52; refine (HW.out _).mono ?_; rintro e w1 ⟨rfl, rfl⟩)
  go_ret
  exact ⟨rfl, rfl⟩
set_option maxRecDepth 100000 in
theorem noKid_any (n : Int) (w : World) : Calls Tryz.prog 21 #[.int .i64 n] w fun e w' => e = .returned (.bool (!inrow n 0 199)) ∧ w' = w := by
  have HW := Lib.hid (fun W => within_any n 0 199 W)
  generalize inrow n 0 199 = y at *
  go_enter Tryz.func21, Tryz.ntmps21
  go_wp2_with (go_at_call 52; refine (HW.out _).mono ?_; rintro e w1 ⟨rfl, rfl⟩)
  go_ret
  exact ⟨rfl, rfl⟩

/-- Is there a number that no path has? -/
def nokids (p : List Int) : Bool := p.any fun x => !inrow x 0 199
theorem nokids_snoc (p : List Int) (k : Nat) (x : Int) (h : p[k]? = some x) : nokids (p.take (k + 1)) = (nokids (p.take k) || !inrow x 0 199) := by
  unfold nokids
  rw [take_snoc p k x h, List.any_append]; simp
theorem nokids_at {p : List Int} {k : Nat} {x : Int} (h : p[k]? = some x) (hx : inrow x 0 199 = false) : nokids p = true := by
  unfold nokids
  rw [List.any_eq_true]
  exact ⟨x, List.mem_of_getElem? h, by simp [hx]⟩

set_option maxRecDepth 100000 in
set_option maxHeartbeats 1000000 in
theorem indexFunc_any (A : Option Addr) (cap : Nat) (p : List Int) (w : World) (hx : IRow w w.heap.size A p) (hl : p.length ≤ 1000000) :
    Calls Tryz.prog 51 #[.slice A p.length cap, .func (.func 21) #[] #[]] w fun e w' => (∃ r : Int, e = .returned (.int .i64 r) ∧ decide (0 ≤ r) = nokids p) ∧ w' = w := by
  have HX := Lib.hid hx
  have HS := Lib.hid (fun x W => noKid_any x W)
  clear hx
  go_enter Tryz.func51, Tryz.ntmps51
  go_wp2
  go_loopw [8] (fun i wr => ∃ k : Nat, k ≤ p.length ∧ i = .int .i64 k ∧ nokids (p.take k) = false ∧ wr = w) (fun i _ => p.length - (intOf i).toNat)
  case atStart => exact ⟨0, by omega, rfl, rfl, rfl⟩
  case round =>
    obtain ⟨k, hk, rfl, hb0, rfl⟩ := hrel
    by_cases hlt : k < p.length
    · obtain ⟨x, hxk⟩ : ∃ x, p[k]? = some x := ⟨_, List.getElem?_eq_getElem hlt⟩
      obtain ⟨ad, rfl, hbk, h0'⟩ := HX.out k x hxk
      have hsn := nokids_snoc p k x hxk
      have j1 : (k : Int) < (p.length : Int) := by omega
      have j2 : (0 : Int) ≤ (k : Int) := by omega
      have hs := fun W => HS.out x W
      cases hbad : inrow x 0 199
      · have HT := Lib.hid (nokids_at hxk hbad)
        rw [hbad] at hs
        have HS2 := Lib.hid hs
        clear hsn hb0 hxk hs hbad
        go_wp2_with (go_at_call 21; refine (HS2.out _).mono ?_; rintro e w2 ⟨rfl, rfl⟩)
        go_ret
        exact ⟨⟨_, rfl, by rw [HT.out]; simp⟩, rfl⟩
      · rw [hb0, hbad] at hsn
        have HSN := Lib.hid hsn
        rw [hbad] at hs
        have HS2 := Lib.hid hs
        clear hsn hb0 hxk hs hbad
        go_wp2_with (go_at_call 21; refine (HS2.out _).mono ?_; rintro e w2 ⟨rfl, rfl⟩)
        go_roundw
        case rel => exact ⟨k + 1, by omega, by go_num, HSN.out, by first | rfl | trivial⟩
        case measure => simp [intOf]; omega
    · have hk9 : k = p.length := by omega
      subst hk9
      rw [List.take_length] at hb0
      have HB0 := Lib.hid hb0
      have j1 : ¬ (p.length : Int) < (p.length : Int) := by omega
      clear hb0
      go_wp2
      go_ret
      exact ⟨⟨_, rfl, by rw [HB0.out]; rfl⟩, rfl⟩
set_option maxRecDepth 100000 in
theorem containsFunc_any (A : Option Addr) (cap : Nat) (p : List Int) (w : World) (hx : IRow w w.heap.size A p) (hl : p.length ≤ 1000000) :
    Calls Tryz.prog 20 #[.slice A p.length cap, .func (.func 21) #[] #[]] w fun e w' => e = .returned (.bool (nokids p)) ∧ w' = w := by
  have HI := Lib.hid (indexFunc_any A cap p w hx hl)
  clear hx
  go_enter Tryz.func20, Tryz.ntmps20
  go_wp2_with (go_at_call 51; refine HI.out.mono ?_; rintro e w1 ⟨⟨r, rfl, hr⟩, rfl⟩)
  go_ret
  exact ⟨by rw [← hr]; rfl, rfl⟩

/-- The first number that is not 0. -/
def orl : List Int → Int
  | [] => 0
  | x :: l => if x = 0 then orl l else x
theorem orl_go {l : List Int} {k : Nat} (h : l[k]? = some 0) : orl (l.drop (k + 1)) = orl (l.drop k) := by
  obtain ⟨hk, e⟩ := List.getElem?_eq_some_iff.1 h
  rw [List.drop_eq_getElem_cons hk, e, orl, if_pos rfl]
theorem orl_end {l : List Int} {k : Nat} {x : Int} (h : l[k]? = some x) (hx : x ≠ 0) : orl (l.drop k) = x := by
  obtain ⟨hk, e⟩ := List.getElem?_eq_some_iff.1 h
  rw [List.drop_eq_getElem_cons hk, e, orl, if_neg hx]
set_option maxRecDepth 100000 in
set_option maxHeartbeats 1000000 in
theorem Or_any (A : Option Addr) (cap : Nat) (l : List Int) (w : World) (hx : IRow w w.heap.size A l) (hl : l.length ≤ 1000000) :
    Calls Tryz.prog 48 #[.slice A l.length cap] w fun e w' => e = .returned (.int .i64 (orl l)) ∧ w' = w := by
  have HX := Lib.hid hx
  clear hx
  go_enter Tryz.func48, Tryz.ntmps48
  go_wp2
  go_loopw [8] (fun i wr => ∃ k : Nat, k ≤ l.length ∧ i = .int .i64 k ∧ orl (l.drop k) = orl l ∧ wr = w) (fun i _ => l.length - (intOf i).toNat)
  case atStart => exact ⟨0, by omega, rfl, rfl, rfl⟩
  case round =>
    obtain ⟨k, hk, rfl, hb0, rfl⟩ := hrel
    by_cases hlt : k < l.length
    · obtain ⟨x, hxk⟩ : ∃ x, l[k]? = some x := ⟨_, List.getElem?_eq_getElem hlt⟩
      obtain ⟨ad, rfl, hbk, h0'⟩ := HX.out k x hxk
      have j1 : (k : Int) < (l.length : Int) := by omega
      have j2 : (0 : Int) ≤ (k : Int) := by omega
      by_cases h0 : x = 0
      · subst h0
        have HS := Lib.hid ((orl_go hxk).trans hb0)
        have e1 : ((0 : Int) != 0) = false := rfl
        clear hb0 hxk
        go_wp2
        go_roundw
        case rel => exact ⟨k + 1, by omega, by go_num, HS.out, by first | rfl | trivial⟩
        case measure => simp [intOf]; omega
      · have HS := Lib.hid (hb0.symm.trans (orl_end hxk h0))
        have e1 : (x != 0) = true := by simpa using h0
        clear hb0 hxk h0
        go_wp2
        go_ret
        exact ⟨by rw [HS.out]; rfl, rfl⟩
    · have hk9 : k = l.length := by omega
      subst hk9
      rw [List.drop_length] at hb0
      have HB0 := Lib.hid hb0.symm
      have j1 : ¬ (l.length : Int) < (l.length : Int) := by omega
      clear hb0
      go_wp2
      go_ret
      exact ⟨by rw [HB0.out]; rfl, rfl⟩

end Go.Proofs.YthkhonkibigdaaaGreat.Delta
