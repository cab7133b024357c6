/-
  Package arena, walked: whether nodes may be.
-/
import Derived.Test.YteknfglfbkknaaaArenaPDepth
namespace Go.Proofs.Yteknfglfbkknaaa.Arena
open Go.RowKit Mem

/-- Whether one of them may not be. -/
def bads (xs : List Nd) : Bool := xs.any fun x => decide (ar x < 0)
/-- What is wrong with nodes. -/
def acheck (xs : List Nd) : Int := if xs.length = 0 then 10 else if 200 < xs.length then 4 else if bads xs = true then 11 else if aend xs 0 ≠ xs.length then 12 else if 30 < adep xs 0 then 13 else 0
theorem bads_snoc (xs : List Nd) (k : Nat) (x : Nd) (h : xs[k]? = some x) : bads (xs.take (k + 1)) = (bads (xs.take k) || decide (ar x < 0)) := by
  rw [take_snoc xs k x h]; simp [bads]
theorem bads_at {xs : List Nd} {k : Nat} {x : Nd} (h : xs[k]? = some x) (hx : ar x < 0) : bads xs = true := by
  unfold bads
  rw [List.any_eq_true]
  exact ⟨x, List.mem_of_getElem? h, by simpa using hx⟩

set_option maxRecDepth 100000 in
set_option maxHeartbeats 1000000 in
theorem index_any (A : Option Addr) (cap : Nat) (xs : List Nd) (w : World) (hx : Nodes w w.heap.size A xs) (hl : xs.length ≤ 1000000) :
    Calls Try.prog 58 #[.slice A xs.length cap, .func (.func 50) #[] #[]] w fun e w' => (∃ r : Int, e = .returned (.int .i64 r) ∧ decide (0 ≤ r) = bads xs) ∧ Below w.heap.size w w' := by
  have HX := Lib.hid hx
  have HS := Lib.hid (fun x W => strange_any x W)
  clear hx
  go_enter Try.func58, Try.ntmps58
  go_wp2
  go_loopw [8] (fun i wr => ∃ k : Nat, k ≤ xs.length ∧ i = .int .i64 k ∧ bads (xs.take k) = false ∧ Below w.heap.size w wr) (fun i _ => xs.length - (intOf i).toNat)
  case atStart => exact ⟨0, by omega, rfl, rfl, Below.refl _ _⟩
  case round =>
    obtain ⟨k, hk, rfl, hb0, hB⟩ := hrel
    by_cases hlt : k < xs.length
    · obtain ⟨x, hxk⟩ : ∃ x, xs[k]? = some x := ⟨_, List.getElem?_eq_getElem hlt⟩
      obtain ⟨ad, rfl, hbk, h0', h1'⟩ := (Nodes.below HX.out hB) k x hxk
      have hsn := bads_snoc xs k x hxk
      have j1 : (k : Int) < (xs.length : Int) := by omega
      have j2 : (0 : Int) ≤ (k : Int) := by omega
      have HB0 := Lib.hid hb0
      by_cases hbad : ar x < 0
      · have HT := Lib.hid (bads_at hxk hbad)
        have hs := fun W => HS.out x W
        rw [decide_eq_true hbad] at hs
        have HS2 := Lib.hid hs
        clear hsn hb0 hxk hs hbad
        go_wp2_with (go_at_call 50; refine (HS2.out _).mono ?_; rintro e w2 ⟨rfl, hb2⟩)
        go_ret
        exact ⟨⟨_, rfl, by rw [HT.out]; simp⟩, hB.trans (hb2.mono hB.size)⟩
      · rw [hb0, decide_eq_false hbad] at hsn
        have HSN := Lib.hid hsn
        have hs := fun W => HS.out x W
        rw [decide_eq_false hbad] at hs
        have HS2 := Lib.hid hs
        clear hsn hb0 hxk hs hbad
        go_wp2_with (go_at_call 50; refine (HS2.out _).mono ?_; rintro e w2 ⟨rfl, hb2⟩)
        go_roundw
        case rel => exact ⟨k + 1, by omega, by go_num, HSN.out, hB.trans (hb2.mono hB.size)⟩
        case measure => simp [intOf]; omega
    · have hk9 : k = xs.length := by omega
      subst hk9
      rw [List.take_length] at hb0
      have HB0 := Lib.hid hb0
      have j1 : ¬ (xs.length : Int) < (xs.length : Int) := by omega
      clear hb0
      go_wp2
      go_ret
      exact ⟨⟨_, rfl, by rw [HB0.out]; rfl⟩, hB⟩

set_option maxRecDepth 100000 in
theorem contains_any (A : Option Addr) (cap : Nat) (xs : List Nd) (w : World) (hx : Nodes w w.heap.size A xs) (hl : xs.length ≤ 1000000) :
    Calls Try.prog 49 #[.slice A xs.length cap, .func (.func 50) #[] #[]] w fun e w' => e = .returned (.bool (bads xs)) ∧ Below w.heap.size w w' := by
  have HI := Lib.hid (index_any A cap xs w hx hl)
  clear hx
  go_enter Try.func49, Try.ntmps49
  go_wp2_with (go_at_call 58; refine HI.out.mono ?_; rintro e w1 ⟨⟨r, rfl, hr⟩, hb1⟩)
  go_ret
  exact ⟨by rw [← hr]; rfl, hb1⟩

set_option maxRecDepth 100000 in
set_option maxHeartbeats 1000000 in
theorem Check_any (A : Option Addr) (cap : Nat) (xs : List Nd) (w : World) (hx : Nodes w w.heap.size A xs) (hl : xs.length ≤ 1000000) :
    Calls Try.prog 28 #[.slice A xs.length cap] w fun e w' => e = .returned (.int .i64 (acheck xs)) ∧ Below w.heap.size w w' := by
  have HX := Lib.hid hx
  have HC := Lib.hid (fun W hW => contains_any A cap xs W hW hl)
  have HE := Lib.hid (fun W hW => End_any A cap xs 0 W hW hl)
  have HD := Lib.hid (fun W hW => Depth_any A cap xs 0 W hW hl)
  clear hx
  obtain ⟨c, hc⟩ : ∃ c, acheck xs = c := ⟨_, rfl⟩
  rw [hc]
  by_cases h0 : xs.length = 0
  · have HA := Lib.hid (show c = 10 by rw [← hc]; unfold acheck; rw [if_pos h0])
    have e0 : ((xs.length : Int) == 0) = true := by rw [beq_iff_eq]; omega
    clear hc
    go_enter Try.func28, Try.ntmps28
    go_wp2
    go_ret
    exact ⟨by rw [HA.out]; rfl, Below.refl _ _⟩
  have e0 : ((xs.length : Int) == 0) = false := by rw [beq_eq_false_iff_ne]; omega
  by_cases h1 : 200 < xs.length
  · have HA := Lib.hid (show c = 4 by rw [← hc]; unfold acheck; rw [if_neg h0, if_pos h1])
    have e1 : (200 : Int) < (xs.length : Int) := by omega
    clear hc
    go_enter Try.func28, Try.ntmps28
    go_wp2
    go_ret
    exact ⟨by rw [HA.out]; rfl, Below.refl _ _⟩
  have e1 : ¬ (200 : Int) < (xs.length : Int) := by omega
  by_cases h2 : bads xs = true
  · have HA := Lib.hid (show c = 11 by rw [← hc]; unfold acheck; rw [if_neg h0, if_neg h1, if_pos h2])
    rw [h2] at HC
    clear hc h2
    go_enter Try.func28, Try.ntmps28
    go_wp2_with (go_at_call 49; refine (HC.out _ HX.out).mono ?_; rintro e w1 ⟨rfl, hb1⟩)
    go_ret
    exact ⟨by rw [HA.out]; rfl, hb1⟩
  have h2' : bads xs = false := by simpa using h2
  rw [h2'] at HC
  by_cases h3 : aend xs 0 = xs.length
  · have e3 : ((xs.length : Int) != (xs.length : Int)) = false := by simp
    rw [h3] at HE
    by_cases h4 : 30 < adep xs 0
    · have HA := Lib.hid (show c = 13 by rw [← hc]; unfold acheck; rw [if_neg h0, if_neg h1, if_neg h2, if_neg (by simpa using h3), if_pos h4])
      obtain ⟨d, hd⟩ : ∃ d, adep xs 0 = d := ⟨_, rfl⟩
      rw [hd] at HD h4
      have e4 : (30 : Int) < (d : Int) := by omega
      clear hc h2 h2' h3 hd
      go_enter Try.func28, Try.ntmps28
      go_wp2_with (first
        | (go_at_call 49; refine (HC.out _ HX.out).mono ?_; rintro e w1 ⟨rfl, hb1⟩)
        | (go_at_call 23; refine (HE.out _ (HX.out.at hb1)).mono ?_; rintro e w2 ⟨rfl, hb2⟩)
        | (go_at_call 25; refine (HD.out _ ((HX.out.at hb1).at hb2)).mono ?_; rintro e w3 ⟨rfl, hb3⟩))
      go_ret
      exact ⟨by rw [HA.out]; rfl, below2 (below2 hb1 hb2) hb3⟩
    · have HA := Lib.hid (show c = 0 by rw [← hc]; unfold acheck; rw [if_neg h0, if_neg h1, if_neg h2, if_neg (by simpa using h3), if_neg h4])
      obtain ⟨d, hd⟩ : ∃ d, adep xs 0 = d := ⟨_, rfl⟩
      rw [hd] at HD h4
      have e4 : ¬ (30 : Int) < (d : Int) := by omega
      clear hc h2 h2' h3 hd
      go_enter Try.func28, Try.ntmps28
      go_wp2_with (first
        | (go_at_call 49; refine (HC.out _ HX.out).mono ?_; rintro e w1 ⟨rfl, hb1⟩)
        | (go_at_call 23; refine (HE.out _ (HX.out.at hb1)).mono ?_; rintro e w2 ⟨rfl, hb2⟩)
        | (go_at_call 25; refine (HD.out _ ((HX.out.at hb1).at hb2)).mono ?_; rintro e w3 ⟨rfl, hb3⟩))
      go_ret
      exact ⟨by rw [HA.out]; rfl, below2 (below2 hb1 hb2) hb3⟩
  · have HA := Lib.hid (show c = 12 by rw [← hc]; unfold acheck; rw [if_neg h0, if_neg h1, if_neg h2, if_pos h3])
    obtain ⟨d, hd⟩ : ∃ d, aend xs 0 = d := ⟨_, rfl⟩
    rw [hd] at HE h3
    have e3 : (d != (xs.length : Int)) = true := by simpa using h3
    clear hc h2 h2' hd h3
    go_enter Try.func28, Try.ntmps28
    go_wp2_with (first
      | (go_at_call 49; refine (HC.out _ HX.out).mono ?_; rintro e w1 ⟨rfl, hb1⟩)
      | (go_at_call 23; refine (HE.out _ (HX.out.at hb1)).mono ?_; rintro e w2 ⟨rfl, hb2⟩))
    go_ret
    exact ⟨by rw [HA.out]; rfl, below2 hb1 hb2⟩

end Go.Proofs.Yteknfglfbkknaaa.Arena
