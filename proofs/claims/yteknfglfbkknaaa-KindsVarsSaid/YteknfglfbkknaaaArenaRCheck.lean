/-
  The reference of arenas, walked: whether nodes may be.
-/
import Derived.Test.YteknfglfbkknaaaArenaRef
namespace Go.Proofs.Yteknfglfbkknaaa.Arena
open Go.RowKit Mem
set_option linter.unusedVariables false

set_option maxRecDepth 100000 in
set_option maxHeartbeats 2000000 in
theorem ref_Check_any (A : Option Addr) (cap : Nat) (xs : List Nd) (w : World) (hx : Nodes w w.heap.size A xs) (hl : xs.length ≤ 1000000) :
    Calls Try.prog 30 #[.slice A xs.length cap] w fun e w' => e = .returned (.int .i64 (acheck xs)) ∧ Below w.heap.size w w' := by
  have HX := Lib.hid hx
  have HA := Lib.hid (fun (x : Nd) W => ref_Arity_any x.1 x.2 W)
  have HE := Lib.hid (fun W hW => ref_End_any A cap xs 0 W hW hl)
  have HD := Lib.hid (fun W hW => ref_Depth_any A cap xs 0 W hW hl)
  clear hx
  obtain ⟨c, hc⟩ : ∃ c, acheck xs = c := ⟨_, rfl⟩
  rw [hc]
  by_cases h0 : xs.length = 0
  · have HC := Lib.hid (show c = 10 by rw [← hc]; unfold acheck; rw [if_pos h0])
    have e0 : ((xs.length : Int) == 0) = true := by rw [beq_iff_eq]; omega
    clear hc
    go_enter Try.func30, Try.ntmps30
    go_wp2
    go_ret
    exact ⟨by rw [HC.out]; rfl, Below.refl _ _⟩
  have e0 : ((xs.length : Int) == 0) = false := by rw [beq_eq_false_iff_ne]; omega
  by_cases h1 : 200 < xs.length
  · have HC := Lib.hid (show c = 4 by rw [← hc]; unfold acheck; rw [if_neg h0, if_pos h1])
    have e1 : (200 : Int) < (xs.length : Int) := by omega
    clear hc
    go_enter Try.func30, Try.ntmps30
    go_wp2
    go_ret
    exact ⟨by rw [HC.out]; rfl, Below.refl _ _⟩
  have e1 : ¬ (200 : Int) < (xs.length : Int) := by omega
  have H0 := Lib.hid h0
  have H1 := Lib.hid h1
  have HC := Lib.hid hc
  clear h0 h1 hc
  go_enter Try.func30, Try.ntmps30
  go_wp2
  go_loopw [3] (fun i wr => ∃ k : Nat, k ≤ xs.length ∧ i = .int .i64 k ∧ bads (xs.take k) = false ∧ Below w.heap.size w wr) (fun i _ => xs.length - (intOf i).toNat)
  case atStart => exact ⟨0, by omega, rfl, rfl, Below.refl _ _⟩
  case round =>
    obtain ⟨k, hk, rfl, hb0, hB⟩ := hrel
    by_cases hlt : k < xs.length
    · obtain ⟨x, hxk⟩ : ∃ x, xs[k]? = some x := ⟨_, List.getElem?_eq_getElem hlt⟩
      obtain ⟨ad, rfl, hbk, h0', h1'⟩ := (Nodes.below HX.out hB) k x hxk
      have hsn := bads_snoc xs k x hxk
      have j1 : (k : Int) < (xs.length : Int) := by omega
      have j2 : (0 : Int) ≤ (k : Int) := by omega
      have HA2 := Lib.hid (HA.out x)
      by_cases hbad : ar x < 0
      · have HT := Lib.hid (bads_at hxk hbad)
        obtain ⟨r, hr⟩ : ∃ r, ar (x.1, x.2) = r := ⟨_, rfl⟩
        have hr0 : r < 0 := by rw [← hr]; exact hbad
        rw [hr] at HA2
        have HE11 := Lib.hid (show c = 11 by rw [← HC.out]; unfold acheck; rw [if_neg H0.out, if_neg H1.out, if_pos HT.out])
        clear hsn hb0 hxk hbad hr
        go_wp2_with (go_at_call 51; refine (HA2.out _).mono ?_; rintro e w2 ⟨rfl, hb2⟩)
        go_ret
        exact ⟨by rw [HE11.out]; rfl, hB.trans (hb2.mono hB.size)⟩
      · rw [hb0, decide_eq_false hbad] at hsn
        have HSN := Lib.hid hsn
        obtain ⟨r, hr⟩ : ∃ r, ar (x.1, x.2) = r := ⟨_, rfl⟩
        have hr0 : ¬ r < 0 := by rw [← hr]; exact hbad
        rw [hr] at HA2
        clear hsn hb0 hxk hbad hr
        go_wp2_with (go_at_call 51; refine (HA2.out _).mono ?_; rintro e w2 ⟨rfl, hb2⟩)
        go_roundw
        case rel => exact ⟨k + 1, by omega, by go_num, HSN.out, hB.trans (hb2.mono hB.size)⟩
        case measure => simp [intOf]; omega
    · have hk9 : k = xs.length := by omega
      subst hk9
      rw [List.take_length] at hb0
      have j1 : ¬ (xs.length : Int) < (xs.length : Int) := by omega
      have h2 : ¬ bads xs = true := by rw [hb0]; simp
      have H2 := Lib.hid h2
      clear hb0 h2
      by_cases h3 : aend xs 0 = xs.length
      · have e3 : ((xs.length : Int) != (xs.length : Int)) = false := by simp
        rw [h3] at HE
        have H3 := Lib.hid h3
        clear h3
        by_cases h4 : 30 < adep xs 0
        · have HA := Lib.hid (show c = 13 by rw [← HC.out]; unfold acheck; rw [if_neg H0.out, if_neg H1.out, if_neg H2.out, if_neg (by simpa using H3.out), if_pos h4])
          obtain ⟨d, hd⟩ : ∃ d, adep xs 0 = d := ⟨_, rfl⟩
          rw [hd] at HD h4
          have e4 : (30 : Int) < (d : Int) := by omega
          clear hd
          go_wp2_with (first
            | (go_at_call 40; refine (HE.out _ (HX.out.at hB)).mono ?_; rintro e w2 ⟨rfl, hb2⟩)
            | (go_at_call 52; refine (HD.out _ ((HX.out.at hB).at hb2)).mono ?_; rintro e w3 ⟨rfl, hb3⟩))
          go_ret
          exact ⟨by rw [HA.out]; rfl, below2 (below2 hB hb2) hb3⟩
        · have HA := Lib.hid (show c = 0 by rw [← HC.out]; unfold acheck; rw [if_neg H0.out, if_neg H1.out, if_neg H2.out, if_neg (by simpa using H3.out), if_neg h4])
          obtain ⟨d, hd⟩ : ∃ d, adep xs 0 = d := ⟨_, rfl⟩
          rw [hd] at HD h4
          have e4 : ¬ (30 : Int) < (d : Int) := by omega
          clear hd
          go_wp2_with (first
            | (go_at_call 40; refine (HE.out _ (HX.out.at hB)).mono ?_; rintro e w2 ⟨rfl, hb2⟩)
            | (go_at_call 52; refine (HD.out _ ((HX.out.at hB).at hb2)).mono ?_; rintro e w3 ⟨rfl, hb3⟩))
          go_ret
          exact ⟨by rw [HA.out]; rfl, below2 (below2 hB hb2) hb3⟩
      · have HA := Lib.hid (show c = 12 by rw [← HC.out]; unfold acheck; rw [if_neg H0.out, if_neg H1.out, if_neg H2.out, if_pos h3])
        obtain ⟨d, hd⟩ : ∃ d, aend xs 0 = d := ⟨_, rfl⟩
        rw [hd] at HE h3
        have e3 : (d != (xs.length : Int)) = true := by simpa using h3
        clear hd h3
        go_wp2_with (first
          | (go_at_call 40; refine (HE.out _ (HX.out.at hB)).mono ?_; rintro e w2 ⟨rfl, hb2⟩))
        go_ret
        exact ⟨by rw [HA.out]; rfl, below2 hB hb2⟩

end Go.Proofs.Yteknfglfbkknaaa.Arena
