/-
  The reference of arenas, walked: how deep a node is (by recursion), parts, what is replaced, whether nodes may be.
-/
import Derived.Test.YteknfglfbkknaaaArenaPPart
import Derived.Test.YteknfglfbkknaaaArenaPCheck
namespace Go.Proofs.Yteknfglfbkknaaa.Arena
open Go.RowKit Mem

set_option linter.unusedVariables false
set_option maxRecDepth 100000 in
set_option maxHeartbeats 2000000 in
theorem ref_Depth_fuel (A : Option Addr) (cap : Nat) (xs : List Nd) (hl : xs.length ≤ 1000000) : ∀ (f : Nat) (a : Int) (w : World), (xs.length : Int) - a ≤ f → Nodes w w.heap.size A xs →
    Calls Try.prog 52 #[.slice A xs.length cap, .int .i64 a] w fun e w' => e = .returned (.int .i64 (adep xs a)) ∧ Below w.heap.size w w' := by
  intro f
  induction f with
  | zero =>
    intro a w hf hx
    have HE := Lib.hid (ref_End_any A cap xs a w hx hl)
    have he : aend xs a = -1 := by
      rcases aend_cases xs a with h | ⟨k, n, rfl, -, -, h1, h2⟩
      · exact h
      · omega
    rw [adep_bad (by omega)]
    rw [he] at HE
    clear he
    go_enter Try.func52, Try.ntmps52
    go_wp2_with (go_at_call 40; refine HE.out.mono ?_; rintro e w1 ⟨rfl, hb1⟩)
    go_ret
    exact ⟨rfl, hb1⟩
  | succ f ih =>
    intro a w hf hx
    have HX := Lib.hid hx
    have HE := Lib.hid (fun W hW => ref_End_any A cap xs a W hW hl)
    clear hx
    rcases aend_cases xs a with he | ⟨k, n, rfl, hs, he, hn1, hn2⟩
    · rw [adep_bad (by omega)]
      rw [he] at HE
      clear he
      go_enter Try.func52, Try.ntmps52
      go_wp2_with (go_at_call 40; refine (HE.out _ HX.out).mono ?_; rintro e w1 ⟨rfl, hb1⟩)
      go_ret
      exact ⟨rfl, hb1⟩
    · rw [he] at HE
      have hin := kids_in hs
      have HD := Lib.hid (adep_good hs)
      have HK := Lib.hid (fun W hW => (ref_Kids_any A cap xs (k : Int) W hW hl).mono (fun _ _ h => h.ints))
      have HQ := Lib.hid (fun q (hq : q ∈ akids xs (k : Int)) W hW => ih q W (by have := hin q hq; omega) hW)
      have hdl : ∀ q : Int, adep xs q ≤ 1000000 + 1 := by
        intro q
        rcases aend_cases xs q with h | ⟨k', n', rfl, hs', -, h1, h2⟩
        · rw [adep_bad (by omega)]; omega
        · have := stk_le ((xs.drop k').take n') (adep xs k') (by rw [stk_whole hs']; exact List.mem_singleton.2 rfl)
          rw [List.length_take, List.length_drop] at this
          omega
      have hkl : (akids xs (k : Int)).length ≤ 200 := by
        obtain ⟨x, -, h1, -⟩ := part_kids hs
        have := ar_le x
        omega
      obtain ⟨ks, hks⟩ : ∃ ks, akids xs (k : Int) = ks := ⟨_, rfl⟩
      rw [hks] at HK HQ HD hkl
      have hE2 : ¬ (k : Int) + (n : Int) < 0 := by omega
      clear he hin hs hks ih
      go_enter Try.func52, Try.ntmps52
      go_wp2_with (first
        | (go_at_call 40; refine (HE.out _ HX.out).mono ?_; rintro e w1 ⟨rfl, hb1⟩)
        | (go_at_call 41; refine (HK.out _ (HX.out.at hb1)).mono ?_; rintro e w2 ⟨hb2, A2, c2, rfl, hR2, -⟩))
      have hB2 := below2 hb1 hb2
      have HR := Lib.hid hR2
      clear hb1 hR2
      go_loopw [5, 7] (fun m i wr => ∃ j : Nat, j ≤ ks.length ∧ i = .int .i64 j ∧ m = .int .i64 (most ((ks.take j).map (adep xs)) : Int) ∧ Below w2.heap.size w2 wr) (fun _ i _ => ks.length - (intOf i).toNat)
      case atStart => exact ⟨0, by omega, rfl, rfl, Below.refl _ _⟩
      case round =>
        obtain ⟨j, hj, rfl, rfl, hB⟩ := hrel
        by_cases hlt : j < ks.length
        · obtain ⟨q, hq⟩ : ∃ q, ks[j]? = some q := ⟨_, List.getElem?_eq_getElem hlt⟩
          obtain ⟨ad, rfl, hbk, g0⟩ := (HR.out.below hB) j q hq
          have hD := fun W hW => HQ.out q (List.mem_of_getElem? hq) W hW
          have hm : most ((ks.take (j + 1)).map (adep xs)) = max (most ((ks.take j).map (adep xs))) (adep xs q) := by rw [take_snoc ks j q hq, List.map_append, most_append, List.map_cons, List.map_nil, most_one]
          have HM := Lib.hid hm
          have j1 : (j : Int) < (ks.length : Int) := by omega
          have j2 : (0 : Int) ≤ (j : Int) := by omega
          have hBw := hB2.trans (hB.mono hB2.size)
          have HDD := Lib.hid hD
          clear hm hq hD
          obtain ⟨d, hd⟩ : ∃ d, adep xs q = d := ⟨_, rfl⟩
          rw [hd] at HDD HM
          obtain ⟨m0, hm0⟩ : ∃ m0, most ((ks.take j).map (adep xs)) = m0 := ⟨_, rfl⟩
          rw [hm0] at HM ⊢
          clear hd hm0
          go_wp2_with (first
            | (go_at_call 52; refine (HDD.out _ (HX.out.at hBw)).mono ?_; rintro e w3 ⟨rfl, hb3⟩))
          go_roundw
          case rel => exact ⟨j + 1, by omega, by go_num, by rw [HM.out]; first | rfl | (simp; omega), hB.trans (hb3.mono hB.size)⟩
          case measure => simp [intOf]; omega
        · have hj9 : j = ks.length := by omega
          subst hj9
          rw [List.take_length]
          have hmm : most (ks.map (adep xs)) ≤ 1000000 + 1 := most_le_all (fun y hy => by
            obtain ⟨q, -, rfl⟩ := List.mem_map.1 hy
            exact hdl q)
          have HD2 := Lib.hid HD.out
          obtain ⟨m0, hm0⟩ : ∃ m0, most (ks.map (adep xs)) = m0 := ⟨_, rfl⟩
          rw [hm0] at hmm HD2 ⊢
          have v1 : IntKind.i64.wrap ((m0 : Int) + 1) = (m0 : Int) + 1 := IntWalk.i64_in _ (by omega)
          have j1 : ¬ (ks.length : Int) < (ks.length : Int) := by omega
          clear hm0 hdl
          go_wp2
          go_ret
          exact ⟨by rw [HD2.out]; rfl, hB2.trans (hB.mono hB2.size)⟩

theorem ref_Depth_any (A : Option Addr) (cap : Nat) (xs : List Nd) (a : Int) (w : World) (hx : Nodes w w.heap.size A xs) (hl : xs.length ≤ 1000000) :
    Calls Try.prog 52 #[.slice A xs.length cap, .int .i64 a] w fun e w' => e = .returned (.int .i64 (adep xs a)) ∧ Below w.heap.size w w' :=
  ref_Depth_fuel A cap xs hl ((xs.length : Int) - a).toNat a w (by omega) hx

end Go.Proofs.Yteknfglfbkknaaa.Arena
