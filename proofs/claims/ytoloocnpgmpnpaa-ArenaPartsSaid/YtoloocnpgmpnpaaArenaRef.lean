/-
  The reference of arenas, walked: how deep a node is (by recursion), parts, what is replaced, whether nodes may be.
-/
import Derived.Test.YtoloocnpgmpnpaaArenaPPart
import Derived.Test.YtoloocnpgmpnpaaArenaPCheck
namespace Go.Proofs.Ytoloocnpgmpnpaa.Arena
open Go.RowKit Mem

set_option linter.unusedVariables false
set_option maxRecDepth 100000 in
set_option maxHeartbeats 2000000 in
theorem ref_Depth_fuel (A : Option Addr) (cap : Nat) (xs : List Nd) (hl : xs.length ≤ 1000000) : ∀ (f : Nat) (a : Int) (w : World), (xs.length : Int) - a ≤ f → Nodes w w.heap.size A xs →
    Calls Try.prog 25 #[.slice A xs.length cap, .int .i64 a] w fun e w' => e = .returned (.int .i64 (adep xs a)) ∧ Below w.heap.size w w' := by
  intro f
  induction f with
  | zero =>
    intro a w hf hx
    have HE := Lib.hid (ref_End_any A cap xs a w hx hl)
    have he : aend xs a = -1 := by
      rcases aend_cases xs a with h | ⟨k, n, rfl, -, -, h1, h2⟩
      · exact h
      · omega
    rw [adep_bad (by omega)]
    rw [he] at HE
    clear he
    go_enter Try.func25, Try.ntmps25
    go_wp2_with (go_at_call 23; refine HE.out.mono ?_; rintro e w1 ⟨rfl, hb1⟩)
    go_ret
    exact ⟨rfl, hb1⟩
  | succ f ih =>
    intro a w hf hx
    have HX := Lib.hid hx
    have HE := Lib.hid (fun W hW => ref_End_any A cap xs a W hW hl)
    clear hx
    rcases aend_cases xs a with he | ⟨k, n, rfl, hs, he, hn1, hn2⟩
    · rw [adep_bad (by omega)]
      rw [he] at HE
      clear he
      go_enter Try.func25, Try.ntmps25
      go_wp2_with (go_at_call 23; refine (HE.out _ HX.out).mono ?_; rintro e w1 ⟨rfl, hb1⟩)
      go_ret
      exact ⟨rfl, hb1⟩
    · rw [he] at HE
      have hin := kids_in hs
      have HD := Lib.hid (adep_good hs)
      have HK := Lib.hid (fun W hW => (ref_Kids_any A cap xs (k : Int) W hW hl).mono (fun _ _ h => h.ints))
      have HQ := Lib.hid (fun q (hq : q ∈ akids xs (k : Int)) W hW => ih q W (by have := hin q hq; omega) hW)
      have hdl : ∀ q : Int, adep xs q ≤ 1000000 + 1 := by
        intro q
        rcases aend_cases xs q with h | ⟨k', n', rfl, hs', -, h1, h2⟩
        · rw [adep_bad (by omega)]; omega
        · have := stk_le ((xs.drop k').take n') (adep xs k') (by rw [stk_whole hs']; exact List.mem_singleton.2 rfl)
          rw [List.length_take, List.length_drop] at this
          omega
      have hkl : (akids xs (k : Int)).length ≤ 200 := by
        obtain ⟨x, -, h1, -⟩ := part_kids hs
        have := ar_le x
        omega
      obtain ⟨ks, hks⟩ : ∃ ks, akids xs (k : Int) = ks := ⟨_, rfl⟩
      rw [hks] at HK HQ HD hkl
      have hE2 : ¬ (k : Int) + (n : Int) < 0 := by omega
      clear he hin hs hks ih
      go_enter Try.func25, Try.ntmps25
      go_wp2_with (first
        | (go_at_call 23; refine (HE.out _ HX.out).mono ?_; rintro e w1 ⟨rfl, hb1⟩)
        | (go_at_call 17; refine (HK.out _ (HX.out.at hb1)).mono ?_; rintro e w2 ⟨hb2, A2, c2, rfl, hR2, -⟩))
      have hB2 := below2 hb1 hb2
      have HR := Lib.hid hR2
      clear hb1 hR2
      go_loopw [5, 7] (fun m i wr => ∃ j : Nat, j ≤ ks.length ∧ i = .int .i64 j ∧ m = .int .i64 (most ((ks.take j).map (adep xs)) : Int) ∧ Below w2.heap.size w2 wr) (fun _ i _ => ks.length - (intOf i).toNat)
      case atStart => exact ⟨0, by omega, rfl, rfl, Below.refl _ _⟩
      case round =>
        obtain ⟨j, hj, rfl, rfl, hB⟩ := hrel
        by_cases hlt : j < ks.length
        · obtain ⟨q, hq⟩ : ∃ q, ks[j]? = some q := ⟨_, List.getElem?_eq_getElem hlt⟩
          obtain ⟨ad, rfl, hbk, g0⟩ := (HR.out.below hB) j q hq
          have hD := fun W hW => HQ.out q (List.mem_of_getElem? hq) W hW
          have hm : most ((ks.take (j + 1)).map (adep xs)) = max (most ((ks.take j).map (adep xs))) (adep xs q) := by rw [take_snoc ks j q hq, List.map_append, most_append, List.map_cons, List.map_nil, most_one]
          have HM := Lib.hid hm
          have j1 : (j : Int) < (ks.length : Int) := by omega
          have j2 : (0 : Int) ≤ (j : Int) := by omega
          have hBw := hB2.trans (hB.mono hB2.size)
          have HDD := Lib.hid hD
          clear hm hq hD
          obtain ⟨d, hd⟩ : ∃ d, adep xs q = d := ⟨_, rfl⟩
          rw [hd] at HDD HM
          obtain ⟨m0, hm0⟩ : ∃ m0, most ((ks.take j).map (adep xs)) = m0 := ⟨_, rfl⟩
          rw [hm0] at HM ⊢
          clear hd hm0
          go_wp2_with (first
            | (go_at_call 25; refine (HDD.out _ (HX.out.at hBw)).mono ?_; rintro e w3 ⟨rfl, hb3⟩))
          go_roundw
          case rel => exact ⟨j + 1, by omega, by go_num, by rw [HM.out]; first | rfl | (simp; omega), hB.trans (hb3.mono hB.size)⟩
          case measure => simp [intOf]; omega
        · have hj9 : j = ks.length := by omega
          subst hj9
          rw [List.take_length]
          have hmm : most (ks.map (adep xs)) ≤ 1000000 + 1 := most_le_all (fun y hy => by
            obtain ⟨q, -, rfl⟩ := List.mem_map.1 hy
            exact hdl q)
          have HD2 := Lib.hid HD.out
          obtain ⟨m0, hm0⟩ : ∃ m0, most (ks.map (adep xs)) = m0 := ⟨_, rfl⟩
          rw [hm0] at hmm HD2 ⊢
          have v1 : IntKind.i64.wrap ((m0 : Int) + 1) = (m0 : Int) + 1 := IntWalk.i64_in _ (by omega)
          have j1 : ¬ (ks.length : Int) < (ks.length : Int) := by omega
          clear hm0 hdl
          go_wp2
          go_ret
          exact ⟨by rw [HD2.out]; rfl, hB2.trans (hB.mono hB2.size)⟩

theorem ref_Depth_any (A : Option Addr) (cap : Nat) (xs : List Nd) (a : Int) (w : World) (hx : Nodes w w.heap.size A xs) (hl : xs.length ≤ 1000000) :
    Calls Try.prog 25 #[.slice A xs.length cap, .int .i64 a] w fun e w' => e = .returned (.int .i64 (adep xs a)) ∧ Below w.heap.size w w' :=
  ref_Depth_fuel A cap xs hl ((xs.length : Int) - a).toNat a w (by omega) hx

set_option maxRecDepth 100000 in
set_option maxHeartbeats 1000000 in
theorem ref_Part_any (A : Option Addr) (cap : Nat) (xs : List Nd) (a : Int) (w : World) (hx : Nodes w w.heap.size A xs) (hcap : xs.length ≤ cap) (hl : xs.length ≤ 1000000) :
    Calls Try.prog 19 #[.slice A xs.length cap, .int .i64 a] w (NodesEnds (apart xs a) w) := by
  have HE := Lib.hid (fun W hW => ref_End_any A cap xs a W hW hl)
  have HX := Lib.hid hx
  clear hx
  rcases aend_cases xs a with he | ⟨k, n, rfl, hs, he, hn1, hn2⟩
  · have hp : apart xs a = [] := by unfold apart; rw [if_pos (by omega)]
    rw [hp]
    rw [he] at HE
    clear he hp
    go_enter Try.func19, Try.ntmps19
    go_wp2_with (go_at_call 23; refine (HE.out _ HX.out).mono ?_; rintro e w1 ⟨rfl, hb1⟩)
    go_ret
    exact ⟨hb1, none, 0, rfl, Nat.le_refl _, fun _ => rfl, Nodes.nil _ _ _⟩
  · have hp : apart xs (k : Int) = (xs.drop k).take n := by
      unfold apart
      rw [if_neg (by rw [he]; omega), he, Int.toNat_natCast, show ((k : Int) + n).toNat - k = n by omega]
    rw [hp]
    rw [he] at HE
    have hne : ¬ (k : Int) + (n : Int) < 0 := by omega
    obtain ⟨x, hxk⟩ : ∃ x, xs[k]? = some x := ⟨_, List.getElem?_eq_getElem (by omega)⟩
    obtain ⟨ad, rfl, -⟩ := HX.out k x hxk
    have i1 : (0 : Int) ≤ (k : Int) := by omega
    have i2 : (k : Int) ≤ (k : Int) + (n : Int) := by omega
    have i3 : (k : Int) + (n : Int) ≤ (cap : Int) := by omega
    have hlen : ((xs.drop k).take n).length = n := by rw [List.length_take, List.length_drop]; omega
    have hck : ¬ cap = k := by omega
    clear he hp hxk
    go_enter Try.func19, Try.ntmps19
    go_wp2_with (first
      | (go_at_call 23; refine (HE.out _ HX.out).mono ?_; rintro e w1 ⟨rfl, hb1⟩))
    go_ret
    exact ⟨hb1, some (ad.add (k * 2)), cap - k, by rw [hlen]; first | rfl | simp, by rw [hlen]; omega, (fun e => by cases e), (HX.out.at hb1).part k n⟩

set_option maxRecDepth 100000 in
set_option maxHeartbeats 2000000 in
theorem ref_Replace_any (A : Option Addr) (cap : Nat) (xs : List Nd) (a : Int) (A' : Option Addr) (cap' : Nat) (ms : List Nd) (w : World) (hx : Nodes w w.heap.size A xs) (hA : A = none → cap = 0) (hcap : xs.length ≤ cap) (hl : xs.length ≤ 1000000)
    (hm : Nodes w w.heap.size A' ms) (hA' : A' = none → cap' = 0) (hl' : ms.length ≤ 1000000) :
    Calls Try.prog 21 #[.slice A xs.length cap, .int .i64 a, .slice A' ms.length cap'] w (NodesEnds (arep xs a ms) w) := by
  have HE := Lib.hid (fun W hW => ref_End_any A cap xs a W hW hl)
  have HX := Lib.hid hx
  have HM := Lib.hid hm
  clear hx hm
  rcases aend_cases xs a with he | ⟨k, n, rfl, hs, he, hn1, hn2⟩
  · have hp : arep xs a ms = xs := by unfold arep; rw [if_pos (by omega)]
    rw [hp]
    rw [he] at HE
    clear he hp
    go_enter Try.func21, Try.ntmps21
    go_wp2_with (first
      | (go_at_call 23; refine (HE.out _ HX.out).mono ?_; rintro e w1 ⟨rfl, hb1⟩))
    go_ret
    exact ⟨hb1, A, cap, rfl, hcap, hA, HX.out.at hb1⟩
  · have hp := rep_is hs ms
    rw [hp]
    rw [he] at HE
    obtain ⟨x, hxk⟩ : ∃ x, xs[k]? = some x := ⟨_, List.getElem?_eq_getElem (by omega)⟩
    obtain ⟨ad, rfl, -⟩ := HX.out k x hxk
    obtain ⟨to, hto⟩ : ∃ to, k + n = to := ⟨_, rfl⟩
    have hto2 : (k : Int) + (n : Int) = (to : Int) := by omega
    rw [hto2] at HE
    rw [hto]
    have hne : ¬ (to : Int) < 0 := by omega
    have i1 : (0 : Int) ≤ (k : Int) := by omega
    have i2 : (k : Int) ≤ (cap : Int) := by omega
    have i3 : (0 : Int) ≤ (to : Int) := by omega
    have i4 : (to : Int) ≤ (xs.length : Int) := by omega
    have l1 : (xs.take k).length = k := by rw [List.length_take]; omega
    have l2 : (xs.drop to).length = xs.length - to := by rw [List.length_drop]
    have H0 := Lib.hid (fun (W : World) (hW : w.heap.size ≤ W.heap.size) => World.ownsRow_lit (e := 24) (size := 2) (base := w.heap.size) W #[] 0 hW (by simp [maxLen]) rfl)
    obtain ⟨R1, h1⟩ : ∃ R, [] ++ xs.take k = R := ⟨_, rfl⟩
    obtain ⟨R2, h2⟩ : ∃ R, R1 ++ ms = R := ⟨_, rfl⟩
    obtain ⟨R3, h3⟩ : ∃ R, R2 ++ xs.drop to = R := ⟨_, rfl⟩
    have e1 : R1.length = k := by rw [← h1, List.nil_append, l1]
    have e2 : R2.length = k + ms.length := by rw [← h2, List.length_append, e1]
    have e3 : xs.take k ++ (ms ++ xs.drop to) = R3 := by rw [← h3, ← h2, ← h1]; simp
    rw [e3]
    have L1 := Lib.hid l1
    have L2 := Lib.hid l2
    have R1L := Lib.hid e1
    have R2L := Lib.hid e2
    have E1 := Lib.hid h1
    have E2 := Lib.hid h2
    have E3 := Lib.hid h3
    clear he hp hxk hs hto2 hto l1 l2 h1 h2 h3 e1 e2 e3
    by_cases hct : cap = to
    · subst hct
      rw [show xs.length - cap = 0 by omega] at L2
      have HNL := Lib.hid (show xs.drop cap = [] from List.drop_eq_nil_of_le (by omega))
      go_enter Try.func21, Try.ntmps21
      go_wp2_with (first
        | (go_at_call 23; refine (HE.out _ HX.out).mono ?_; rintro e w1 ⟨rfl, hb1⟩)
        | (at_builtin; refine append_nodes rfl _ _ rfl w.heap.size hB2.size _ R2 rfl hown2 w.heap.size _ _ (xs.drop cap) _ L2.out rfl (by intro e; cases e) (by rw [HNL.out]; exact Nodes.nil _ _ _) (by have := R2L.out; have := L2.out; omega) ?_; intro v3 w3 hown3 hg3 _; rw [E3.out] at hown3; have hB3 := hB2.grown hg3 hB2.size (fun i e => (hown2.lt i e).1); obtain ⟨A3, c3, rfl, hc3, hA3, hN3⟩ := own_nodes hown3)
        | (at_builtin; refine append_nodes rfl _ _ rfl w.heap.size hB1.size _ R1 rfl hown1 w.heap.size A' cap' ms _ rfl rfl hA' (HM.out.below hB1) (by have := R1L.out; omega) ?_; intro v2 w2 hown2 hg2 _; rw [E2.out] at hown2; have hB2 := hB1.grown hg2 hB1.size (fun i e => (hown1.lt i e).1); obtain ⟨A2, c2, rfl, hc2, hA2, hN2⟩ := own_nodes hown2)
        | (at_builtin; refine append_nodes rfl _ _ rfl w.heap.size (hb1.alloc hb1.size _).size _ [] rfl (H0.out _ hb1.size) w.heap.size (some ad) cap (xs.take k) _ L1.out rfl (by intro e; cases e) ((HX.out.below (hb1.alloc hb1.size _)).front k) (by have := L1.out; simp only [List.length_nil]; omega) ?_; intro v1 w2 hown1 hg1 _; rw [E1.out] at hown1; have hB1 := (hb1.alloc hb1.size _).grown hg1 (hb1.alloc hb1.size _).size (fun i e => by cases e; exact hb1.size); obtain ⟨A1, c1, rfl, hc1, hA1, hN1⟩ := own_nodes hown1))
      go_ret
      exact ⟨hB3, A3, c3, rfl, hc3, hA3, hN3⟩
    · go_enter Try.func21, Try.ntmps21
      go_wp2_with (first
        | (go_at_call 23; refine (HE.out _ HX.out).mono ?_; rintro e w1 ⟨rfl, hb1⟩)
        | (at_builtin; refine append_nodes rfl _ _ rfl w.heap.size hB2.size _ R2 rfl hown2 w.heap.size _ _ (xs.drop to) _ L2.out rfl (by intro e; cases e) ((by have := (HX.out.below hB2).back to cap hcap; rwa [if_neg hct] at this)) (by have := R2L.out; have := L2.out; omega) ?_; intro v3 w3 hown3 hg3 _; rw [E3.out] at hown3; have hB3 := hB2.grown hg3 hB2.size (fun i e => (hown2.lt i e).1); obtain ⟨A3, c3, rfl, hc3, hA3, hN3⟩ := own_nodes hown3)
        | (at_builtin; refine append_nodes rfl _ _ rfl w.heap.size hB1.size _ R1 rfl hown1 w.heap.size A' cap' ms _ rfl rfl hA' (HM.out.below hB1) (by have := R1L.out; omega) ?_; intro v2 w2 hown2 hg2 _; rw [E2.out] at hown2; have hB2 := hB1.grown hg2 hB1.size (fun i e => (hown1.lt i e).1); obtain ⟨A2, c2, rfl, hc2, hA2, hN2⟩ := own_nodes hown2)
        | (at_builtin; refine append_nodes rfl _ _ rfl w.heap.size (hb1.alloc hb1.size _).size _ [] rfl (H0.out _ hb1.size) w.heap.size (some ad) cap (xs.take k) _ L1.out rfl (by intro e; cases e) ((HX.out.below (hb1.alloc hb1.size _)).front k) (by have := L1.out; simp only [List.length_nil]; omega) ?_; intro v1 w2 hown1 hg1 _; rw [E1.out] at hown1; have hB1 := (hb1.alloc hb1.size _).grown hg1 (hb1.alloc hb1.size _).size (fun i e => by cases e; exact hb1.size); obtain ⟨A1, c1, rfl, hc1, hA1, hN1⟩ := own_nodes hown1))
      go_ret
      exact ⟨hB3, A3, c3, rfl, hc3, hA3, hN3⟩

end Go.Proofs.Ytoloocnpgmpnpaa.Arena
