/-
  The reference of tests, walked: are tests few, are two lists alike, may they be.
-/
import Derived.Test.YtlecofghifjmcaaSuiteRow
import Derived.Deep.RegionHeld3
import Derived.Deep.DrawnRows
set_option linter.unusedVariables false
namespace Go.Proofs.Ytlecofghifjmcaa.Suite
open Go.RowKit Mem _root_.Go.Proofs.Ytlecofghifjmcaa.Arena _root_.Go.Proofs.Ytlecofghifjmcaa.Delta _root_.Go.Proofs.Ytlecofghifjmcaa.Path _root_.Go.Proofs.Ytlecofghifjmcaa.Cat
attribute [local go_sem ↓] Go.wp_at_zero Go.wp_at_succ

def fewT (ts : List (List Int)) : Bool := decide (ts.length ≤ 40) && ts.all fun t => decide (t.length ≤ 40)
theorem fewT_len {ts : List (List Int)} (h : fewT ts = true) : ts.length ≤ 40 ∧ ∀ t ∈ ts, t.length ≤ 40 := by
  unfold fewT at h
  rw [Bool.and_eq_true, List.all_eq_true] at h
  simp only [decide_eq_true_eq] at h
  exact h

set_option maxRecDepth 100000 in
set_option maxHeartbeats 1000000 in
theorem ref_Few_any (A : Option Addr) (c : Nat) (ts : List (List Int)) (w : World) (h : TRow w A ts) :
    Calls Try.prog 8 #[.slice A ts.length c] w fun e w' => e = .returned (.bool (fewT ts)) ∧ w' = w := by
  by_cases h3 : 40 < ts.length
  · have j1 : (40 : Int) < (ts.length : Int) := by omega
    have HE := Lib.hid (show fewT ts = false by unfold fewT; rw [decide_eq_false (by omega)]; rfl)
    clear h3
    go_enter Try.func8, Try.ntmps8
    go_wp2_with fail
    go_ret
    exact ⟨by rw [HE.out]; first | done | rfl, rfl⟩
  · have j1 : ¬ (40 : Int) < (ts.length : Int) := by omega
    have HL := Lib.hid h
    clear h
    go_enter Try.func8, Try.ntmps8
    go_wp2_with fail
    go_loopw [3] (fun i wr => ∃ j : Nat, j ≤ ts.length ∧ i = .int .i64 j ∧ (∀ m ∈ ts.take j, m.length ≤ 40) ∧ wr = w) (fun i _ => ts.length - (intOf i).toNat)
    case atStart => exact ⟨0, by omega, rfl, by simp, rfl⟩
    case round =>
      obtain ⟨j, hj, rfl, ht, rfl⟩ := hrel
      by_cases hlt : j < ts.length
      · obtain ⟨m, hm⟩ : ∃ m, ts[j]? = some m := ⟨_, List.getElem?_eq_getElem hlt⟩
        obtain ⟨ad, P, cp, rfl, -, -, k1⟩ := HL.out j m hm
        have i1 : (j : Int) < (ts.length : Int) := by omega
        have i2 : (0 : Int) ≤ (j : Int) := by omega
        have i5 : IntKind.i64.wrap ((j : Int) + 1) = (j : Int) + 1 := IntWalk.i64_in _ (by omega)
        by_cases h60 : 40 < m.length
        · have e1 : (40 : Int) < (m.length : Int) := by omega
          have HE := Lib.hid (show fewT ts = false by
            unfold fewT
            rw [Bool.and_eq_false_iff]
            right
            rw [List.all_eq_false]
            exact ⟨m, List.mem_of_getElem? hm, by simpa using h60⟩)
          clear hm h60 ht
          go_wp2_with fail
          go_ret
          exact ⟨by rw [HE.out]; first | done | rfl, rfl⟩
        · have e1 : ¬ (40 : Int) < (m.length : Int) := by omega
          have HT := Lib.hid (show ∀ z ∈ ts.take (j + 1), z.length ≤ 40 from fun z hz => by
            rw [take_one hm] at hz
            rcases List.mem_append.1 hz with hz | hz
            · exact ht z hz
            · rw [List.mem_singleton] at hz; subst hz; omega)
          clear hm h60 ht
          go_wp2_with fail
          go_roundw
          case rel => exact ⟨j + 1, by omega, by go_num, HT.out, (by first | rfl | trivial)⟩
          case measure => simp [intOf]; omega
      · obtain rfl : j = ts.length := by omega
        rw [List.take_length] at ht
        have HE := Lib.hid (show fewT ts = true by
          unfold fewT
          rw [decide_eq_true (by omega), Bool.true_and, List.all_eq_true]
          exact fun z hz => by simpa using ht z hz)
        have i1 : ¬ (ts.length : Int) < (ts.length : Int) := by omega
        clear ht
        go_wp2_with fail
        go_ret
        exact ⟨by rw [HE.out]; first | done | rfl, rfl⟩

set_option maxRecDepth 100000 in
set_option maxHeartbeats 1000000 in
theorem ref_TSame_any (A : Option Addr) (c : Nat) (ts : List (List Int)) (A' : Option Addr) (c' : Nat) (us : List (List Int)) (w : World) (h : TRow w A ts) (h' : TRow w A' us) (hl : ts.length ≤ 1000000) (hm : ∀ t ∈ ts, t.length ≤ 1000000) :
    Calls Try.prog 9 #[.slice A ts.length c, .slice A' us.length c'] w fun e w' => e = .returned (.bool (decide (ts = us))) ∧ Below w.heap.size w w' := by
  by_cases hlen : ts.length = us.length
  · have e0 : ((ts.length : Int) != (us.length : Int)) = false := by rw [hlen]; simp
    have HL := Lib.hid h
    have HL' := Lib.hid h'
    have HLE := Lib.hid hlen
    have HM := Lib.hid hm
    clear h h' hlen hm
    go_enter Try.func9, Try.ntmps9
    go_wp2_with fail
    go_loopw [5] (fun i wr => ∃ j : Nat, j ≤ ts.length ∧ i = .int .i64 j ∧ ts.take j = us.take j ∧ Below w.heap.size w wr) (fun i _ => ts.length - (intOf i).toNat)
    case atStart => exact ⟨0, by omega, rfl, rfl, Below.refl _ _⟩
    case round =>
      obtain ⟨j, hj, rfl, ht, hB⟩ := hrel
      have hlen := HLE.out
      by_cases hlt : j < ts.length
      · obtain ⟨m, hm⟩ : ∃ m, ts[j]? = some m := ⟨_, List.getElem?_eq_getElem hlt⟩
        obtain ⟨m', hm'⟩ : ∃ m, us[j]? = some m := ⟨_, List.getElem?_eq_getElem (by omega)⟩
        obtain ⟨ad, P, cp, rfl, K⟩ := (HL.out.at hB).get hm
        obtain ⟨ad', P', cp', rfl, K'⟩ := (HL'.out.at hB).get hm'
        have i1 : (j : Int) < (ts.length : Int) := by omega
        have i2 : (0 : Int) ≤ (j : Int) := by omega
        have i3 : (j : Int) < (us.length : Int) := by omega
        have i5 : IntKind.i64.wrap ((j : Int) + 1) = (j : Int) + 1 := IntWalk.i64_in _ (by omega)
        have hbd : Below wr.heap.size wr wr.drew := (Below.refl _ _).drew
        have HCC := Lib.hid (Ints_any P cp m P' cp' m' wr.drew (K _ hbd).1.row (K' _ hbd).1.row (HM.out m (List.mem_of_getElem? hm)))
        have HS := Lib.hid (fun W hb => And.intro (K W hb).2 (K' W hb).2)
        have hS := HS.out _ (Below.refl _ _)
        have HMm := Lib.hid hm
        have HMm' := Lib.hid hm'
        have HT := Lib.hid ht
        clear K K' hm hm' ht hlen
        by_cases hr : m = m'
        · rw [decide_eq_true hr] at HCC
          have HE := Lib.hid hr
          clear hr
          go_wp2_with fail
          go_region_held3 (fun w' => w'.cell? (ad.add j) = some (.slice P m.length cp) ∧ w'.cell? (ad'.add j) = some (.slice P' m'.length cp')) (first | exact hS) (first
            | (go_at_call 17; refine HCC.out.mono ?_; rintro e w6 ⟨rfl, hb6⟩; have hb7 := hB.drew.trans (hb6.mono hB.size); have hS := HS.out _ (hbd.trans hb6))
            | fail)
          go_wp2_with fail
          go_roundw
          case rel => exact ⟨j + 1, by omega, by go_num, by rw [take_one HMm.out, take_one HMm'.out, HT.out, HE.out], hb7⟩
          case measure => simp [intOf]; omega
        · rw [decide_eq_false hr] at HCC
          have HE := Lib.hid (show decide (ts = us) = false from decide_eq_false (fun e => by
            have h1 := HMm.out
            rw [e, HMm'.out] at h1
            exact hr (Option.some.inj h1).symm))
          clear hr
          go_wp2_with fail
          go_region_held3 (fun w' => w'.cell? (ad.add j) = some (.slice P m.length cp) ∧ w'.cell? (ad'.add j) = some (.slice P' m'.length cp')) (first | exact hS) (first
            | (go_at_call 17; refine HCC.out.mono ?_; rintro e w6 ⟨rfl, hb6⟩; have hb7 := hB.drew.trans (hb6.mono hB.size); have hS := HS.out _ (hbd.trans hb6))
            | fail)
          go_wp2_with fail
          go_ret
          exact ⟨by rw [HE.out]; first | done | rfl, hb7⟩
      · obtain rfl : j = ts.length := by omega
        rw [List.take_length, hlen, List.take_length] at ht
        have HE := Lib.hid (decide_eq_true ht)
        have i1 : ¬ (ts.length : Int) < (ts.length : Int) := by omega
        clear hlen ht
        go_wp2_with fail
        go_ret
        exact ⟨by rw [HE.out]; first | done | rfl, hB⟩
  · have e0 : ((ts.length : Int) != (us.length : Int)) = true := by simp; omega
    have HE := Lib.hid (show decide (ts = us) = false from decide_eq_false (fun e => hlen (by rw [e])))
    clear hlen
    go_enter Try.func9, Try.ntmps9
    go_wp2_with fail
    go_ret
    exact ⟨by rw [HE.out]; first | done | rfl, Below.refl _ _⟩

set_option maxRecDepth 100000 in
set_option maxHeartbeats 1000000 in
theorem ref_SCheck_any (n : Int) (A : Option Addr) (c : Nat) (ts : List (List Int)) (f : Int) (w : World) (h : TRow w A ts) :
    Calls Try.prog 11 #[.int .i64 n, .slice A ts.length c, .int .i64 f] w fun e w' => e = .returned (.int .i64 (scheck n ts f)) ∧ w' = w := by
  by_cases h1 : ts.length < 1
  · have j1 : (ts.length : Int) < 1 := by omega
    have HE := Lib.hid (show scheck n ts f = 18 from if_pos (.inl h1))
    clear h1
    go_enter Try.func11, Try.ntmps11
    go_wp2_with fail
    go_ret
    exact ⟨by rw [HE.out]; first | done | rfl, rfl⟩
  by_cases h2 : 20 < ts.length
  · have j1 : ¬ (ts.length : Int) < 1 := by omega
    have j2 : (20 : Int) < (ts.length : Int) := by omega
    have HE := Lib.hid (show scheck n ts f = 18 from if_pos (.inr h2))
    clear h1 h2
    go_enter Try.func11, Try.ntmps11
    go_wp2_with fail
    go_ret
    exact ⟨by rw [HE.out]; first | done | rfl, rfl⟩
  have j1 : ¬ (ts.length : Int) < 1 := by omega
  have j2 : ¬ (20 : Int) < (ts.length : Int) := by omega
  have HL := Lib.hid h
  have HS := Lib.hid (show scheck n ts f = if evenB n ts = false then 18 else if f < 1 ∨ 10000 < f then 19 else 0 from if_neg (by omega))
  clear h
  go_enter Try.func11, Try.ntmps11
  go_wp2_with fail
  go_loopw [7] (fun i wr => ∃ j : Nat, j ≤ ts.length ∧ i = .int .i64 j ∧ (∀ m ∈ ts.take j, (m.length : Int) = n) ∧ wr = w) (fun i _ => ts.length - (intOf i).toNat)
  case atStart => exact ⟨0, by omega, rfl, by simp, rfl⟩
  case round =>
    obtain ⟨j, hj, rfl, ht, rfl⟩ := hrel
    by_cases hlt : j < ts.length
    · obtain ⟨m, hm⟩ : ∃ m, ts[j]? = some m := ⟨_, List.getElem?_eq_getElem hlt⟩
      obtain ⟨ad, P, cp, rfl, -, -, k1⟩ := HL.out j m hm
      have i1 : (j : Int) < (ts.length : Int) := by omega
      have i2 : (0 : Int) ≤ (j : Int) := by omega
      have i5 : IntKind.i64.wrap ((j : Int) + 1) = (j : Int) + 1 := IntWalk.i64_in _ (by omega)
      by_cases h60 : (m.length : Int) = n
      · have e1 : ((m.length : Int) != n) = false := by rw [h60]; simp
        have HT := Lib.hid (show ∀ z ∈ ts.take (j + 1), (z.length : Int) = n from fun z hz => by
          rw [take_one hm] at hz
          rcases List.mem_append.1 hz with hz | hz
          · exact ht z hz
          · rw [List.mem_singleton] at hz; subst hz; exact h60)
        clear hm h60 ht
        go_wp2_with fail
        go_roundw
        case rel => exact ⟨j + 1, by omega, by go_num, HT.out, (by first | rfl | trivial)⟩
        case measure => simp [intOf]; omega
      · have e1 : ((m.length : Int) != n) = true := by simpa using h60
        have HE := Lib.hid (show scheck n ts f = 18 by
          rw [HS.out, if_pos]
          rw [Bool.eq_false_iff]
          exact fun q => h60 (even_iff.1 q m (List.mem_of_getElem? hm)))
        clear hm h60 ht
        go_wp2_with fail
        go_ret
        exact ⟨by rw [HE.out]; first | done | rfl, rfl⟩
    · obtain rfl : j = ts.length := by omega
      rw [List.take_length] at ht
      have HE := Lib.hid (show scheck n ts f = if f < 1 ∨ 10000 < f then 19 else 0 by rw [HS.out, if_neg]; rw [even_iff.2 ht]; decide)
      have i1 : ¬ (ts.length : Int) < (ts.length : Int) := by omega
      clear ht
      by_cases hf1 : f < 1
      · have HE2 := Lib.hid (show scheck n ts f = 19 by rw [HE.out, if_pos (.inl hf1)])
        go_wp2_with fail
        go_ret
        exact ⟨by rw [HE2.out]; first | done | rfl, rfl⟩
      by_cases hf2 : 10000 < f
      · have HE2 := Lib.hid (show scheck n ts f = 19 by rw [HE.out, if_pos (.inr hf2)])
        go_wp2_with fail
        go_ret
        exact ⟨by rw [HE2.out]; first | done | rfl, rfl⟩
      · have HE2 := Lib.hid (show scheck n ts f = 0 by rw [HE.out, if_neg (by omega)])
        go_wp2_with fail
        go_ret
        exact ⟨by rw [HE2.out]; first | done | rfl, rfl⟩

end Go.Proofs.Ytlecofghifjmcaa.Suite
