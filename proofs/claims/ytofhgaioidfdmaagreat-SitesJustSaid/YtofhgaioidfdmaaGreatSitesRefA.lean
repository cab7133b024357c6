/-
  The reference of all mutants, walked: are two rows alike, does one rise, is a delta a mutant's; and whether deltas are few.
-/
import Derived.Test.YtofhgaioidfdmaaGreatSitesRow
import Derived.Test.YtofhgaioidfdmaaGreatDeltaR
import Derived.Test.YtofhgaioidfdmaaGreatPathG
import Derived.Test.YtofhgaioidfdmaaGreatKindsG
import Derived.Test.YtofhgaioidfdmaaGreatCatG
import Derived.Test.YtofhgaioidfdmaaGreatDeltaG
import Derived.Deep.RegionHeld3
import Derived.Deep.DrawnRows
import Derived.Deep.QuietTactic
import Derived.BigQuiet
set_option linter.unusedVariables false
namespace Go.Proofs.YtofhgaioidfdmaaGreat.Sites
open Go.RowKit Mem _root_.Go.Proofs.YtofhgaioidfdmaaGreat.Arena _root_.Go.Proofs.YtofhgaioidfdmaaGreat.Delta _root_.Go.Proofs.YtofhgaioidfdmaaGreat.Path _root_.Go.Proofs.YtofhgaioidfdmaaGreat.Cat
attribute [local go_sem ↓] Go.wp_at_zero Go.wp_at_succ

/-- Two deltas are compared, by the document's answer. -/
theorem ref_cmp {P P' : Option Addr} {c c' : Nat} {p p' : List Int} {o o' n n' : Int} (W : World) (h : (dl P c (p, o, n)).Ok W) (h' : (dl P' c' (p', o', n')).Ok W) :
    Calls Tryz.prog 34 #[.agg #[.slice P p.length c, .int .i64 o, .int .i64 n], .agg #[.slice P' p'.length c', .int .i64 o', .int .i64 n']] W fun e w' => e = .returned (.int .i64 (mcmp (p, o, n) (p', o', n'))) ∧ Below W.heap.size W w' :=
  ref_DCompare_any (dl P c (p, o, n)) (dl P' c' (p', o', n')) W h h'

set_option maxRecDepth 100000 in
set_option maxHeartbeats 2000000 in
theorem ref_Same_any (A : Option Addr) (c : Nat) (L : List Mt) (A' : Option Addr) (c' : Nat) (L' : List Mt) (w : World) (hL : MRow w A L) (hL' : MRow w A' L') (hl : L.length ≤ 1000000) :
    Calls Tryz.prog 14 #[.slice A L.length c, .slice A' L'.length c'] w fun e w' => e = .returned (.bool (decide (L = L'))) ∧ Below w.heap.size w w' := by
  by_cases hlen : L.length = L'.length
  · have e0 : ((L.length : Int) != (L'.length : Int)) = false := by rw [hlen]; simp
    have HL := Lib.hid hL
    have HL' := Lib.hid hL'
    have HLE := Lib.hid hlen
    clear hL hL' hlen
    go_enter Tryz.func14, Tryz.ntmps14
    go_wp2_with fail
    go_loopw [5] (fun i wr => ∃ j : Nat, j ≤ L.length ∧ i = .int .i64 j ∧ L.take j = L'.take j ∧ Below w.heap.size w wr) (fun i _ => L.length - (intOf i).toNat)
    case atStart => exact ⟨0, by omega, rfl, rfl, Below.refl _ _⟩
    case round =>
      obtain ⟨j, hj, rfl, ht, hB⟩ := hrel
      have hlen := HLE.out
      by_cases hlt : j < L.length
      · obtain ⟨m, hm⟩ : ∃ m, L[j]? = some m := ⟨_, List.getElem?_eq_getElem hlt⟩
        obtain ⟨m', hm'⟩ : ∃ m, L'[j]? = some m := ⟨_, List.getElem?_eq_getElem (by omega)⟩
        obtain ⟨ad, P, cp, rfl, K⟩ := (HL.out.at hB).get hm
        obtain ⟨ad', P', cp', rfl, K'⟩ := (HL'.out.at hB).get hm'
        have i1 : (j : Int) < (L.length : Int) := by omega
        have i2 : (0 : Int) ≤ (j : Int) := by omega
        have i3 : (j : Int) < (L'.length : Int) := by omega
        have i5 : IntKind.i64.wrap ((j : Int) + 1) = (j : Int) + 1 := IntWalk.i64_in _ (by omega)
        have HZ := Lib.hid (mcmp_zero (a := m) (b := m'))
        have HM := Lib.hid hm
        have HM' := Lib.hid hm'
        have HT := Lib.hid ht
        obtain ⟨mp, mo, mn⟩ := m
        obtain ⟨mp', mo', mn'⟩ := m'
        try simp only at K K'
        have HCC := Lib.hid (fun W h h' => ref_cmp (P := P) (c := cp) (p := mp) (o := mo) (n := mn) (P' := P') (c' := cp') (p' := mp') (o' := mo') (n' := mn') W h h')
        have HOK := Lib.hid (fun W hb => And.intro (K W hb).1 (K' W hb).1)
        have HS := Lib.hid (fun W hb => And.intro (K W hb).2 (K' W hb).2)
        have hS := HS.out _ (Below.refl _ _)
        unfold Cem at hS
        generalize mcmp (mp, mo, mn) (mp', mo', mn') = r at *
        have hbd : Below wr.heap.size wr wr.drew := (Below.refl _ _).drew
        clear K K' hm hm' ht hlen
        by_cases hr : r = 0
        · have e1 : (r != 0) = false := by simp [hr]
          have HE := Lib.hid (HZ.out.1 hr)
          clear hr
          go_wp2_with fail
          go_region_held3 (fun w' => (w'.cell? (ad.add (j * 3)) = some (.slice P mp.length cp) ∧ w'.cell? ⟨(ad.add (j * 3)).block, (ad.add (j * 3)).off + 1, none⟩ = some (.int .i64 mo) ∧ w'.cell? ⟨(ad.add (j * 3)).block, (ad.add (j * 3)).off + 2, none⟩ = some (.int .i64 mn)) ∧ (w'.cell? (ad'.add (j * 3)) = some (.slice P' mp'.length cp') ∧ w'.cell? ⟨(ad'.add (j * 3)).block, (ad'.add (j * 3)).off + 1, none⟩ = some (.int .i64 mo') ∧ w'.cell? ⟨(ad'.add (j * 3)).block, (ad'.add (j * 3)).off + 2, none⟩ = some (.int .i64 mn'))) (exact hS) (first
            | (go_at_call 34; refine (HCC.out _ (HOK.out _ hbd).1 (HOK.out _ hbd).2).mono ?_; rintro e w6 ⟨rfl, hb6⟩; have hb7 := hB.drew.trans (hb6.mono hB.size); have hS := HS.out _ (hbd.trans hb6); unfold Cem at hS)
            | fail)
          go_wp2_with fail
          go_roundw
          case rel => exact ⟨j + 1, by omega, by go_num, by rw [take_snoc L j _ HM.out, take_snoc L' j _ HM'.out, HT.out, HE.out], hb7⟩
          case measure => simp [intOf]; omega
        · have e1 : (r != 0) = true := by simp [hr]
          have HE := Lib.hid (show decide (L = L') = false from decide_eq_false (fun e => by
            have h1 := HM.out
            rw [e, HM'.out] at h1
            exact hr (HZ.out.2 (Option.some.inj h1).symm)))
          clear hr
          go_wp2_with fail
          go_region_held3 (fun w' => (w'.cell? (ad.add (j * 3)) = some (.slice P mp.length cp) ∧ w'.cell? ⟨(ad.add (j * 3)).block, (ad.add (j * 3)).off + 1, none⟩ = some (.int .i64 mo) ∧ w'.cell? ⟨(ad.add (j * 3)).block, (ad.add (j * 3)).off + 2, none⟩ = some (.int .i64 mn)) ∧ (w'.cell? (ad'.add (j * 3)) = some (.slice P' mp'.length cp') ∧ w'.cell? ⟨(ad'.add (j * 3)).block, (ad'.add (j * 3)).off + 1, none⟩ = some (.int .i64 mo') ∧ w'.cell? ⟨(ad'.add (j * 3)).block, (ad'.add (j * 3)).off + 2, none⟩ = some (.int .i64 mn'))) (exact hS) (first
            | (go_at_call 34; refine (HCC.out _ (HOK.out _ hbd).1 (HOK.out _ hbd).2).mono ?_; rintro e w6 ⟨rfl, hb6⟩; have hb7 := hB.drew.trans (hb6.mono hB.size); have hS := HS.out _ (hbd.trans hb6); unfold Cem at hS)
            | fail)
          go_wp2_with fail
          go_ret
          exact ⟨by rw [HE.out]; first | done | rfl, hb7⟩
      · obtain rfl : j = L.length := by omega
        rw [List.take_length, hlen, List.take_length] at ht
        have HE := Lib.hid (decide_eq_true ht)
        have i1 : ¬ (L.length : Int) < (L.length : Int) := by omega
        clear hlen ht
        go_wp2_with fail
        go_ret
        exact ⟨by rw [HE.out]; first | done | rfl, hB⟩
  · have e0 : ((L.length : Int) != (L'.length : Int)) = true := by simp; omega
    have HE := Lib.hid (show decide (L = L') = false from decide_eq_false (fun e => hlen (by rw [e])))
    clear hlen
    go_enter Tryz.func14, Tryz.ntmps14
    go_wp2_with fail
    go_ret
    exact ⟨by rw [HE.out]; first | done | rfl, Below.refl _ _⟩

/-- Does a list rise? -/
def RiseEnds (L : List Mt) (e : Ending) : Prop := ∃ b : Bool, e = .returned (.bool b) ∧ (b = true ↔ MRise L)
set_option maxRecDepth 100000 in
set_option maxHeartbeats 2000000 in
theorem ref_Rises_any (A : Option Addr) (c : Nat) (L : List Mt) (w : World) (hL : MRow w A L) (hl : L.length ≤ 1000000) :
    Calls Tryz.prog 22 #[.slice A L.length c] w fun e w' => RiseEnds L e ∧ Below w.heap.size w w' := by
  have HL := Lib.hid hL
  clear hL
  go_enter Tryz.func22, Tryz.ntmps22
  go_wp2_with fail
  go_loopw [3] (fun i wr => ∃ q : Nat, i = .int .i64 ((q : Int) + 1) ∧ q ≤ L.length ∧ (∀ k a b, k < q → L[k]? = some a → L[k + 1]? = some b → mcmp a b < 0) ∧ Below w.heap.size w wr) (fun i _ => L.length + 1 - (intOf i).toNat)
  case atStart => exact ⟨0, rfl, by omega, fun k a b h => by omega, Below.refl _ _⟩
  case round =>
    obtain ⟨q, rfl, hq, hN, hB⟩ := hrel
    by_cases hlt : q + 1 < L.length
    · obtain ⟨m, hm⟩ : ∃ m, L[q]? = some m := ⟨_, List.getElem?_eq_getElem (by omega)⟩
      obtain ⟨m', hm'⟩ : ∃ m, L[q + 1]? = some m := ⟨_, List.getElem?_eq_getElem hlt⟩
      obtain ⟨ad, P, cp, rfl, K⟩ := (HL.out.at hB).get hm
      obtain ⟨ad', P', cp', e, K'⟩ := (HL.out.at hB).get hm'
      cases e
      have i1 : (q : Int) + 1 < (L.length : Int) := by omega
      have i2 : (0 : Int) ≤ (q : Int) + 1 := by omega
      have i4 : (q : Int) < (L.length : Int) := by omega
      have i5 : IntKind.i64.wrap ((q : Int) + 1 - 1) = (q : Int) := by rw [show (q : Int) + 1 - 1 = q by omega]; exact IntWalk.i64_in _ (by omega)
      have i6 : (0 : Int) ≤ (q : Int) := by omega
      have i9 : IntKind.i64.wrap (q : Int) = (q : Int) := IntWalk.i64_in _ (by omega)
      have i7 : ((q : Int) + 1).toNat = q + 1 := by omega
      have i10 : IntKind.i64.wrap ((q : Int) + 1 + 1) = (q : Int) + 1 + 1 := IntWalk.i64_in _ (by omega)
      have HM := Lib.hid hm
      have HM' := Lib.hid hm'
      have HN := Lib.hid hN
      have HR : Hid (mcmp m m' = mcmp m m') := Lib.hid rfl
      obtain ⟨r, hr⟩ : ∃ r, mcmp m m' = r := ⟨_, rfl⟩
      have HRR := Lib.hid hr
      obtain ⟨mp, mo, mn⟩ := m
      obtain ⟨mp', mo', mn'⟩ := m'
      try simp only at K K'
      have HCC := Lib.hid (fun W h h' => ref_cmp (P := P) (c := cp) (p := mp) (o := mo) (n := mn) (P' := P') (c' := cp') (p' := mp') (o' := mo') (n' := mn') W h h')
      have HOK := Lib.hid (fun W hb => And.intro (K W hb).1 (K' W hb).1)
      have HS := Lib.hid (fun W hb => And.intro (K W hb).2 (K' W hb).2)
      have hS := HS.out _ (Below.refl _ _)
      unfold Cem at hS
      rw [hr] at HCC
      have hbd : Below wr.heap.size wr wr.drew := (Below.refl _ _).drew
      clear K K' hm hm' hN hr
      by_cases hr : r < 0
      · have e1 : ¬ (0 : Int) ≤ r := by omega
        have HE := Lib.hid hr
        clear hr
        go_wp2_with fail
        go_region_held3 (fun w' => (w'.cell? (ad.add (q * 3)) = some (.slice P mp.length cp) ∧ w'.cell? ⟨(ad.add (q * 3)).block, (ad.add (q * 3)).off + 1, none⟩ = some (.int .i64 mo) ∧ w'.cell? ⟨(ad.add (q * 3)).block, (ad.add (q * 3)).off + 2, none⟩ = some (.int .i64 mn)) ∧ (w'.cell? (ad.add ((q + 1) * 3)) = some (.slice P' mp'.length cp') ∧ w'.cell? ⟨(ad.add ((q + 1) * 3)).block, (ad.add ((q + 1) * 3)).off + 1, none⟩ = some (.int .i64 mo') ∧ w'.cell? ⟨(ad.add ((q + 1) * 3)).block, (ad.add ((q + 1) * 3)).off + 2, none⟩ = some (.int .i64 mn'))) (exact hS) (first
          | (go_at_call 34; refine (HCC.out _ (HOK.out _ hbd).1 (HOK.out _ hbd).2).mono ?_; rintro e w6 ⟨rfl, hb6⟩; have hb7 := hB.drew.trans (hb6.mono hB.size); have hS := HS.out _ (hbd.trans hb6); unfold Cem at hS)
          | fail)
        go_wp2_with fail
        go_roundw
        case rel =>
          refine ⟨q + 1, by go_num, by omega, fun k a b hk ha hb => ?_, hb7⟩
          by_cases z : k = q
          · subst z
            have h1 := HM.out
            have h2 := HM'.out
            rw [ha] at h1
            rw [hb] at h2
            rw [Option.some.inj h1, Option.some.inj h2, HRR.out]
            exact HE.out
          · exact HN.out k a b (by omega) ha hb
        case measure => simp [intOf]; omega
      · have e1 : (0 : Int) ≤ r := by omega
        have HE := Lib.hid (show ¬ MRise L from fun hR => by
          have := hR q _ _ HM.out HM'.out
          rw [HRR.out] at this
          omega)
        clear hr
        go_wp2_with fail
        go_region_held3 (fun w' => (w'.cell? (ad.add (q * 3)) = some (.slice P mp.length cp) ∧ w'.cell? ⟨(ad.add (q * 3)).block, (ad.add (q * 3)).off + 1, none⟩ = some (.int .i64 mo) ∧ w'.cell? ⟨(ad.add (q * 3)).block, (ad.add (q * 3)).off + 2, none⟩ = some (.int .i64 mn)) ∧ (w'.cell? (ad.add ((q + 1) * 3)) = some (.slice P' mp'.length cp') ∧ w'.cell? ⟨(ad.add ((q + 1) * 3)).block, (ad.add ((q + 1) * 3)).off + 1, none⟩ = some (.int .i64 mo') ∧ w'.cell? ⟨(ad.add ((q + 1) * 3)).block, (ad.add ((q + 1) * 3)).off + 2, none⟩ = some (.int .i64 mn'))) (exact hS) (first
          | (go_at_call 34; refine (HCC.out _ (HOK.out _ hbd).1 (HOK.out _ hbd).2).mono ?_; rintro e w6 ⟨rfl, hb6⟩; have hb7 := hB.drew.trans (hb6.mono hB.size); have hS := HS.out _ (hbd.trans hb6); unfold Cem at hS)
          | fail)
        go_wp2_with fail
        go_ret
        exact ⟨⟨false, rfl, by simp [HE.out]⟩, hb7⟩
    · have i1 : ¬ (q : Int) + 1 < (L.length : Int) := by omega
      have HE := Lib.hid (show MRise L from fun i a b ha hb => hN i a b (by have := (List.getElem?_eq_some_iff.1 hb).1; omega) ha hb)
      clear hN
      go_wp2_with fail
      go_ret
      exact ⟨⟨true, rfl, by simp [HE.out]⟩, hB⟩

/-- Deltas that came in: how long their paths are is not known. -/
def MIn (w : World) (A : Option Addr) (L : List Mt) : Prop :=
  ∀ (i : Nat) (m : Mt), L[i]? = some m → ∃ ad P c, A = some ad ∧ ad.block < w.heap.size ∧ (dl P c m).In w ∧ Cem w ad i P c m
theorem MIn.at {w w' : World} {A : Option Addr} {L : List Mt} (h : MIn w A L) (hb : Below w.heap.size w w') : MIn w' A L := by
  intro i m hi
  obtain ⟨ad, P, c, e, h1, h2, h3⟩ := h i m hi
  exact ⟨ad, P, c, e, Nat.lt_of_lt_of_le h1 hb.size, h2.at hb, h3.keep h1 hb⟩
theorem MIn.row {w : World} {A : Option Addr} {L : List Mt} (h : MIn w A L) (hs : ∀ m ∈ L, m.1.length ≤ 60) : MRow w A L := by
  intro i m hi
  obtain ⟨ad, P, c, e, h1, h2, h3⟩ := h i m hi
  exact ⟨ad, P, c, e, h1, h2.ok (by have := hs m (List.mem_of_getElem? hi); show m.1.length ≤ 1000000; omega), h3⟩
def fewM (L : List Mt) : Bool := decide (L.length ≤ 300) && L.all fun m => decide (m.1.length ≤ 60)

set_option maxRecDepth 100000 in
set_option maxHeartbeats 2000000 in
theorem few_any (A : Option Addr) (c : Nat) (L : List Mt) (w : World) (hL : MIn w A L) :
    Calls Tryz.prog 15 #[.slice A L.length c] w fun e w' => e = .returned (.bool (fewM L)) ∧ w' = w := by
  by_cases h3 : 300 < L.length
  · have j1 : (300 : Int) < (L.length : Int) := by omega
    have HE := Lib.hid (show fewM L = false by unfold fewM; rw [decide_eq_false (by omega)]; rfl)
    clear h3
    go_enter Tryz.func15, Tryz.ntmps15
    go_wp2_with fail
    go_ret
    exact ⟨by rw [HE.out]; first | done | rfl, rfl⟩
  · have j1 : ¬ (300 : Int) < (L.length : Int) := by omega
    have HL := Lib.hid hL
    clear hL
    go_enter Tryz.func15, Tryz.ntmps15
    go_wp2_with fail
    go_loopw [3] (fun i wr => ∃ j : Nat, j ≤ L.length ∧ i = .int .i64 j ∧ (∀ m ∈ L.take j, m.1.length ≤ 60) ∧ wr = w) (fun i _ => L.length - (intOf i).toNat)
    case atStart => exact ⟨0, by omega, rfl, by simp, rfl⟩
    case round =>
      obtain ⟨j, hj, rfl, ht, rfl⟩ := hrel
      by_cases hlt : j < L.length
      · obtain ⟨m, hm⟩ : ∃ m, L[j]? = some m := ⟨_, List.getElem?_eq_getElem hlt⟩
        obtain ⟨ad, P, cp, rfl, -, -, k1, -, -⟩ := HL.out j m hm
        have i1 : (j : Int) < (L.length : Int) := by omega
        have i2 : (0 : Int) ≤ (j : Int) := by omega
        have i5 : IntKind.i64.wrap ((j : Int) + 1) = (j : Int) + 1 := IntWalk.i64_in _ (by omega)
        by_cases h60 : 60 < m.1.length
        · have e1 : (60 : Int) < (m.1.length : Int) := by omega
          have HE := Lib.hid (show fewM L = false by
            unfold fewM
            rw [Bool.and_eq_false_iff]
            right
            rw [List.all_eq_false]
            exact ⟨m, List.mem_of_getElem? hm, by simpa using h60⟩)
          clear hm h60 ht
          go_wp2_with fail
          go_ret
          exact ⟨by rw [HE.out]; first | done | rfl, rfl⟩
        · have e1 : ¬ (60 : Int) < (m.1.length : Int) := by omega
          have HT := Lib.hid (show ∀ z ∈ L.take (j + 1), z.1.length ≤ 60 from fun z hz => by
            rw [take_snoc L j _ hm] at hz
            rcases List.mem_append.1 hz with hz | hz
            · exact ht z hz
            · rw [List.mem_singleton] at hz; subst hz; omega)
          clear hm h60 ht
          go_wp2_with fail
          go_roundw
          case rel => exact ⟨j + 1, by omega, by go_num, HT.out, by first | rfl | trivial⟩
          case measure => simp [intOf]; omega
      · obtain rfl : j = L.length := by omega
        rw [List.take_length] at ht
        have HE := Lib.hid (show fewM L = true by
          unfold fewM
          rw [Bool.and_eq_true, List.all_eq_true]
          exact ⟨decide_eq_true (by omega), fun m hm => decide_eq_true (ht m hm)⟩)
        have i1 : ¬ (L.length : Int) < (L.length : Int) := by omega
        clear ht
        go_wp2_with fail
        go_ret
        exact ⟨by rw [HE.out]; first | done | rfl, rfl⟩

end Go.Proofs.YtofhgaioidfdmaaGreat.Sites
