/-
  The reference of all mutants, walked: are two rows alike, does one rise, is a delta a mutant's; and whether deltas are few.
-/
import Derived.Test.YtofhgaioidfdmaaGreatSitesRow
import Derived.Test.YtofhgaioidfdmaaGreatDeltaR
import Derived.Test.YtofhgaioidfdmaaGreatPathG
import Derived.Test.YtofhgaioidfdmaaGreatKindsG
import Derived.Test.YtofhgaioidfdmaaGreatCatG
import Derived.Test.YtofhgaioidfdmaaGreatDeltaG
import Derived.Deep.RegionHeld3
import Derived.Deep.DrawnRows
import Derived.Deep.QuietTactic
import Derived.BigQuiet
set_option linter.unusedVariables false
namespace Go.Proofs.YtofhgaioidfdmaaGreat.Sites
open Go.RowKit Mem _root_.Go.Proofs.YtofhgaioidfdmaaGreat.Arena _root_.Go.Proofs.YtofhgaioidfdmaaGreat.Delta _root_.Go.Proofs.YtofhgaioidfdmaaGreat.Path _root_.Go.Proofs.YtofhgaioidfdmaaGreat.Cat
attribute [local go_sem ↓] Go.wp_at_zero Go.wp_at_succ

/-- Two deltas are compared, by the document's answer. -/
theorem ref_cmp {P P' : Option Addr} {c c' : Nat} {p p' : List Int} {o o' n n' : Int} (W : World) (h : (dl P c (p, o, n)).Ok W) (h' : (dl P' c' (p', o', n')).Ok W) :
    Calls Tryz.prog 34 #[.agg #[.slice P p.length c, .int .i64 o, .int .i64 n], .agg #[.slice P' p'.length c', .int .i64 o', .int .i64 n']] W fun e w' => e = .returned (.int .i64 (mcmp (p, o, n) (p', o', n'))) ∧ Below W.heap.size W w' :=
  ref_DCompare_any (dl P c (p, o, n)) (dl P' c' (p', o', n')) W h h'

set_option maxRecDepth 100000 in
set_option maxHeartbeats 2000000 in
theorem ref_Same_any (A : Option Addr) (c : Nat) (L : List Mt) (A' : Option Addr) (c' : Nat) (L' : List Mt) (w : World) (hL : MRow w A L) (hL' : MRow w A' L') (hl : L.length ≤ 1000000) :
    Calls Tryz.prog 14 #[.slice A L.length c, .slice A' L'.length c'] w fun e w' => e = .returned (.bool (decide (L = L'))) ∧ Below w.heap.size w w' := by
  by_cases hlen : L.length = L'.length
  · have e0 : ((L.length : Int) != (L'.length : Int)) = false := by rw [hlen]; simp
    have HL := Lib.hid hL
    have HL' := Lib.hid hL'
    have HLE := Lib.hid hlen
    clear hL hL' hlen
    go_enter Tryz.func14, Tryz.ntmps14
    go_wp2_with fail
    go_loopw [5] (fun i wr => ∃ j : Nat, j ≤ L.length ∧ i = .int .i64 j ∧ L.take j = L'.take j ∧ Below w.heap.size w wr) (fun i _ => L.length - (intOf i).toNat)
    case atStart => exact ⟨0, by omega, rfl, rfl, Below.refl _ _⟩
    case round =>
      obtain ⟨j, hj, rfl, ht, hB⟩ := hrel
      have hlen := HLE.out
      by_cases hlt : j < L.length
      · obtain ⟨m, hm⟩ : ∃ m, L[j]? = some m := ⟨_, List.getElem?_eq_getElem hlt⟩
        obtain ⟨m', hm'⟩ : ∃ m, L'[j]? = some m := ⟨_, List.getElem?_eq_getElem (by omega)⟩
        obtain ⟨ad, P, cp, rfl, K⟩ := (HL.out.at hB).get hm
        obtain ⟨ad', P', cp', rfl, K'⟩ := (HL'.out.at hB).get hm'
        have i1 : (j : Int) < (L.length : Int) := by omega
        have i2 : (0 : Int) ≤ (j : Int) := by omega
        have i3 : (j : Int) < (L'.length : Int) := by omega
        have i5 : IntKind.i64.wrap ((j : Int) + 1) = (j : Int) + 1 := IntWalk.i64_in _ (by omega)
        have HZ := Lib.hid (mcmp_zero (a := m) (b := m'))
        have HM := Lib.hid hm
        have HM' := Lib.hid hm'
        have HT := Lib.hid ht
        obtain ⟨mp, mo, mn⟩ := m
        obtain ⟨mp', mo', mn'⟩ := m'
        try simp only at K K'
        have HCC := Lib.hid (fun W h h' => ref_cmp (P := P) (c := cp) (p := mp) (o := mo) (n := mn) (P' := P') (c' := cp') (p' := mp') (o' := mo') (n' := mn') W h h')
        have HOK := Lib.hid (fun W hb => And.intro (K W hb).1 (K' W hb).1)
        have HS := Lib.hid (fun W hb => And.intro (K W hb).2 (K' W hb).2)
        have hS := HS.out _ (Below.refl _ _)
        unfold Cem at hS
        generalize mcmp (mp, mo, mn) (mp', mo', mn') = r at *
        have hbd : Below wr.heap.size wr wr.drew := (Below.refl _ _).drew
        clear K K' hm hm' ht hlen
        by_cases hr : r = 0
        · have e1 : (r != 0) = false := by simp [hr]
          have HE := Lib.hid (HZ.out.1 hr)
          clear hr
          go_wp2_with fail
          go_region_held3 (fun w' => (w'.cell? (ad.add (j * 3)) = some (.slice P mp.length cp) ∧ w'.cell? ⟨(ad.add (j * 3)).block, (ad.add (j * 3)).off + 1, none⟩ = some (.int .i64 mo) ∧ w'.cell? ⟨(ad.add (j * 3)).block, (ad.add (j * 3)).off + 2, none⟩ = some (.int .i64 mn)) ∧ (w'.cell? (ad'.add (j * 3)) = some (.slice P' mp'.length cp') ∧ w'.cell? ⟨(ad'.add (j * 3)).block, (ad'.add (j * 3)).off + 1, none⟩ = some (.int .i64 mo') ∧ w'.cell? ⟨(ad'.add (j * 3)).block, (ad'.add (j * 3)).off + 2, none⟩ = some (.int .i64 mn'))) (exact hS) (first
            | (go_at_call 34; refine (HCC.out _ (HOK.out _ hbd).1 (HOK.out _ hbd).2).mono ?_; rintro e w6 ⟨rfl, hb6⟩; have hb7 := hB.drew.trans (hb6.mono hB.size); have hS := HS.out _ (hbd.trans hb6); unfold Cem at hS)
            | fail)
          go_wp2_with fail
          go_roundw
          case rel => exact ⟨j + 1, by omega, by go_num, by rw [take_snoc L j _ HM.out, take_snoc L' j _ HM'.out, HT.out, HE.out], hb7⟩
          case measure => simp [intOf]; omega
        · have e1 : (r != 0) = true := by simp [hr]
          have HE := Lib.hid (show decide (L = L') = false from decide_eq_false (fun e => by
            have h1 := HM.out
            rw [e, HM'.out] at h1
            exact hr (HZ.out.2 (Option.some.inj h1).symm)))
          clear hr
          go_wp2_with fail
          go_region_held3 (fun w' => (w'.cell? (ad.add (j * 3)) = some (.slice P mp.length cp) ∧ w'.cell? ⟨(ad.add (j * 3)).block, (ad.add (j * 3)).off + 1, none⟩ = some (.int .i64 mo) ∧ w'.cell? ⟨(ad.add (j * 3)).block, (ad.add (j * 3)).off + 2, none⟩ = some (.int .i64 mn)) ∧ (w'.cell? (ad'.add (j * 3)) = some (.slice P' mp'.length cp') ∧ w'.cell? ⟨(ad'.add (j * 3)).block, (ad'.add (j * 3)).off + 1, none⟩ = some (.int .i64 mo') ∧ w'.cell? ⟨(ad'.add (j * 3)).block, (ad'.add (j * 3)).off + 2, none⟩ = some (.int .i64 mn'))) (exact hS) (first
            | (go_at_call 34; refine (HCC.out _ (HOK.out _ hbd).1 (HOK.out _ hbd).2).mono ?_; rintro e w6 ⟨rfl, hb6⟩; have hb7 := hB.drew.trans (hb6.mono hB.size); have hS := HS.out _ (hbd.trans hb6); unfold Cem at hS)
            | fail)
          go_wp2_with fail
          go_ret
          exact ⟨by rw [HE.out]; first | done | rfl, hb7⟩
      · obtain rfl : j = L.length := by omega
        rw [List.take_length, hlen, List.take_length] at ht
        have HE := Lib.hid (decide_eq_true ht)
        have i1 : ¬ (L.length : Int) < (L.length : Int) := by omega
        clear hlen ht
        go_wp2_with fail
        go_ret
        exact ⟨by rw [HE.out]; first | done | rfl, hB⟩
  · have e0 : ((L.length : Int) != (L'.length : Int)) = true := by simp; omega
    have HE := Lib.hid (show decide (L = L') = false from decide_eq_false (fun e => hlen (by rw [e])))
    clear hlen
    go_enter Tryz.func14, Tryz.ntmps14
    go_wp2_with fail
    go_ret
    exact ⟨by rw [HE.out]; first | done | rfl, Below.refl _ _⟩

/-- Deltas that came in: how long their paths are is not known. -/
def MIn (w : World) (A : Option Addr) (L : List Mt) : Prop :=
  ∀ (i : Nat) (m : Mt), L[i]? = some m → ∃ ad P c, A = some ad ∧ ad.block < w.heap.size ∧ (dl P c m).In w ∧ Cem w ad i P c m
theorem MIn.at {w w' : World} {A : Option Addr} {L : List Mt} (h : MIn w A L) (hb : Below w.heap.size w w') : MIn w' A L := by
  intro i m hi
  obtain ⟨ad, P, c, e, h1, h2, h3⟩ := h i m hi
  exact ⟨ad, P, c, e, Nat.lt_of_lt_of_le h1 hb.size, h2.at hb, h3.keep h1 hb⟩
theorem MIn.row {w : World} {A : Option Addr} {L : List Mt} (h : MIn w A L) (hs : ∀ m ∈ L, m.1.length ≤ 60) : MRow w A L := by
  intro i m hi
  obtain ⟨ad, P, c, e, h1, h2, h3⟩ := h i m hi
  exact ⟨ad, P, c, e, h1, h2.ok (by have := hs m (List.mem_of_getElem? hi); show m.1.length ≤ 1000000; omega), h3⟩
def fewM (L : List Mt) : Bool := decide (L.length ≤ 300) && L.all fun m => decide (m.1.length ≤ 60)

set_option maxRecDepth 100000 in
set_option maxHeartbeats 2000000 in
theorem few_any (A : Option Addr) (c : Nat) (L : List Mt) (w : World) (hL : MIn w A L) :
    Calls Tryz.prog 15 #[.slice A L.length c] w fun e w' => e = .returned (.bool (fewM L)) ∧ w' = w := by
  by_cases h3 : 300 < L.length
  · have j1 : (300 : Int) < (L.length : Int) := by omega
    have HE := Lib.hid (show fewM L = false by unfold fewM; rw [decide_eq_false (by omega)]; rfl)
    clear h3
    go_enter Tryz.func15, Tryz.ntmps15
    go_wp2_with fail
    go_ret
    exact ⟨by rw [HE.out]; first | done | rfl, rfl⟩
  · have j1 : ¬ (300 : Int) < (L.length : Int) := by omega
    have HL := Lib.hid hL
    clear hL
    go_enter Tryz.func15, Tryz.ntmps15
    go_wp2_with fail
    go_loopw [3] (fun i wr => ∃ j : Nat, j ≤ L.length ∧ i = .int .i64 j ∧ (∀ m ∈ L.take j, m.1.length ≤ 60) ∧ wr = w) (fun i _ => L.length - (intOf i).toNat)
    case atStart => exact ⟨0, by omega, rfl, by simp, rfl⟩
    case round =>
      obtain ⟨j, hj, rfl, ht, rfl⟩ := hrel
      by_cases hlt : j < L.length
      · obtain ⟨m, hm⟩ : ∃ m, L[j]? = some m := ⟨_, List.getElem?_eq_getElem hlt⟩
        obtain ⟨ad, P, cp, rfl, -, -, k1, -, -⟩ := HL.out j m hm
        have i1 : (j : Int) < (L.length : Int) := by omega
        have i2 : (0 : Int) ≤ (j : Int) := by omega
        have i5 : IntKind.i64.wrap ((j : Int) + 1) = (j : Int) + 1 := IntWalk.i64_in _ (by omega)
        by_cases h60 : 60 < m.1.length
        · have e1 : (60 : Int) < (m.1.length : Int) := by omega
          have HE := Lib.hid (show fewM L = false by
            unfold fewM
            rw [Bool.and_eq_false_iff]
            right
            rw [List.all_eq_false]
            exact ⟨m, List.mem_of_getElem? hm, by simpa using h60⟩)
          clear hm h60 ht
          go_wp2_with fail
          go_ret
          exact ⟨by rw [HE.out]; first | done | rfl, rfl⟩
        · have e1 : ¬ (60 : Int) < (m.1.length : Int) := by omega
          have HT := Lib.hid (show ∀ z ∈ L.take (j + 1), z.1.length ≤ 60 from fun z hz => by
            rw [take_snoc L j _ hm] at hz
            rcases List.mem_append.1 hz with hz | hz
            · exact ht z hz
            · rw [List.mem_singleton] at hz; subst hz; omega)
          clear hm h60 ht
          go_wp2_with fail
          go_roundw
          case rel => exact ⟨j + 1, by omega, by go_num, HT.out, by first | rfl | trivial⟩
          case measure => simp [intOf]; omega
      · obtain rfl : j = L.length := by omega
        rw [List.take_length] at ht
        have HE := Lib.hid (show fewM L = true by
          unfold fewM
          rw [Bool.and_eq_true, List.all_eq_true]
          exact ⟨decide_eq_true (by omega), fun m hm => decide_eq_true (ht m hm)⟩)
        have i1 : ¬ (L.length : Int) < (L.length : Int) := by omega
        clear ht
        go_wp2_with fail
        go_ret
        exact ⟨by rw [HE.out]; first | done | rfl, rfl⟩

end Go.Proofs.YtofhgaioidfdmaaGreat.Sites
