/-
  Package kinds, walked: variables, two programs, a program: what its functions come to.
-/
import Derived.Test.YteknfglfbkknaaaKindsPOf
import Derived.Test.YteknfglfbkknaaaKindsWorks
import Derived.Deep.QuietTactic
namespace Go.Proofs.Yteknfglfbkknaaa.Kinds
open Go.RowKit Mem _root_.Go.Proofs.Yteknfglfbkknaaa.Arena
set_option linter.unusedVariables false
attribute [local go_sem ↓] Go.wp_at_zero Go.wp_at_succ

set_option maxRecDepth 100000 in
set_option maxHeartbeats 1000000 in
theorem ints_equal (A : Option Addr) (cap : Nat) (xs : List Int) (A' : Option Addr) (cap' : Nat) (ys : List Int) (w : World) (hx : IRow w w.heap.size A xs) (hy : IRow w w.heap.size A' ys) (hlen : xs.length ≤ 1000000) :
    Calls Try.prog 34 #[.slice A xs.length cap, .slice A' ys.length cap'] w fun e w' => e = .returned (.bool (decide (xs = ys))) ∧ Below w.heap.size w w' := by
  by_cases hll : xs.length = ys.length
  · have HX := Lib.hid hx
    have HY := Lib.hid hy
    clear hx hy
    obtain ⟨n, hn⟩ : ∃ n, n = xs.length := ⟨_, rfl⟩
    have hn' : ys.length = n := by omega
    rw [hn', ← hn]
    have HN := Lib.hid hn
    have HN' := Lib.hid hn'
    rw [← hn] at hlen
    clear hn hn' hll
    go_enter Try.func34, Try.ntmps34
    go_wp2
    go_loopw [5, 13] (fun _ i wr => ∃ k : Nat, k ≤ n ∧ xs.take k = ys.take k ∧ i = .int .i64 k ∧ Below w.heap.size w wr) (fun _ i _ => n - (intOf i).toNat)
    case atStart => exact ⟨0, by omega, rfl, rfl, Below.refl _ _⟩
    case round =>
      obtain ⟨k, hk, hs, rfl, hB⟩ := hrel
      by_cases hlt : k < n
      · obtain ⟨x1, hxk⟩ : ∃ x, xs[k]? = some x := ⟨_, List.getElem?_eq_getElem (show k < xs.length by rw [← HN.out]; exact hlt)⟩
        obtain ⟨y1, hyk⟩ : ∃ y, ys[k]? = some y := ⟨_, List.getElem?_eq_getElem (show k < ys.length by rw [HN'.out]; exact hlt)⟩
        obtain ⟨ad, rfl, hb, h0⟩ := (HX.out.below hB) k _ hxk
        obtain ⟨ad', rfl, hb', g0⟩ := (HY.out.below hB) k _ hyk
        by_cases htu : x1 = y1
        · have HS := Lib.hid (show xs.take (k + 1) = ys.take (k + 1) by rw [take_snoc xs k _ hxk, take_snoc ys k _ hyk, hs, htu])
          subst htu
          clear hxk hyk hs
          go_wp2
          go_quiet (fail)
          go_wp2
          go_roundw
          case rel => exact ⟨k + 1, by omega, HS.out, by go_num, belowN hB _⟩
          case measure => simp [intOf]; omega
        · have HS := Lib.hid (rows_differ hxk hyk htu)
          have e2 : (x1 == y1) = false := by simpa using htu
          clear hxk hyk hs htu
          go_wp2
          go_quiet (fail)
          go_wp2
          go_ret
          exact ⟨by rw [HS.out]; rfl, belowN hB _⟩
      · have hk9 : k = n := by omega
        subst hk9
        have HF := Lib.hid (rows_alike hs HN.out HN'.out)
        clear hs
        go_wp2
        go_ret
        exact ⟨by rw [HF.out]; rfl, hB⟩
  · have HF := Lib.hid (show decide (xs = ys) = false by
      apply decide_eq_false
      rintro rfl
      exact hll rfl)
    have hne : ((xs.length : Int) == (ys.length : Int)) = false := by rw [beq_eq_false_iff_ne]; omega
    have hne2 : ((xs.length : Int) != (ys.length : Int)) = true := by simp; omega
    go_enter Try.func34, Try.ntmps34
    go_wp2
    go_ret
    exact ⟨by rw [HF.out]; rfl, Below.refl _ _⟩


theorem vsgood_all (ps : Int) (vs : List Int) : ∀ n, vsgood ps vs n = true ↔ ∀ i, i < n → vgood ps i (vs.getD i 0) = true
  | 0 => ⟨fun _ i h => absurd h (Nat.not_lt_zero _), fun _ => rfl⟩
  | n + 1 => by
    rw [vsgood, Bool.and_eq_true, vsgood_all ps vs n]
    constructor
    · rintro ⟨h1, h2⟩ i hi
      rcases Nat.lt_or_ge i n with q | q
      · exact h1 i q
      · obtain rfl : i = n := by omega
        exact h2
    · intro h
      exact ⟨fun i hi => h i (by omega), h n (by omega)⟩
theorem vsgood_tests (q : Nat) (vs : List Int) (hq : q ≤ vs.length) : vsgood (q : Int) vs vs.length = (!(vs.any odd) && !((vs.take q).any nonum)) := by
  rw [Bool.eq_iff_iff, vsgood_all, Bool.and_eq_true, Bool.not_eq_true', Bool.not_eq_true', List.any_eq_false, List.any_eq_false]
  constructor
  · intro h
    refine ⟨fun x hx => ?_, fun x hx => ?_⟩
    · obtain ⟨i, hi, rfl⟩ := List.getElem_of_mem hx
      have := h i hi
      rw [List.getD_eq_getElem?_getD, List.getElem?_eq_getElem hi] at this
      unfold vgood at this
      rw [decide_eq_true_eq] at this
      simp only [Option.getD_some] at this
      unfold odd
      rw [decide_eq_true_eq]; omega
    · obtain ⟨i, hi, rfl⟩ := List.getElem_of_mem hx
      rw [List.length_take] at hi
      have := h i (by omega)
      rw [List.getD_eq_getElem?_getD, List.getElem?_eq_getElem (by omega)] at this
      unfold vgood at this
      rw [decide_eq_true_eq] at this
      simp only [Option.getD_some] at this
      rw [List.getElem_take]
      unfold nonum
      have := this.2.2 (by omega)
      simp [this]
  · rintro ⟨h1, h2⟩ i hi
    rw [List.getD_eq_getElem?_getD, List.getElem?_eq_getElem hi, Option.getD_some]
    have a1 := h1 vs[i] (List.getElem_mem hi)
    unfold odd at a1
    rw [decide_eq_true_eq] at a1
    unfold vgood
    rw [decide_eq_true_eq]
    refine ⟨by omega, by omega, fun hlt => ?_⟩
    have hm : vs[i] ∈ vs.take q := by
      rw [List.mem_take_iff_getElem]
      exact ⟨i, by omega, rfl⟩
    have a2 := h2 _ hm
    unfold nonum at a2
    simpa using a2

set_option maxRecDepth 100000 in
set_option maxHeartbeats 2000000 in
theorem Vars_any (p : Prg) (w : World) (hp : p.Ok w) :
    Calls Try.prog 14 #[.agg #[.int .i64 p.ps, .slice p.A p.vs.length p.c, .slice p.B p.xs.length p.e]] w fun e w' => e = .returned (.int .i64 (avars p.ps p.vs)) ∧ Below w.heap.size w w' := by
  obtain ⟨ps, A, c, vs, B, e, xs⟩ := p
  simp only
  have hB0 : Below w.heap.size w (w.alloc (.cells #[.int .i64 ps, .slice A vs.length c, .slice B xs.length e] 25)) := (Below.refl _ _).alloc (Nat.le_refl _) _
  have bX := Blk.new w 25 #[.int .i64 ps, .slice A vs.length c, .slice B xs.length e]
  have hgl := bX.lt
  have HBX := Lib.hid (fun W (h : Below (w.alloc (.cells #[.int .i64 ps, .slice A vs.length c, .slice B xs.length e] 25)).heap.size (w.alloc (.cells #[.int .i64 ps, .slice A vs.length c, .slice B xs.length e] 25)) W) => (bX.below h hgl).three)
  have hX := (hp.at hB0).vars
  have hlv : vs.length ≤ 1000000 := hp.lv
  have hcv : vs.length ≤ c := hp.cv
  have hnv : A = none → c = 0 := hp.nv
  simp only at hX
  obtain ⟨b0, b1, b2⟩ := HBX.out _ (Below.refl _ _)
  obtain ⟨E, hE⟩ : ∃ E, avars ps vs = E := ⟨_, rfl⟩
  rw [hE]
  clear hp bX
  by_cases h1 : ps < 0
  · have HF := Lib.hid (show E = 14 by rw [← hE]; unfold avars; rw [if_pos (.inl h1)])
    clear hE
    go_enter Try.func14, Try.ntmps14
    go_wp2
    go_ret
    exact ⟨by rw [HF.out]; rfl, hB0⟩
  by_cases h2 : (vs.length : Int) < ps
  · have HF := Lib.hid (show E = 14 by rw [← hE]; unfold avars; rw [if_pos (.inr (.inl h2))])
    clear hE
    go_enter Try.func14, Try.ntmps14
    go_wp2
    go_ret
    exact ⟨by rw [HF.out]; rfl, hB0⟩
  by_cases h3 : 12 < vs.length
  · have HF := Lib.hid (show E = 14 by rw [← hE]; unfold avars; rw [if_pos (.inr (.inr h3))])
    have h3' : (12 : Int) < (vs.length : Int) := by omega
    clear hE
    go_enter Try.func14, Try.ntmps14
    go_wp2
    go_ret
    exact ⟨by rw [HF.out]; rfl, hB0⟩
  have h3' : ¬ (12 : Int) < (vs.length : Int) := by omega
  cases A with
  | none =>
    obtain rfl : c = 0 := hnv rfl
    obtain rfl : vs = [] := List.length_eq_zero_iff.1 (by omega)
    obtain rfl : ps = 0 := by simp at h2; omega
    have HF := Lib.hid (show E = 0 by rw [← hE]; rfl)
    have HO := Lib.hid (show Calls Try.prog 31 #[.slice none 0 0, .func (.func 32) #[] #[]] (w.alloc (.cells #[.int .i64 0, .slice none 0 0, .slice B xs.length e] 25)) (fun e1 w' => e1 = .returned (.bool false) ∧ Below (w.alloc (.cells #[.int .i64 0, .slice none 0 0, .slice B xs.length e] 25)).heap.size (w.alloc (.cells #[.int .i64 0, .slice none 0 0, .slice B xs.length e] 25)) w') from contains_odd none 0 [] _ hX hlv)
    have HN := Lib.hid (show ∀ W, Calls Try.prog 31 #[.slice none 0 0, .func (.func 33) #[] #[]] W (fun e1 w' => e1 = .returned (.bool false) ∧ Below W.heap.size W w') from fun W => contains_nonum none 0 [] W (fun i x h => by simp at h) (by simp))
    clear hE hX h1 h2 h3 h3' hnv
    simp only [List.length_nil] at *
    go_enter Try.func14, Try.ntmps14
    go_wp2_with (go_at_call 31; first
      | ((with_reducible refine HO.out.mono ?_); rintro e1 w1 ⟨rfl, hb1⟩; obtain ⟨b0, b1, b2⟩ := HBX.out _ hb1)
      | ((with_reducible refine (HN.out _).mono ?_); rintro e2 w2 ⟨rfl, hb2⟩; have hb3 := hb1.trans (hb2.mono hb1.size); obtain ⟨b0, b1, b2⟩ := HBX.out _ hb3))
    go_ret
    exact ⟨by rw [HF.out]; rfl, hB0.trans (hb3.mono hB0.size)⟩
  | some ad =>
    obtain ⟨q, rfl⟩ := Int.eq_ofNat_of_zero_le (show 0 ≤ ps by omega)
    have hqv : q ≤ vs.length := by omega
    have hE2 : E = if (!(vs.any odd) && !((vs.take q).any nonum)) = true then 0 else 14 := by
      rw [← hE]; unfold avars; rw [if_neg (by omega), vsgood_tests q vs hqv]
    have hlt : (vs.take q).length = q := by rw [List.length_take]; omega
    have HO := Lib.hid (contains_odd (some ad) c vs _ hX hlv)
    have HN := Lib.hid (show ∀ W, IRow W W.heap.size (some ad) vs → Calls Try.prog 31 #[.slice (some ad) q c, .func (.func 33) #[] #[]] W (fun e w' => e = .returned (.bool ((vs.take q).any nonum)) ∧ Below W.heap.size W w') from fun W h => by
      have := contains_nonum (some ad) c (vs.take q) W (fun i x hx => h i x (by rw [List.getElem?_take] at hx; split at hx; exact hx; cases hx)) (by omega)
      rw [hlt] at this
      exact this)
    have HX := Lib.hid hX
    have i1 : (0 : Int) ≤ (q : Int) := by omega
    have i2 : (q : Int) ≤ (c : Int) := by omega
    generalize vs.any odd = o1 at *
    generalize (vs.take q).any nonum = o2 at *
    have HE := Lib.hid hE2
    clear hE hE2 hX hlt h1
    cases o1 with
    | true =>
      have HF := Lib.hid (show E = 14 by rw [HE.out]; rfl)
      go_enter Try.func14, Try.ntmps14
      go_wp2_with (go_at_call 31; refine HO.out.mono ?_; rintro e1 w1 ⟨rfl, hb1⟩; obtain ⟨b0, b1, b2⟩ := HBX.out _ hb1)
      go_ret
      exact ⟨by rw [HF.out]; rfl, hB0.trans (hb1.mono hB0.size)⟩
    | false =>
      cases o2 with
      | true =>
        have HF := Lib.hid (show E = 14 by rw [HE.out]; rfl)
        go_enter Try.func14, Try.ntmps14
        go_wp2_with (go_at_call 31; first
          | ((with_reducible refine HO.out.mono ?_); rintro e1 w1 ⟨rfl, hb1⟩; obtain ⟨b0, b1, b2⟩ := HBX.out _ hb1)
          | ((with_reducible refine (HN.out _ (HX.out.at hb1)).mono ?_); rintro e2 w2 ⟨rfl, hb2⟩; have hb3 := hb1.trans (hb2.mono hb1.size); obtain ⟨b0, b1, b2⟩ := HBX.out _ hb3))
        go_ret
        exact ⟨by rw [HF.out]; rfl, hB0.trans (hb3.mono hB0.size)⟩
      | false =>
        have HF := Lib.hid (show E = 0 by rw [HE.out]; rfl)
        go_enter Try.func14, Try.ntmps14
        go_wp2_with (go_at_call 31; first
          | ((with_reducible refine HO.out.mono ?_); rintro e1 w1 ⟨rfl, hb1⟩; obtain ⟨b0, b1, b2⟩ := HBX.out _ hb1)
          | ((with_reducible refine (HN.out _ (HX.out.at hb1)).mono ?_); rintro e2 w2 ⟨rfl, hb2⟩; have hb3 := hb1.trans (hb2.mono hb1.size); obtain ⟨b0, b1, b2⟩ := HBX.out _ hb3))
        go_ret
        exact ⟨by rw [HF.out]; rfl, hB0.trans (hb3.mono hB0.size)⟩

end Go.Proofs.Yteknfglfbkknaaa.Kinds
