/-
  The laws of tests that go without the document's answer: what is put is got back, what is got was put just so; unlike tests have unlike bytes.
-/
import Derived.Test.YtlecofghifjmcaaSuitePkg
import Derived.Deep.RegionHeld3
import Derived.Deep.DrawnRows
set_option linter.unusedVariables false
namespace Go.Proofs.Ytlecofghifjmcaa.Suite
open Go.RowKit Leb Mem Wire Zig _root_.Go.Proofs.Ytlecofghifjmcaa.Arena _root_.Go.Proofs.Ytlecofghifjmcaa.Delta _root_.Go.Proofs.Ytlecofghifjmcaa.Path _root_.Go.Proofs.Ytlecofghifjmcaa.Cat _root_.Go.Proofs.Ytlecofghifjmcaa.Code
attribute [local go_sem ↓] Go.wp_at_zero Go.wp_at_succ

theorem sput_len {ts : List (List Int)} {f : Int} (g : SRight ts f) (h : T64 ts) : (sput ts f).length ≤ 2500 := by
  obtain ⟨n0, n1, w12, hsame, f0, f1⟩ := g
  have h1 := rowb_len (m := 12) (fun z hz => by have := hsame z hz; omega) h
  have l1 := lput_len10 (n := f.toNat) (by omega)
  have l2 := lput_len10 (n := ts.length) (by omega)
  have l3 := lput_len10 (n := wid ts) (by omega)
  unfold sput
  simp only [List.length_append]
  omega
theorem scheck_zero {ts : List (List Int)} {f : Int} (g : SRight ts f) : scheck (wid ts : Int) ts f = 0 := by
  have h := serr_zero.2 g
  unfold serr at h
  rw [if_neg (by have := g.n0; have := g.w; omega)] at h
  exact h
theorem first_of {ts : List (List Int)} (h : 1 ≤ ts.length) : ∃ t, ts[0]? = some t ∧ wid ts = t.length := by
  cases ts with
  | nil => simp at h
  | cons a r => exact ⟨a, rfl, rfl⟩
/-- Bytes that are those of tests. -/
theorem fits_bytes {S : ByteArray} (h : sfits S) : (⟨(sputE (t4 S).1 (t1 S).2).toArray⟩ : ByteArray) = S := by
  obtain ⟨g, e⟩ := h
  rw [show sputE (t4 S).1 (t1 S).2 = sput (t4 S).1 (t1 S).2 from if_pos (serr_zero.2 g), e]

set_option maxRecDepth 100000 in
set_option maxHeartbeats 4000000 in
theorem suiteBack_of (K : SuPkg) (HWk : Works) (A : Option Addr) (c : Nat) (ts : List (List Int)) (hc : ts.length ≤ c) (hA : A = none → c = 0) (h64 : T64 ts) (f : Int) (hf : N64 f) (S : ByteArray) (w : World) (hR : TRow w A ts) :
    Calls Try.prog 5 #[.slice A ts.length c, .int .i64 f, .string S] w fun e w' => e = .returned (.bool true) ∧ Below w.heap.size w w' := by
  have HK := Lib.hid (HWk w)
  have HF := Lib.hid (fun W (h : TRow W A ts) => ref_Few_any A c ts W h)
  have HR := Lib.hid hR
  by_cases h1 : fewT ts = true
  · by_cases h2 : 500 < S.size
    · have i1 : (500 : Int) < (S.size : Int) := by omega
      rw [h1] at HF
      clear hR h1 h2
      go_enter Try.func5, Try.ntmps5
      go_wp2_with (first
        | (go_at_call 7; refine HK.out.mono ?_; rintro e w1 ⟨rfl, hb1⟩)
        | (go_at_call 8; (with_reducible refine (HF.out _ (HR.out.at hb1)).mono ?_); rintro e w2 ⟨rfl, rfl⟩)
        | fail)
      go_ret
      exact ⟨rfl, hb1⟩
    · have i1 : ¬ (500 : Int) < (S.size : Int) := by omega
      have HT := Lib.hid (targ_of hR hc hA h1)
      have HP := Lib.hid (fun W (h : TArg W A c ts) => K.put A c ts f W h h64 hf)
      have HGS := Lib.hid (fun W => K.get S W (by omega))
      have HPP := Lib.hid (fun (hs : sfits S) A c W (h : TArg W A c (t4 S).1) => show Calls Try.prog 13 #[.slice A (t4 S).1.length c, .int .i64 (t1 S).2] W (fun e w' => e = .returned (.tuple #[.string S, .int .i64 0]) ∧ Below W.heap.size W w') from by
        have q := K.put A c (t4 S).1 (t1 S).2 W h (t4_64 S) (t1_64 S)
        rw [fits_bytes hs, serr_zero.2 hs.1] at q
        exact q)
      rw [h1] at HF
      by_cases hE : serr ts f = 0
      · have g := serr_zero.1 hE
        obtain ⟨t, ht, hwt⟩ := first_of g.n0
        obtain ⟨ad, P, cp, rfl, KR⟩ := hR.get ht
        have HKR := Lib.hid (fun W hb => (add_0 ad ▸ (KR W hb).2 : W.cell? ad = some (.slice P t.length cp)))
        obtain ⟨Z, hZ⟩ : ∃ Z : ByteArray, (⟨(sputE ts f).toArray⟩ : ByteArray) = Z := ⟨_, rfl⟩
        have hZl : Z.data.toList = sput ts f := by rw [← hZ, show sputE ts f = sput ts f from if_pos hE]
        have hfz := sfits_put g h64 hZl
        have hzs : Z.size ≤ 1000000 := by
          have h3 := sput_len g h64
          rw [← hZ, Code.cstr_size, show sputE ts f = sput ts f from if_pos hE]
          omega
        rw [hZ, hE] at HP
        have HG := Lib.hid (fun W => (K.get Z W hzs).mono fun e w' q => q.yes hfz.1)
        rw [hfz.2.1, hfz.2.2] at HG
        have HS := Lib.hid (fun A' c' W (h : TRow W A' ts) (h' : TRow W (some ad) ts) => ref_TSame_any A' c' ts (some ad) c ts W h h' (by have := g.n1; omega) (fun z hz => by have := g.same z hz; have := g.w; omega))
        rw [show decide (ts = ts) = true from decide_eq_true rfl] at HS
        have HC := Lib.hid (fun W (h : TArg W (some ad) c ts) => K.check (wid ts : Int) (some ad) c ts f W h)
        rw [scheck_zero g, hwt] at HC
        have j0 : (0 : Int) < (ts.length : Int) := by have := g.n0; omega
        have jn : 0 < ts.length := by omega
        have jm : ¬ ts.length ≤ 0 := by omega
        clear hR h1 h2 hZ hZl hfz hzs KR g hE ht hwt
        by_cases hS : sfits S
        · have HGy := Lib.hid (fun W => (HGS.out W).mono fun e w' q => q.yes hS)
          have HPy := Lib.hid (HPP.out hS)
          clear HGS HPP hS
          generalize (t4 S).1 = T at *
          generalize (t1 S).2 = g at *
          go_enter Try.func5, Try.ntmps5
          go_wp2_with (first
            | (go_at_call 7; refine HK.out.mono ?_; rintro e w1 ⟨rfl, hb1⟩)
            | (go_at_call 8; (with_reducible refine (HF.out _ (HR.out.at hb1)).mono ?_); rintro e w2 ⟨rfl, rfl⟩)
            | (go_at_call 13; (with_reducible refine (HP.out _ (HT.out.at hb1)).mono ?_); rintro e w3 ⟨rfl, hb3⟩; have hb3 := hb1.trans (hb3.mono hb1.size))
            | (go_at_call 15; (with_reducible refine (HG.out _).mono ?_); rintro e w4 ⟨hb4, A4, c4, rfl, hT4⟩; have hB4 := hb3.trans (hb4.mono hb3.size))
            | (go_at_call 9; refine (HS.out _ _ _ hT4.row (HR.out.at hB4)).mono ?_; rintro e w5 ⟨rfl, hb5⟩; have hB5 := hB4.trans (hb5.mono hB4.size); have k5 := HKR.out _ hB5)
            | (go_at_call 10; refine (HC.out _ (HT.out.at hB5)).mono ?_; rintro e w6 ⟨rfl, hb6⟩; have hB6 := hB5.trans (hb6.mono hB5.size))
            | (go_at_call 15; refine (HGy.out _).mono ?_; rintro e w7 ⟨hb7, A7, c7, rfl, hT7⟩; have hB7 := hB6.trans (hb7.mono hB6.size))
            | (go_at_call 13; refine (HPy.out _ _ _ hT7).mono ?_; rintro e w8 ⟨rfl, hb8⟩; have hB8 := hB7.trans (hb8.mono hB7.size))
            | fail)
          go_ret
          exact ⟨rfl, hB8⟩
        · have HGn := Lib.hid (fun W => (HGS.out W).mono fun e w' q => q.no hS)
          clear HGS HPP hS
          go_enter Try.func5, Try.ntmps5
          go_wp2_with (first
            | (go_at_call 7; refine HK.out.mono ?_; rintro e w1 ⟨rfl, hb1⟩)
            | (go_at_call 8; (with_reducible refine (HF.out _ (HR.out.at hb1)).mono ?_); rintro e w2 ⟨rfl, rfl⟩)
            | (go_at_call 13; (with_reducible refine (HP.out _ (HT.out.at hb1)).mono ?_); rintro e w3 ⟨rfl, hb3⟩; have hb3 := hb1.trans (hb3.mono hb1.size))
            | (go_at_call 15; (with_reducible refine (HG.out _).mono ?_); rintro e w4 ⟨hb4, A4, c4, rfl, hT4⟩; have hB4 := hb3.trans (hb4.mono hb3.size))
            | (go_at_call 9; refine (HS.out _ _ _ hT4.row (HR.out.at hB4)).mono ?_; rintro e w5 ⟨rfl, hb5⟩; have hB5 := hB4.trans (hb5.mono hB4.size); have k5 := HKR.out _ hB5)
            | (go_at_call 10; refine (HC.out _ (HT.out.at hB5)).mono ?_; rintro e w6 ⟨rfl, hb6⟩; have hB6 := hB5.trans (hb6.mono hB5.size))
            | (go_at_call 15; refine (HGn.out _).mono ?_; rintro e w7 ⟨hb7, A7, c7, rfl⟩; have hB7 := hB6.trans (hb7.mono hB6.size))
            | fail)
          go_ret
          exact ⟨rfl, hB7⟩
      · have e0 : (serr ts f == 0) = false := by simpa using hE
        have hE' := hE
        generalize serr ts f = E at *
        generalize sputE ts f = Z at *
        clear hR h1 h2 hE
        by_cases hS : sfits S
        · have HGy := Lib.hid (fun W => (HGS.out W).mono fun e w' q => q.yes hS)
          have HPy := Lib.hid (HPP.out hS)
          clear HGS HPP hS
          generalize (t4 S).1 = T at *
          generalize (t1 S).2 = g at *
          go_enter Try.func5, Try.ntmps5
          go_wp2_with (first
            | (go_at_call 7; refine HK.out.mono ?_; rintro e w1 ⟨rfl, hb1⟩)
            | (go_at_call 8; (with_reducible refine (HF.out _ (HR.out.at hb1)).mono ?_); rintro e w2 ⟨rfl, rfl⟩)
            | (go_at_call 13; (with_reducible refine (HP.out _ (HT.out.at hb1)).mono ?_); rintro e w3 ⟨rfl, hb3⟩; have hb3 := hb1.trans (hb3.mono hb1.size))
            | (go_at_call 15; refine (HGy.out _).mono ?_; rintro e w7 ⟨hb7, A7, c7, rfl, hT7⟩; have hB7 := hb3.trans (hb7.mono hb3.size))
            | (go_at_call 13; refine (HPy.out _ _ _ hT7).mono ?_; rintro e w8 ⟨rfl, hb8⟩; have hB8 := hB7.trans (hb8.mono hB7.size))
            | fail)
          go_ret
          exact ⟨rfl, hB8⟩
        · have HGn := Lib.hid (fun W => (HGS.out W).mono fun e w' q => q.no hS)
          clear HGS HPP hS
          go_enter Try.func5, Try.ntmps5
          go_wp2_with (first
            | (go_at_call 7; refine HK.out.mono ?_; rintro e w1 ⟨rfl, hb1⟩)
            | (go_at_call 8; (with_reducible refine (HF.out _ (HR.out.at hb1)).mono ?_); rintro e w2 ⟨rfl, rfl⟩)
            | (go_at_call 13; (with_reducible refine (HP.out _ (HT.out.at hb1)).mono ?_); rintro e w3 ⟨rfl, hb3⟩; have hb3 := hb1.trans (hb3.mono hb1.size))
            | (go_at_call 15; refine (HGn.out _).mono ?_; rintro e w7 ⟨hb7, A7, c7, rfl⟩; have hB7 := hb3.trans (hb7.mono hb3.size))
            | fail)
          go_ret
          exact ⟨rfl, hB7⟩
  · rw [show fewT ts = false by simpa using h1] at HF
    clear hR h1
    go_enter Try.func5, Try.ntmps5
    go_wp2_with (first
      | (go_at_call 7; refine HK.out.mono ?_; rintro e w1 ⟨rfl, hb1⟩)
      | (go_at_call 8; (with_reducible refine (HF.out _ (HR.out.at hb1)).mono ?_); rintro e w2 ⟨rfl, rfl⟩)
      | fail)
    go_ret
    exact ⟨rfl, hb1⟩

set_option maxRecDepth 100000 in
set_option maxHeartbeats 4000000 in
theorem suiteApart_of (K : SuPkg) (HWk : Works) (A : Option Addr) (c : Nat) (ts : List (List Int)) (hc : ts.length ≤ c) (hA : A = none → c = 0) (h64 : T64 ts) (A' : Option Addr) (c' : Nat) (us : List (List Int)) (hc' : us.length ≤ c') (hA' : A' = none → c' = 0) (h64' : T64 us) (n : Int) (hn : N64 n) (m : Int) (hm : N64 m) (w : World) (hR : TRow w A ts) (hR' : TRow w A' us) :
    Calls Try.prog 6 #[.slice A ts.length c, .slice A' us.length c', .int .i64 n, .int .i64 m] w fun e w' => e = .returned (.bool true) ∧ Below w.heap.size w w' := by
  have HK := Lib.hid (HWk w)
  have HF := Lib.hid (fun W (h : TRow W A ts) => ref_Few_any A c ts W h)
  have HF' := Lib.hid (fun W (h : TRow W A' us) => ref_Few_any A' c' us W h)
  have HR := Lib.hid hR
  have HR' := Lib.hid hR'
  by_cases h1 : fewT ts = true
  · by_cases h2 : fewT us = true
    · have HT := Lib.hid (targ_of hR hc hA h1)
      have HT' := Lib.hid (targ_of hR' hc' hA' h2)
      have HP := Lib.hid (fun W (h : TArg W A c ts) => K.put A c ts n W h h64 hn)
      have HP' := Lib.hid (fun W (h : TArg W A' c' us) => K.put A' c' us m W h h64' hm)
      have HS := Lib.hid (fun W (h : TArg W A c ts) (h' : TArg W A' c' us) => K.same A c ts A' c' us W h h')
      rw [h1] at HF
      rw [h2] at HF'
      have key : Hid (serr ts n = 0 → serr us m = 0 → (sputE ts n == sputE us m) = (decide (ts = us) && (n == m))) := Lib.hid (fun z1 z2 => by
        rw [show sputE ts n = sput ts n from if_pos z1, show sputE us m = sput us m from if_pos z2]
        by_cases q : ts = us ∧ n = m
        · obtain ⟨rfl, rfl⟩ := q
          simp
        · have hne : ¬ sput ts n = sput us m := fun e => q (sput_inj (serr_zero.1 z1) (serr_zero.1 z2) h64 h64' e)
          rw [show (decide (ts = us) && (n == m)) = false by
            rw [Bool.and_eq_false_iff]
            by_cases z : ts = us
            · right; rw [beq_eq_false_iff_ne]; exact fun e => q ⟨z, e⟩
            · left; exact decide_eq_false z]
          rw [beq_eq_false_iff_ne]
          exact hne)
      clear hR hR' h1 h2
      generalize sputE ts n = X at *
      generalize sputE us m = Y at *
      generalize serr ts n = E at *
      generalize serr us m = E' at *
      by_cases hE : E = 0
      · subst hE
        by_cases hE' : E' = 0
        · subst hE'
          have HKE := Lib.hid (key.out rfl rfl)
          clear key
          by_cases hb : decide (ts = us) = true
          · rw [hb] at HS HKE
            clear hb
            go_enter Try.func6, Try.ntmps6
            go_wp2_with (first
              | (go_at_call 7; refine HK.out.mono ?_; rintro e w1 ⟨rfl, hb1⟩)
              | (go_at_call 8; first
                  | ((with_reducible refine (HF.out _ (HR.out.at hb1)).mono ?_); rintro e w2 ⟨rfl, rfl⟩)
                  | ((with_reducible refine (HF'.out _ (HR'.out.at hb1)).mono ?_); rintro e w2 ⟨rfl, rfl⟩)
                  | fail)
              | (go_at_call 13; first
                  | ((with_reducible refine (HP.out _ (HT.out.at hb1)).mono ?_); rintro e w3 ⟨rfl, hb3⟩; have hb3 := hb1.trans (hb3.mono hb1.size))
                  | ((with_reducible refine (HP'.out _ (HT'.out.at hb3)).mono ?_); rintro e w4 ⟨rfl, hb4⟩; have hb4 := hb3.trans (hb4.mono hb3.size))
                  | fail)
              | (go_at_call 12; refine (HS.out _ (HT.out.at hb4) (HT'.out.at hb4)).mono ?_; rintro e w5 ⟨rfl, hb5⟩; have hb5 := hb4.trans (hb5.mono hb4.size))
              | fail)
            go_ret
            refine ⟨?_, hb5⟩
            show Ending.returned (.bool ((X == Y) == (n == m))) = _
            rw [HKE.out]
            simp
          · rw [show decide (ts = us) = false by simpa using hb] at HS HKE
            clear hb
            go_enter Try.func6, Try.ntmps6
            go_wp2_with (first
              | (go_at_call 7; refine HK.out.mono ?_; rintro e w1 ⟨rfl, hb1⟩)
              | (go_at_call 8; first
                  | ((with_reducible refine (HF.out _ (HR.out.at hb1)).mono ?_); rintro e w2 ⟨rfl, rfl⟩)
                  | ((with_reducible refine (HF'.out _ (HR'.out.at hb1)).mono ?_); rintro e w2 ⟨rfl, rfl⟩)
                  | fail)
              | (go_at_call 13; first
                  | ((with_reducible refine (HP.out _ (HT.out.at hb1)).mono ?_); rintro e w3 ⟨rfl, hb3⟩; have hb3 := hb1.trans (hb3.mono hb1.size))
                  | ((with_reducible refine (HP'.out _ (HT'.out.at hb3)).mono ?_); rintro e w4 ⟨rfl, hb4⟩; have hb4 := hb3.trans (hb4.mono hb3.size))
                  | fail)
              | (go_at_call 12; refine (HS.out _ (HT.out.at hb4) (HT'.out.at hb4)).mono ?_; rintro e w5 ⟨rfl, hb5⟩; have hb5 := hb4.trans (hb5.mono hb4.size))
              | fail)
            go_ret
            refine ⟨?_, hb5⟩
            show Ending.returned (.bool (!(X == Y))) = _
            rw [HKE.out]
            simp
        · have e0 : (E' == 0) = false := by simpa using hE'
          clear key
          go_enter Try.func6, Try.ntmps6
          go_wp2_with (first
              | (go_at_call 7; refine HK.out.mono ?_; rintro e w1 ⟨rfl, hb1⟩)
              | (go_at_call 8; first
                  | ((with_reducible refine (HF.out _ (HR.out.at hb1)).mono ?_); rintro e w2 ⟨rfl, rfl⟩)
                  | ((with_reducible refine (HF'.out _ (HR'.out.at hb1)).mono ?_); rintro e w2 ⟨rfl, rfl⟩)
                  | fail)
              | (go_at_call 13; first
                  | ((with_reducible refine (HP.out _ (HT.out.at hb1)).mono ?_); rintro e w3 ⟨rfl, hb3⟩; have hb3 := hb1.trans (hb3.mono hb1.size))
                  | ((with_reducible refine (HP'.out _ (HT'.out.at hb3)).mono ?_); rintro e w4 ⟨rfl, hb4⟩; have hb4 := hb3.trans (hb4.mono hb3.size))
                  | fail)
              | fail)
          go_ret
          exact ⟨rfl, hb4⟩
      · have e0 : (E == 0) = false := by simpa using hE
        clear key
        go_enter Try.func6, Try.ntmps6
        go_wp2_with (first
              | (go_at_call 7; refine HK.out.mono ?_; rintro e w1 ⟨rfl, hb1⟩)
              | (go_at_call 8; first
                  | ((with_reducible refine (HF.out _ (HR.out.at hb1)).mono ?_); rintro e w2 ⟨rfl, rfl⟩)
                  | ((with_reducible refine (HF'.out _ (HR'.out.at hb1)).mono ?_); rintro e w2 ⟨rfl, rfl⟩)
                  | fail)
              | (go_at_call 13; first
                  | ((with_reducible refine (HP.out _ (HT.out.at hb1)).mono ?_); rintro e w3 ⟨rfl, hb3⟩; have hb3 := hb1.trans (hb3.mono hb1.size))
                  | ((with_reducible refine (HP'.out _ (HT'.out.at hb3)).mono ?_); rintro e w4 ⟨rfl, hb4⟩; have hb4 := hb3.trans (hb4.mono hb3.size))
                  | fail)
              | fail)
        go_ret
        exact ⟨rfl, hb4⟩
    · rw [h1] at HF
      rw [show fewT us = false by simpa using h2] at HF'
      clear hR hR' h1 h2
      go_enter Try.func6, Try.ntmps6
      go_wp2_with (first
              | (go_at_call 7; refine HK.out.mono ?_; rintro e w1 ⟨rfl, hb1⟩)
              | (go_at_call 8; first
                  | ((with_reducible refine (HF.out _ (HR.out.at hb1)).mono ?_); rintro e w2 ⟨rfl, rfl⟩)
                  | ((with_reducible refine (HF'.out _ (HR'.out.at hb1)).mono ?_); rintro e w2 ⟨rfl, rfl⟩)
                  | fail)
              | fail)
      go_ret
      exact ⟨rfl, hb1⟩
  · rw [show fewT ts = false by simpa using h1] at HF
    clear hR hR' h1
    go_enter Try.func6, Try.ntmps6
    go_wp2_with (first
              | (go_at_call 7; refine HK.out.mono ?_; rintro e w1 ⟨rfl, hb1⟩)
              | (go_at_call 8; first
                  | ((with_reducible refine (HF.out _ (HR.out.at hb1)).mono ?_); rintro e w2 ⟨rfl, rfl⟩)
                  | ((with_reducible refine (HF'.out _ (HR'.out.at hb1)).mono ?_); rintro e w2 ⟨rfl, rfl⟩)
                  | fail)
              | fail)
    go_ret
    exact ⟨rfl, hb1⟩

end Go.Proofs.Ytlecofghifjmcaa.Suite
