/-
  The laws of tests that go by the document's answer: may they be, are they alike; tests as bytes, the tests of bytes.
-/
import Derived.Test.YtlecofghifjmcaaSuitePkg
import Derived.Deep.RegionHeld3
import Derived.Deep.DrawnRows
set_option linter.unusedVariables false
namespace Go.Proofs.Ytlecofghifjmcaa.Suite
open Go.RowKit Leb Mem Wire Zig _root_.Go.Proofs.Ytlecofghifjmcaa.Arena _root_.Go.Proofs.Ytlecofghifjmcaa.Delta _root_.Go.Proofs.Ytlecofghifjmcaa.Path _root_.Go.Proofs.Ytlecofghifjmcaa.Cat _root_.Go.Proofs.Ytlecofghifjmcaa.Code
attribute [local go_sem ↓] Go.wp_at_zero Go.wp_at_succ

set_option maxRecDepth 100000 in
set_option maxHeartbeats 4000000 in
theorem suiteChecks_of (K : SuPkg) (HWk : Works) (n : Int) (A : Option Addr) (c : Nat) (ts : List (List Int)) (hc : ts.length ≤ c) (hA : A = none → c = 0) (A' : Option Addr) (c' : Nat) (us : List (List Int)) (hc' : us.length ≤ c') (hA' : A' = none → c' = 0) (f : Int) (w : World) (hR : TRow w A ts) (hR' : TRow w A' us) :
    Calls Try.prog 3 #[.int .i64 n, .slice A ts.length c, .slice A' us.length c', .int .i64 f] w fun e w' => e = .returned (.bool true) ∧ Below w.heap.size w w' := by
  have HK := Lib.hid (HWk w)
  have HF := Lib.hid (fun W (h : TRow W A ts) => ref_Few_any A c ts W h)
  have HF' := Lib.hid (fun W (h : TRow W A' us) => ref_Few_any A' c' us W h)
  have HR := Lib.hid hR
  have HR' := Lib.hid hR'
  by_cases h1 : fewT ts = true
  · by_cases h2 : fewT us = true
    · have HT := Lib.hid (targ_of hR hc hA h1)
      have HT' := Lib.hid (targ_of hR' hc' hA' h2)
      have HS := Lib.hid (fun W (h : TArg W A c ts) (h' : TArg W A' c' us) => ref_TSame_any A c ts A' c' us W h.row h'.row h.n h.m)
      have HS2 := Lib.hid (fun W (h : TArg W A c ts) (h' : TArg W A' c' us) => K.same A c ts A' c' us W h h')
      have HC := Lib.hid (fun W (h : TArg W A c ts) => K.check n A c ts f W h)
      have HC2 := Lib.hid (fun W (h : TArg W A c ts) => ref_SCheck_any n A c ts f W h.row)
      rw [h1] at HF
      rw [h2] at HF'
      generalize decide (ts = us) = b at *
      generalize scheck n ts f = q at *
      clear hR hR' h1 h2
      go_enter Try.func3, Try.ntmps3
      go_wp2_with (first
        | (go_at_call 7; refine HK.out.mono ?_; rintro e w1 ⟨rfl, hb1⟩)
        | (go_at_call 8; first
            | ((with_reducible refine (HF.out _ (HR.out.at hb1)).mono ?_); rintro e w2 ⟨rfl, rfl⟩)
            | ((with_reducible refine (HF'.out _ (HR'.out.at hb1)).mono ?_); rintro e w2 ⟨rfl, rfl⟩)
            | fail)
        | (go_at_call 9; refine (HS.out _ (HT.out.at hb1) (HT'.out.at hb1)).mono ?_; rintro e w3 ⟨rfl, hb3⟩; have hb3 := hb1.trans (hb3.mono hb1.size))
        | (go_at_call 10; refine (HC.out _ (HT.out.at hb3)).mono ?_; rintro e w4 ⟨rfl, hb4⟩; have hb4 := hb3.trans (hb4.mono hb3.size))
        | (go_at_call 11; refine (HC2.out _ (HT.out.at hb4)).mono ?_; rintro e w5 ⟨rfl, rfl⟩)
        | (go_at_call 12; refine (HS2.out _ (HT.out.at hb4) (HT'.out.at hb4)).mono ?_; rintro e w6 ⟨rfl, hb6⟩; have hb6 := hb4.trans (hb6.mono hb4.size))
        | fail)
      go_ret
      exact ⟨by simp, hb6⟩
    · rw [h1] at HF
      rw [show fewT us = false by simpa using h2] at HF'
      clear hR hR' h1 h2
      go_enter Try.func3, Try.ntmps3
      go_wp2_with (first
        | (go_at_call 7; refine HK.out.mono ?_; rintro e w1 ⟨rfl, hb1⟩)
        | (go_at_call 8; first
            | ((with_reducible refine (HF.out _ (HR.out.at hb1)).mono ?_); rintro e w2 ⟨rfl, rfl⟩)
            | ((with_reducible refine (HF'.out _ (HR'.out.at hb1)).mono ?_); rintro e w2 ⟨rfl, rfl⟩)
            | fail)
        | fail)
      go_ret
      exact ⟨rfl, hb1⟩
  · rw [show fewT ts = false by simpa using h1] at HF
    clear hR hR' h1
    go_enter Try.func3, Try.ntmps3
    go_wp2_with (first
      | (go_at_call 7; refine HK.out.mono ?_; rintro e w1 ⟨rfl, hb1⟩)
      | (go_at_call 8; first
          | ((with_reducible refine (HF.out _ (HR.out.at hb1)).mono ?_); rintro e w2 ⟨rfl, rfl⟩)
          | ((with_reducible refine (HF'.out _ (HR'.out.at hb1)).mono ?_); rintro e w2 ⟨rfl, rfl⟩)
          | fail)
      | fail)
    go_ret
    exact ⟨rfl, hb1⟩

set_option maxRecDepth 100000 in
set_option maxHeartbeats 4000000 in
theorem suiteBytes_of (K : SuPkg) (HWk : Works) (A : Option Addr) (c : Nat) (ts : List (List Int)) (hc : ts.length ≤ c) (hA : A = none → c = 0) (h64 : T64 ts) (f : Int) (hf : N64 f) (S : ByteArray) (w : World) (hR : TRow w A ts) :
    Calls Try.prog 4 #[.slice A ts.length c, .int .i64 f, .string S] w fun e w' => e = .returned (.bool true) ∧ Below w.heap.size w w' := by
  have HK := Lib.hid (HWk w)
  have HF := Lib.hid (fun W (h : TRow W A ts) => ref_Few_any A c ts W h)
  have HR := Lib.hid hR
  by_cases h1 : fewT ts = true
  · by_cases h2 : 500 < S.size
    · have i1 : (500 : Int) < (S.size : Int) := by omega
      rw [h1] at HF
      clear hR h1 h2
      go_enter Try.func4, Try.ntmps4
      go_wp2_with (first
        | (go_at_call 7; refine HK.out.mono ?_; rintro e w1 ⟨rfl, hb1⟩)
        | (go_at_call 8; (with_reducible refine (HF.out _ (HR.out.at hb1)).mono ?_); rintro e w2 ⟨rfl, rfl⟩)
        | fail)
      go_ret
      exact ⟨rfl, hb1⟩
    · have i1 : ¬ (500 : Int) < (S.size : Int) := by omega
      have HT := Lib.hid (targ_of hR hc hA h1)
      have HP := Lib.hid (fun W (h : TArg W A c ts) => K.put A c ts f W h h64 hf)
      have HP2 := Lib.hid (fun W (h : TArg W A c ts) => ref_SPut_any A c ts f W h.row h64)
      have HG := Lib.hid (fun W => (K.get S W (by omega)).mono fun e w' q => q.one)
      have HG2 := Lib.hid (fun W => (ref_SGet_any S W (by omega)).mono fun e w' q => q.one)
      have HS := Lib.hid (fun A c A' c' W (h : TRow W A (gts S)) (h' : TRow W A' (gts S)) => ref_TSame_any A c (gts S) A' c' (gts S) W h h' (by have := gts_len S; omega) (fun t ht => by have := gts_wid S t ht; omega))
      rw [show decide (gts S = gts S) = true from decide_eq_true rfl] at HS
      rw [h1] at HF
      generalize gts S = T at *
      generalize gf S = g at *
      generalize ge S = q at *
      generalize sputE ts f = B at *
      generalize serr ts f = E at *
      clear hR h1 h2
      go_enter Try.func4, Try.ntmps4
      go_wp2_with (first
        | (go_at_call 7; refine HK.out.mono ?_; rintro e w1 ⟨rfl, hb1⟩)
        | (go_at_call 8; (with_reducible refine (HF.out _ (HR.out.at hb1)).mono ?_); rintro e w2 ⟨rfl, rfl⟩)
        | (go_at_call 13; refine (HP.out _ (HT.out.at hb1)).mono ?_; rintro e w3 ⟨rfl, hb3⟩; have hb3 := hb1.trans (hb3.mono hb1.size))
        | (go_at_call 14; refine (HP2.out _ (HT.out.at hb3)).mono ?_; rintro e w4 ⟨rfl, hb4⟩; have hb4 := hb3.trans (hb4.mono hb3.size))
        | (go_at_call 15; refine (HG.out _).mono ?_; rintro e w5 ⟨hb5, A5, c5, rfl, hT5⟩; have hB5 := hb4.trans (hb5.mono hb4.size))
        | (go_at_call 16; refine (HG2.out _).mono ?_; rintro e w6 ⟨hb6, A6, c6, rfl, hT6⟩; have hB6 := hB5.trans (hb6.mono hB5.size))
        | (go_at_call 9; refine (HS.out _ _ _ _ _ (hT5.at hb6) hT6).mono ?_; rintro e w7 ⟨rfl, hb7⟩; have hB7 := hB6.trans (hb7.mono hB6.size))
        | fail)
      go_ret
      exact ⟨by simp, hB7⟩
  · rw [show fewT ts = false by simpa using h1] at HF
    clear hR h1
    go_enter Try.func4, Try.ntmps4
    go_wp2_with (first
      | (go_at_call 7; refine HK.out.mono ?_; rintro e w1 ⟨rfl, hb1⟩)
      | (go_at_call 8; (with_reducible refine (HF.out _ (HR.out.at hb1)).mono ?_); rintro e w2 ⟨rfl, rfl⟩)
      | fail)
    go_ret
    exact ⟨rfl, hb1⟩

end Go.Proofs.Ytlecofghifjmcaa.Suite
