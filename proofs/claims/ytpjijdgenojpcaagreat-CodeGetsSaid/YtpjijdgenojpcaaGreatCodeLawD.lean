/-
  The laws of layer 10, walked: a program's bytes, and the program of bytes, are just what the document says.
-/
import Derived.Test.YtpjijdgenojpcaaGreatCodeRefG
import Derived.Test.YtpjijdgenojpcaaGreatCodeWorks
import Derived.Test.YtpjijdgenojpcaaGreatCodeH
import Derived.Test.YtpjijdgenojpcaaGreatKindsG
import Derived.Test.YtpjijdgenojpcaaGreatCodeG
namespace Go.Proofs.YtpjijdgenojpcaaGreat.Code
open Go.RowKit Leb Mem Wire _root_.Go.Proofs.YtpjijdgenojpcaaGreat.Arena _root_.Go.Proofs.YtpjijdgenojpcaaGreat.Kinds
set_option linter.unusedVariables false
attribute [local go_sem ↓] Go.wp_at_zero Go.wp_at_succ

set_option maxRecDepth 100000 in
set_option maxHeartbeats 2000000 in
theorem codePuts_walk (p : Prg) (w : World) (hpn : p.In w ∧ NB p.xs) :
    Calls Tryz.prog 3 #[.agg #[.int .i64 p.ps, .slice p.A p.vs.length p.c, .slice p.B p.xs.length p.e]] w fun e w' => e = .returned (.bool true) ∧ Below w.heap.size w w' := by
  obtain ⟨hp, hnb⟩ := hpn
  have hB0 : Below w.heap.size w (w.alloc (.cells #[.int .i64 p.ps, .slice p.A p.vs.length p.c, .slice p.B p.xs.length p.e] 25)) := (Below.refl _ _).alloc (Nat.le_refl _) _
  have bX := Blk.new w 25 #[.int .i64 p.ps, .slice p.A p.vs.length p.c, .slice p.B p.xs.length p.e]
  have hi := hp.at hB0
  obtain ⟨w0, hw0⟩ : ∃ w0, w.alloc (.cells #[.int .i64 p.ps, .slice p.A p.vs.length p.c, .slice p.B p.xs.length p.e] 25) = w0 := ⟨_, rfl⟩
  rw [hw0] at hB0 bX hi
  have hgl := bX.lt
  have HBX := Lib.hid (fun W (h : Below w0.heap.size w0 W) => (bX.below h hgl).three)
  have HP := Lib.hid hi
  have HW0 := Lib.hid hw0
  have HW := Lib.hid (fun W => works_any pkg W)
  have HF := Lib.hid (fun W => show Calls Tryz.prog 6 #[.agg #[.int .i64 p.ps, .slice p.A p.vs.length p.c, .slice p.B p.xs.length p.e]] W (fun e w' => e = .returned (.bool (fewB p)) ∧ Below W.heap.size W w') from ref_Few_any p W)
  clear hp bX hw0 hi
  cases hf : fewB p with
  | false =>
    rw [hf] at HF
    go_enter Tryz.func3, Tryz.ntmps3
    go_wp2_with (first
      | (go_at_call 5; rw [HW0.out]; refine (HW.out _).mono ?_; rintro e w2 ⟨rfl, hb2⟩; obtain ⟨b0, b1, b2⟩ := HBX.out _ hb2)
      | (go_at_call 6; refine (HF.out _).mono ?_; rintro e w3 ⟨rfl, hb⟩; have hb3 := hb2.trans (hb.mono hb2.size)))
    go_ret
    exact ⟨rfl, hB0.trans (hb3.mono hB0.size)⟩
  | true =>
    rw [hf] at HF
    obtain ⟨q1, q2⟩ := few_ok hf
    have HQ := Lib.hid (fun W (h : p.Ok W) => pkg.put p W h hnb)
    have HK := Lib.hid (fun W (h : p.Ok W) => ref_Put_any p hnb W h)
    generalize pcheck p.ps p.vs p.xs = c at *
    generalize (⟨(pput p.ps p.vs p.xs).toArray⟩ : ByteArray) = S at *
    clear hnb
    go_enter Tryz.func3, Tryz.ntmps3
    go_wp2_with (first
      | (go_at_call 5; rw [HW0.out]; refine (HW.out _).mono ?_; rintro e w2 ⟨rfl, hb2⟩; obtain ⟨b0, b1, b2⟩ := HBX.out _ hb2)
      | (go_at_call 6; refine (HF.out _).mono ?_; rintro e w3 ⟨rfl, hb⟩; have hb3 := hb2.trans (hb.mono hb2.size); obtain ⟨b0, b1, b2⟩ := HBX.out _ hb3)
      | (go_at_call 7; refine (HQ.out _ ((HP.out.at hb3).ok q1 q2)).mono ?_; rintro e w4 ⟨rfl, hb⟩; have hb4 := hb3.trans (hb.mono hb3.size); obtain ⟨b0, b1, b2⟩ := HBX.out _ hb4)
      | (go_at_call 8; refine (HK.out _ ((HP.out.at hb4).ok q1 q2)).mono ?_; rintro e w5 ⟨rfl, hb⟩; have hb5 := hb4.trans (hb.mono hb4.size)))
    go_ret
    exact ⟨ret_true (by simp), hB0.trans (hb5.mono hB0.size)⟩

set_option maxRecDepth 100000 in
set_option maxHeartbeats 2000000 in
theorem codeGets_walk (S : ByteArray) (hm : S.size ≤ maxLen) (w : World) :
    Calls Tryz.prog 4 #[.string S] w fun e w' => e = .returned (.bool true) ∧ Below w.heap.size w w' := by
  have HW := Lib.hid (fun W => works_any pkg W)
  by_cases hs : 300 < S.size
  · have j1 : (300 : Int) < (S.size : Int) := by omega
    go_enter Tryz.func4, Tryz.ntmps4
    go_wp2_with (go_at_call 5; refine (HW.out _).mono ?_; rintro e w2 ⟨rfl, hb2⟩)
    go_ret
    exact ⟨rfl, hb2⟩
  have j1 : ¬ (300 : Int) < (S.size : Int) := by omega
  have both : ∀ (ps : Int) (vs : List Int) (xs : List Nd) (er : Int),
      (∀ W e w', GetEnds S W e w' → Below W.heap.size W w' ∧ ∃ A c B ce, e = .returned (.tuple #[.agg #[.int .i64 ps, .slice A vs.length c, .slice B xs.length ce], .int .i64 er]) ∧ Prg.Ok ⟨ps, A, c, vs, B, ce, xs⟩ w') →
      Calls Tryz.prog 4 #[.string S] w fun e w' => e = .returned (.bool true) ∧ Below w.heap.size w w' := by
    intro ps vs xs er hE
    have HG := Lib.hid (fun W => (pkg.get S W (by omega)).mono (fun e w' h => hE W e w' h))
    have HR := Lib.hid (fun W => (ref_Get_any S W (by omega)).mono (fun e w' h => hE W e w' h))
    have HSM := Lib.hid (fun A c B ce A' c' B' ce' W (h : Prg.Ok ⟨ps, A, c, vs, B, ce, xs⟩ W) (h' : Prg.Ok ⟨ps, A', c', vs, B', ce', xs⟩ W) => show Calls Tryz.prog 11 #[.agg #[.int .i64 ps, .slice A vs.length c, .slice B xs.length ce], .agg #[.int .i64 ps, .slice A' vs.length c', .slice B' xs.length ce']] W (fun e w' => e = .returned (.bool true) ∧ Below W.heap.size W w') from (by
      have q := Kinds.ref_Same_any ⟨ps, A, c, vs, B, ce, xs⟩ ⟨ps, A', c', vs, B', ce', xs⟩ W h h'
      simp only [and_self, decide_true] at q
      exact q))
    clear hE
    go_enter Tryz.func4, Tryz.ntmps4
    go_wp2_with (go_at_call 5; refine (HW.out _).mono ?_; rintro e w2 ⟨rfl, hb2⟩)
    refine (HG.out _).mono ?_
    rintro e w3 ⟨hb, A, c, B, ce, rfl, hok⟩
    have hb3 := hb2.trans (hb.mono hb2.size)
    have hBa : Below w3.heap.size w3 (w3.alloc (.cells #[.int .i64 ps, .slice A vs.length c, .slice B xs.length ce] 25)) := (Below.refl _ _).alloc (Nat.le_refl _) _
    have hb4 := hb3.trans (hBa.mono hb3.size)
    have hok4 := hok.at hBa
    have bY := Blk.new w3 25 #[.int .i64 ps, .slice A vs.length c, .slice B xs.length ce]
    go_wp2_with fail
    generalize w3.alloc (.cells #[.int .i64 ps, .slice A vs.length c, .slice B xs.length ce] 25) = w4 at *
    have hly := bY.lt
    refine (HR.out _).mono ?_
    rintro e w5 ⟨hb, A', c', B', ce', rfl, hok'⟩
    have hBb : Below w5.heap.size w5 (w5.alloc (.cells #[.int .i64 ps, .slice A' vs.length c', .slice B' xs.length ce'] 25)) := (Below.refl _ _).alloc (Nat.le_refl _) _
    have h46 := hb.trans (hBb.mono hb.size)
    have hb6 := hb4.trans (h46.mono hb4.size)
    have hok6 := hok4.at h46
    have hok6' := hok'.at hBb
    obtain ⟨c0, c1, c2⟩ := (bY.below h46 hly).three
    obtain ⟨d0, d1, d2⟩ := (Blk.new w5 25 #[.int .i64 ps, .slice A' vs.length c', .slice B' xs.length ce']).three
    go_wp2_with (go_at_call 11; refine (HSM.out _ _ _ _ _ _ _ _ _ hok6 hok6').mono ?_; rintro e w7 ⟨rfl, hb7⟩)
    go_ret
    exact ⟨ret_true (by simp), hb6.trans (hb7.mono hb6.size)⟩
  by_cases hf : fits S
  · have hr : (rd S).1 = ((rd S).1.1, (rd S).1.2.1, (rd S).1.2.2) := rfl
    exact both _ _ _ 0 (fun W e w' h => h.ok hf hr)
  · exact both 0 [] [] 12 (fun W e w' h => h.no hf)

end Go.Proofs.YtpjijdgenojpcaaGreat.Code
