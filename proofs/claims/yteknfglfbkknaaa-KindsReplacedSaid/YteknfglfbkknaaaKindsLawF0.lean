/-
  The laws of layer 9, walked on what the package's functions come to: a part of the same kind and tag instead.
-/
import Derived.Test.YteknfglfbkknaaaKindsLawA
import Derived.Test.YteknfglfbkknaaaKindsMath2
namespace Go.Proofs.Yteknfglfbkknaaa.Kinds
open Go.RowKit Mem _root_.Go.Proofs.Yteknfglfbkknaaa.Arena
set_option linter.unusedVariables false
attribute [local go_sem ↓] Go.wp_at_zero Go.wp_at_succ

theorem whole_end {ys : List Nd} (h : aend ys 0 = ys.length) : scan 1 ys = some ys.length := by
  rcases aend_cases ys 0 with h' | ⟨k, n, hk, hs, he, -⟩
  · rw [h'] at h; omega
  · obtain rfl : k = 0 := by omega
    rw [List.drop_zero] at hs
    rw [he] at h
    rw [hs]; congr 1; omega

set_option maxRecDepth 100000 in
set_option maxHeartbeats 4000000 in
/-- Where there is nothing to be asked. -/
theorem replaced_idle (C : Pkg) (ps : Int) (A : Option Addr) (c : Nat) (vs : List Int) (B : Option Addr) (ce : Nat) (xs : List Nd) (a : Int) (A2 : Option Addr) (c2 : Nat) (ms : List Nd) (w : World) (hp : Prg.In ⟨ps, A, c, vs, B, ce, xs⟩ w)
    (h : fewB (⟨ps, A, c, vs, B, ce, xs⟩ : Prg) = false ∨ 60 < ms.length ∨ pcheck ps vs xs ≠ 0 ∨ a < 0 ∨ (xs.length : Int) ≤ a) :
    Calls Try.prog 6 #[.agg #[.int .i64 ps, .slice A vs.length c, .slice B xs.length ce], .int .i64 a, .slice A2 ms.length c2] w fun e w' => e = .returned (.bool true) ∧ Below w.heap.size w w' := by
  have hB0 : Below w.heap.size w (w.alloc (.cells #[.int .i64 ps, .slice A vs.length c, .slice B xs.length ce] 25)) := (Below.refl _ _).alloc (Nat.le_refl _) _
  have bX := Blk.new w 25 #[.int .i64 ps, .slice A vs.length c, .slice B xs.length ce]
  have HP := Lib.hid (hp.at hB0)
  have hgl := bX.lt
  have HBX := Lib.hid (fun W (h : Below (w.alloc (.cells #[.int .i64 ps, .slice A vs.length c, .slice B xs.length ce] 25)).heap.size (w.alloc (.cells #[.int .i64 ps, .slice A vs.length c, .slice B xs.length ce] 25)) W) => (bX.below h hgl).three)
  have HW := Lib.hid (fun W => works_any C W)
  have HF := Lib.hid (fun W => show Calls Try.prog 10 #[.agg #[.int .i64 ps, .slice A vs.length c, .slice B xs.length ce]] W (fun e w' => e = .returned (.bool (fewB (⟨ps, A, c, vs, B, ce, xs⟩ : Prg))) ∧ Below W.heap.size W w') from ref_Few_any (⟨ps, A, c, vs, B, ce, xs⟩ : Prg) W)
  have HCK := Lib.hid (fun W (h : (⟨ps, A, c, vs, B, ce, xs⟩ : Prg).Ok W) => show Calls Try.prog 12 #[.agg #[.int .i64 ps, .slice A vs.length c, .slice B xs.length ce]] W (fun e w' => e = .returned (.int .i64 (pcheck ps vs xs)) ∧ Below W.heap.size W w') from C.check (⟨ps, A, c, vs, B, ce, xs⟩ : Prg) W h)
  obtain ⟨b0, b1, b2⟩ := HBX.out _ (Below.refl _ _)
  have HIDE := Lib.hid h
  clear hp bX h
  cases hf : fewB (⟨ps, A, c, vs, B, ce, xs⟩ : Prg) with
  | false =>
    rw [hf] at HF
    go_enter Try.func6, Try.ntmps6
    go_wp2_with (first
      | (go_at_call 9; refine (HW.out _).mono ?_; rintro e w2 ⟨rfl, hb2⟩; obtain ⟨b0, b1, b2⟩ := HBX.out _ hb2)
      | (go_at_call 10; refine (HF.out _).mono ?_; rintro e w3 ⟨rfl, hb⟩; have hb3 := hb2.trans (hb.mono hb2.size); obtain ⟨b0, b1, b2⟩ := HBX.out _ hb3))
    go_ret
    exact ⟨rfl, hB0.trans (hb3.mono hB0.size)⟩
  | true =>
    rw [hf] at HF
    obtain ⟨q1, q2⟩ := few_ok hf
    by_cases hl : 60 < ms.length
    · have i0 : ¬ (ms.length : Int) ≤ 60 := by omega
      go_enter Try.func6, Try.ntmps6
      go_wp2_with (first
        | (go_at_call 9; refine (HW.out _).mono ?_; rintro e w2 ⟨rfl, hb2⟩; obtain ⟨b0, b1, b2⟩ := HBX.out _ hb2)
        | (go_at_call 10; refine (HF.out _).mono ?_; rintro e w3 ⟨rfl, hb⟩; have hb3 := hb2.trans (hb.mono hb2.size); obtain ⟨b0, b1, b2⟩ := HBX.out _ hb3))
      go_ret
      exact ⟨rfl, hB0.trans (hb3.mono hB0.size)⟩
    have i0 : (ms.length : Int) ≤ 60 := by omega
    by_cases hc : pcheck ps vs xs = 0
    rotate_left
    · obtain ⟨c, hcc⟩ : ∃ c, pcheck ps vs xs = c := ⟨_, rfl⟩
      rw [hcc] at HCK hc
      have e1 : (c == 0) = false := by simpa using hc
      have e2 : (c != 0) = true := by simpa using hc
      clear hcc hc
      go_enter Try.func6, Try.ntmps6
      go_wp2_with (first
        | (go_at_call 9; refine (HW.out _).mono ?_; rintro e w2 ⟨rfl, hb2⟩; obtain ⟨b0, b1, b2⟩ := HBX.out _ hb2)
        | (go_at_call 10; refine (HF.out _).mono ?_; rintro e w3 ⟨rfl, hb⟩; have hb3 := hb2.trans (hb.mono hb2.size); obtain ⟨b0, b1, b2⟩ := HBX.out _ hb3)
        | (go_at_call 12; have hP3 := (HP.out.at hb3).ok q1 q2; refine (HCK.out _ hP3).mono ?_; rintro e w4 ⟨rfl, hb⟩; have hP4 := hP3.at hb; have hb4 := hb3.trans (hb.mono hb3.size); obtain ⟨b0, b1, b2⟩ := HBX.out _ hb4))
      go_ret
      exact ⟨rfl, hB0.trans (hb4.mono hB0.size)⟩
    rw [hc] at HCK
    have HC0 := Lib.hid hc
    have HF0 := Lib.hid hf
    clear hc hf hl
    by_cases h0 : a < 0
    · go_enter Try.func6, Try.ntmps6
      go_wp2_with (first
        | (go_at_call 9; refine (HW.out _).mono ?_; rintro e w2 ⟨rfl, hb2⟩; obtain ⟨b0, b1, b2⟩ := HBX.out _ hb2)
        | (go_at_call 10; refine (HF.out _).mono ?_; rintro e w3 ⟨rfl, hb⟩; have hb3 := hb2.trans (hb.mono hb2.size); obtain ⟨b0, b1, b2⟩ := HBX.out _ hb3)
        | (go_at_call 12; have hP3 := (HP.out.at hb3).ok q1 q2; refine (HCK.out _ hP3).mono ?_; rintro e w4 ⟨rfl, hb⟩; have hP4 := hP3.at hb; have hb4 := hb3.trans (hb.mono hb3.size); obtain ⟨b0, b1, b2⟩ := HBX.out _ hb4))
      go_ret
      exact ⟨rfl, hB0.trans (hb4.mono hB0.size)⟩
    have i1 : (xs.length : Int) ≤ a := by
      rcases HIDE.out with h | h | h | h | h
      · rw [HF0.out] at h; cases h
      · omega
      · exact absurd HC0.out h
      · exact absurd h h0
      · exact h
    go_enter Try.func6, Try.ntmps6
    go_wp2_with (first
      | (go_at_call 9; refine (HW.out _).mono ?_; rintro e w2 ⟨rfl, hb2⟩; obtain ⟨b0, b1, b2⟩ := HBX.out _ hb2)
      | (go_at_call 10; refine (HF.out _).mono ?_; rintro e w3 ⟨rfl, hb⟩; have hb3 := hb2.trans (hb.mono hb2.size); obtain ⟨b0, b1, b2⟩ := HBX.out _ hb3)
      | (go_at_call 12; have hP3 := (HP.out.at hb3).ok q1 q2; refine (HCK.out _ hP3).mono ?_; rintro e w4 ⟨rfl, hb⟩; have hP4 := hP3.at hb; have hb4 := hb3.trans (hb.mono hb3.size); obtain ⟨b0, b1, b2⟩ := HBX.out _ hb4))
    go_ret
    exact ⟨rfl, hB0.trans (hb4.mono hB0.size)⟩

end Go.Proofs.Yteknfglfbkknaaa.Kinds
