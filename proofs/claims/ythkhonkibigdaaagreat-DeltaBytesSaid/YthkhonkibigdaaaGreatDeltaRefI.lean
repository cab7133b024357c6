/-
  The reference of deltas, walked: the delta of bytes.
-/
import Derived.Test.YthkhonkibigdaaaGreatDeltaRefH
namespace Go.Proofs.YthkhonkibigdaaaGreat.Delta
open Go.RowKit Leb Mem Wire _root_.Go.Proofs.YthkhonkibigdaaaGreat.Arena _root_.Go.Proofs.YthkhonkibigdaaaGreat.Kinds _root_.Go.Proofs.YthkhonkibigdaaaGreat.Code _root_.Go.Proofs.YthkhonkibigdaaaGreat.Path
set_option linter.unusedVariables false
attribute [local go_sem ↓] Go.wp_at_zero Go.wp_at_succ

theorem dzero_ok (w : World) : Dlt.Ok ⟨none, 0, [], 0, 0⟩ w := ⟨fun i x h => by simp at h, by simp, by simp, fun _ => rfl⟩
/-- Stores into a variable leave a row that lies elsewhere. -/
theorem row_else {w : World} {R : Nat} {A : Option Addr} {ks : List Int} (h : IRow w w.heap.size A ks) (hR : ∀ ad, A = some ad → ad.block ≠ R) (v0 v1 v2 : Value) :
    IRow (((w.setCell ⟨R, 0, none⟩ v0).setCell ⟨R, 1, none⟩ v1).setCell ⟨R, 2, none⟩ v2) (((w.setCell ⟨R, 0, none⟩ v0).setCell ⟨R, 1, none⟩ v1).setCell ⟨R, 2, none⟩ v2).heap.size A ks := by
  intro i x hx
  obtain ⟨ad, e, hlt, h1⟩ := h i x hx
  have hne := hR ad e
  refine ⟨ad, e, by simp only [World.size_setCell]; omega, ?_⟩
  rw [← h1]
  refine World.cell?_of_block ?_
  rw [add_blockN, Below.heap_setCell _ _ _ _ hne, Below.heap_setCell _ _ _ _ hne, Below.heap_setCell _ _ _ _ hne]

set_option maxRecDepth 100000 in
set_option maxHeartbeats 4000000 in
theorem ref_DGet_any (S : ByteArray) (w : World) (hS : S.size ≤ 10000) : Calls Tryz.prog 10 #[.string S] w (DEnds S w) := by
  have hB0 : Below w.heap.size w (w.alloc (.cells #[.slice none 0 0, .int .i64 0, .int .i64 0] 24)) := (Below.refl _ _).alloc (Nat.le_refl _) _
  have bR := Blk.new w 24 #[.slice none 0 0, .int .i64 0, .int .i64 0]
  obtain ⟨w1, hw1⟩ : ∃ w1, w.alloc (.cells #[.slice none 0 0, .int .i64 0, .int .i64 0] 24) = w1 := ⟨_, rfl⟩
  rw [hw1] at hB0 bR
  have HW1 := Lib.hid hw1
  have HR := Lib.hid (ref_Read_any S w1 hS)
  have HN := Lib.hid (d4_rng S)
  have hfit : dfits S ↔ Right (d2 S).1 (d3 S).2 ∧ dput (d2 S).1 (d3 S).2 (d4 S).2 = S.data.toList := Iff.rfl
  have HF := Lib.hid hfit
  clear hfit hw1
  go_enter Tryz.func10, Tryz.ntmps10
  go_wp2_with fail
  rw [HW1.out]
  refine HR.out.mono ?_
  rintro e w2 ⟨hb2, A, c, s1, s2, rfl, hok, hnew⟩
  have hB2 := hB0.trans (hb2.mono hB0.size)
  have bR2 := bR.below hb2 bR.lt
  have ha3 := (Below.refl w2.heap.size w2).alloc (Nat.le_refl _) (.cells #[.string S, .int .i64 s1, .int .i64 s2] 64)
  have ha4 := ha3.alloc ha3.size (.cells #[.slice A (d2 S).1.length c, .int .i64 (d3 S).2, .int .i64 (d4 S).2] 24)
  have bR4 := bR2.below ha4 bR2.lt
  have bD := Blk.new (w2.alloc (.cells #[.string S, .int .i64 s1, .int .i64 s2] 64)) 24 #[.slice A (d2 S).1.length c, .int .i64 (d3 S).2, .int .i64 (d4 S).2]
  rw [World.size_alloc] at bD
  have hok4 := hok.at ha4
  have hB4 := hB2.trans (ha4.mono hB2.size)
  have hlt2 := bR2.lt
  obtain ⟨w4, hw4⟩ : ∃ w4, (w2.alloc (.cells #[.string S, .int .i64 s1, .int .i64 s2] 64)).alloc (.cells #[.slice A (d2 S).1.length c, .int .i64 (d3 S).2, .int .i64 (d4 S).2] 24) = w4 := ⟨_, rfl⟩
  rw [hw4] at bR4 bD hok4 hB4
  have HW4 := Lib.hid hw4
  have HP1 := Lib.hid (fun (h : Right (d2 S).1 (d3 S).2) => ref_DPut_good ⟨A, c, (d2 S).1, (d3 S).2, (d4 S).2⟩ w4 hok4 h HN.out)
  have HP2 := Lib.hid (fun (h : ¬ Right (d2 S).1 (d3 S).2) => ref_DPut_bad ⟨A, c, (d2 S).1, (d3 S).2, (d4 S).2⟩ w4 hok4 h)
  simp only at HP1 HP2
  have hR1 : ∀ ad, A = some ad → ad.block ≠ w.heap.size := fun ad e => by have := hnew ad e; have := bR.lt; omega
  have HD0 := Lib.hid (rfl : (d2 S).1 = (d2 S).1)
  clear hw4 ha3 ha4 hok hb2 HN HR
  generalize hL : (d2 S).1 = L at *
  generalize hop : (d3 S).2 = op at *
  generalize hn : (d4 S).2 = n at *
  have HE := Lib.hid (And.intro hL (And.intro hop hn))
  clear hL hop hn
  by_cases hr : Right L op
  · have HP := Lib.hid (HP1.out hr)
    obtain ⟨T, hT⟩ : ∃ T : ByteArray, (⟨(dput L op n).toArray⟩ : ByteArray) = T := ⟨_, rfl⟩
    rw [hT] at HP
    have hTl : T.data.toList = dput L op n := by rw [← hT]
    clear HP1 HP2
    by_cases hTS : T = S
    · subst hTS
      have HFF := Lib.hid (HF.out.2 ⟨hr, hTl.symm⟩)
      clear hr hT hTl HF
      go_wp2_with (go_at_call 8; rw [HW4.out]; refine HP.out.mono ?_; rintro e w5 ⟨rfl, hb5⟩
                   have bD5 := bD.below hb5 bD.lt
                   have bR5 := bR4.below hb5 bR4.lt
                   obtain ⟨y0, y1, y2⟩ := bD5.three
                   obtain ⟨r0, r1, r2⟩ := bR5.three
                   have rf := bR5.frozen)
      have hok5 := hok4.at hb5
      have hB5 := hB4.trans (hb5.mono hB4.size)
      have hRow := row_else hok5.path hR1 (.slice A L.length c) (.int .i64 op) (.int .i64 n)
      refine bodyPost_ret (v := .tuple #[.agg #[.slice A L.length c, .int .i64 op, .int .i64 n], .int .i64 0]) (by simp [results, Tryz.results10, go_sem, r0, r1, r2]) rfl ?_
      obtain ⟨e1, e2, e3⟩ := HE.out
      refine ⟨((hB5.setCell (p := ⟨w.heap.size, 0, none⟩) (by simp) _).setCell (p := ⟨w.heap.size, 1, none⟩) (by simp) _).setCell (p := ⟨w.heap.size, 2, none⟩) (by simp) _, .inl ⟨HFF.out, A, c, by rw [e1, e2, e3], ?_⟩⟩
      rw [e1, e2, e3]
      exact ⟨hRow, hok5.len, hok5.cap, hok5.none⟩
    · have hf : ¬ dfits S := fun q => hTS (by
        have := (HF.out.1 q).2
        rw [← hTl] at this
        exact ByteArray.ext (Array.toList_inj.1 this))
      have hbe : (T.toList == S.toList) = false := by
        rw [beq_eq_false_iff_ne]
        intro q
        rw [ByteArray.toList_eq, ByteArray.toList_eq] at q
        exact hTS (ByteArray.ext (Array.toList_inj.1 q))
      have HFF := Lib.hid hf
      clear hr hT hTl HF hTS hf
      go_wp2_with (go_at_call 8; rw [HW4.out]; refine HP.out.mono ?_; rintro e w5 ⟨rfl, hb5⟩
                   have bR5 := bR4.below hb5 bR4.lt
                   obtain ⟨r0, r1, r2⟩ := bR5.three
                   have rf := bR5.frozen)
      have hB5 := hB4.trans (hb5.mono hB4.size)
      refine bodyPost_ret (v := .tuple #[.agg #[.slice none 0 0, .int .i64 0, .int .i64 0], .int .i64 12]) (by simp [results, Tryz.results10, go_sem, r0, r1, r2]) rfl ?_
      exact ⟨((hB5.setCell (p := ⟨w.heap.size, 0, none⟩) (by simp) _).setCell (p := ⟨w.heap.size, 1, none⟩) (by simp) _).setCell (p := ⟨w.heap.size, 2, none⟩) (by simp) _, .inr ⟨HFF.out, none, 0, rfl, dzero_ok _⟩⟩
  · have HP := Lib.hid (HP2.out hr)
    have HFF := Lib.hid (fun q => hr (HF.out.1 q).1)
    clear HP1 HP2 hr HF
    go_wp2_with (go_at_call 8; rw [HW4.out]; refine HP.out.mono ?_; rintro e w5 ⟨rfl, hb5⟩
                 have bR5 := bR4.below hb5 bR4.lt
                 obtain ⟨r0, r1, r2⟩ := bR5.three
                 have rf := bR5.frozen)
    have hB5 := hB4.trans (hb5.mono hB4.size)
    refine bodyPost_ret (v := .tuple #[.agg #[.slice none 0 0, .int .i64 0, .int .i64 0], .int .i64 12]) (by simp [results, Tryz.results10, go_sem, r0, r1, r2]) rfl ?_
    exact ⟨((hB5.setCell (p := ⟨w.heap.size, 0, none⟩) (by simp) _).setCell (p := ⟨w.heap.size, 1, none⟩) (by simp) _).setCell (p := ⟨w.heap.size, 2, none⟩) (by simp) _, .inr ⟨HFF.out, none, 0, rfl, dzero_ok _⟩⟩

end Go.Proofs.YthkhonkibigdaaaGreat.Delta
