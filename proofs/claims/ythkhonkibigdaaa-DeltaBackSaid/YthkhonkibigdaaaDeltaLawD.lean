/-
  The laws of layer 12, walked: one place is changed, and all else stays.
-/
import Derived.Test.YthkhonkibigdaaaDeltaLawA
import Derived.Test.YthkhonkibigdaaaKindsP
import Derived.Test.YthkhonkibigdaaaPathH
import Derived.Deep.RegionHeld3
import Derived.Deep.DrawnRows
import Derived.Deep.QuietTactic
namespace Go.Proofs.Ythkhonkibigdaaa.Delta
open Go.RowKit Mem _root_.Go.Proofs.Ythkhonkibigdaaa.Arena _root_.Go.Proofs.Ythkhonkibigdaaa.Kinds _root_.Go.Proofs.Ythkhonkibigdaaa.Path
set_option linter.unusedVariables false
attribute [local go_sem ↓] Go.wp_at_zero Go.wp_at_succ

set_option maxRecDepth 100000 in
set_option maxHeartbeats 4000000 in
theorem deltaElse_of (C : Pkg) (p : Prg) (d : Dlt) (i : Int) (wf : (Lit.int .i64 i).wf = true) (w : World) (hp : p.In w) (hd : d.In w) :
    Calls Try.prog 5 #[.agg #[.int .i64 p.ps, .slice p.A p.vs.length p.c, .slice p.B p.xs.length p.e], .agg #[.slice d.A d.p.length d.c, .int .i64 d.op, .int .i64 d.n], .int .i64 i] w fun e w' => e = .returned (.bool true) ∧ Below w.heap.size w w' := by
  obtain ⟨w2, hw2⟩ : ∃ w2, (w.alloc (.cells #[.int .i64 p.ps, .slice p.A p.vs.length p.c, .slice p.B p.xs.length p.e] 25)).alloc (.cells #[.slice d.A d.p.length d.c, .int .i64 d.op, .int .i64 d.n] 27) = w2 := ⟨_, rfl⟩
  have h2 := two_boxes p d w
  rw [hw2] at h2
  have HT := Lib.hid (fun W (h : Below w2.heap.size w2 W) => h2.cells h)
  have HB := Lib.hid h2.below
  have hpI := hp.at h2.below
  have hdI := hd.at h2.below
  have HPI := Lib.hid (fun W (h : Below w2.heap.size w2 W) => hpI.at h)
  have HDI := Lib.hid (fun W (h : Below w2.heap.size w2 W) => hdI.at h)
  have HW2 := Lib.hid hw2
  have HW := Lib.hid (fun W => works_any C W)
  have HF := Lib.hid (fun W => show Calls Try.prog 9 #[.agg #[.int .i64 p.ps, .slice p.A p.vs.length p.c, .slice p.B p.xs.length p.e]] W (fun e w' => e = .returned (.bool (fewB p)) ∧ Below W.heap.size W w') from ref_Few_any p W)
  have HFD := Lib.hid (fun W => few_any d W)
  clear hp hd hw2 h2 hpI hdI
  cases hf : fewB p with
  | false =>
    rw [hf] at HF
    clear hf
    go_enter Try.func5, Try.ntmps5
    go_wp2_with (first
      | (go_at_call 8; rw [HW2.out]; refine (HW.out _).mono ?_; rintro e w3 ⟨rfl, hB⟩; obtain ⟨⟨p0, p1, p2⟩, d0, d1, d2⟩ := HT.out _ hB)
      | (go_at_call 9; (with_reducible refine (HF.out _).mono ?_); rintro e w3 ⟨rfl, hb⟩; have hB := hB.trans (hb.mono hB.size); obtain ⟨⟨p0, p1, p2⟩, d0, d1, d2⟩ := HT.out _ hB)
      | (go_at_call 10; (with_reducible refine (HFD.out _).mono ?_); rintro e w3 ⟨rfl, hb⟩; have hB := hB.trans (hb.mono hB.size); obtain ⟨⟨p0, p1, p2⟩, d0, d1, d2⟩ := HT.out _ hB)
      | fail)
    go_ret
    exact ⟨rfl, HB.out.trans (hB.mono HB.out.size)⟩
  | true =>
  rw [hf] at HF
  obtain ⟨q1, q2⟩ := few_ok hf
  have q3 := fewB_len hf
  have q60 : p.xs.length ≤ 60 := by
    unfold fewB at hf
    rw [Bool.and_eq_true] at hf
    exact of_decide_eq_true hf.1
  clear hf
  cases hg : fewD d with
  | false =>
    rw [hg] at HFD
    clear hg
    go_enter Try.func5, Try.ntmps5
    go_wp2_with (first
      | (go_at_call 8; rw [HW2.out]; refine (HW.out _).mono ?_; rintro e w3 ⟨rfl, hB⟩; obtain ⟨⟨p0, p1, p2⟩, d0, d1, d2⟩ := HT.out _ hB)
      | (go_at_call 9; (with_reducible refine (HF.out _).mono ?_); rintro e w3 ⟨rfl, hb⟩; have hB := hB.trans (hb.mono hB.size); obtain ⟨⟨p0, p1, p2⟩, d0, d1, d2⟩ := HT.out _ hB)
      | (go_at_call 10; (with_reducible refine (HFD.out _).mono ?_); rintro e w3 ⟨rfl, hb⟩; have hB := hB.trans (hb.mono hB.size); obtain ⟨⟨p0, p1, p2⟩, d0, d1, d2⟩ := HT.out _ hB)
      | fail)
    go_ret
    exact ⟨rfl, HB.out.trans (hB.mono HB.out.size)⟩
  | true =>
  rw [hg] at HFD
  have q4 := fewD_ok hg
  clear hg
  have HA := Lib.hid (fun W (h : Below w2.heap.size w2 W) => C.apply p d W ((HPI.out W h).ok q1 q2) ((HDI.out W h).ok q4) q3)
  have HFI := Lib.hid (fun W (h : Below w2.heap.size w2 W) => Path.Find_any p.B p.e p.xs d.A d.c d.p W (HPI.out W h).body q2 (HDI.out W h).path q4)
  have HEN := Lib.hid (fun W (h : Below w2.heap.size w2 W) => Arena.End_any p.B p.e p.xs (pfind p.xs d.p) W (HPI.out W h).body q2)
  by_cases hi0 : i < 0
  · have j1 : i < 0 := hi0
    clear HA HFI HEN hi0
    go_enter Try.func5, Try.ntmps5
    go_wp2_with (first
      | (go_at_call 8; rw [HW2.out]; refine (HW.out _).mono ?_; rintro e w3 ⟨rfl, hB⟩; obtain ⟨⟨p0, p1, p2⟩, d0, d1, d2⟩ := HT.out _ hB)
      | (go_at_call 9; (with_reducible refine (HF.out _).mono ?_); rintro e w3 ⟨rfl, hb⟩; have hB := hB.trans (hb.mono hB.size); obtain ⟨⟨p0, p1, p2⟩, d0, d1, d2⟩ := HT.out _ hB)
      | (go_at_call 10; (with_reducible refine (HFD.out _).mono ?_); rintro e w3 ⟨rfl, hb⟩; have hB := hB.trans (hb.mono hB.size); obtain ⟨⟨p0, p1, p2⟩, d0, d1, d2⟩ := HT.out _ hB)
      | fail)
    go_ret
    exact ⟨ret_true (by first | rfl | (simp; done) | (simp; omega)), HB.out.trans (hB.mono HB.out.size)⟩
  have j1 : ¬ i < 0 := hi0
  by_cases hi1 : (p.xs.length : Int) ≤ i
  · clear HA HFI HEN hi0
    go_enter Try.func5, Try.ntmps5
    go_wp2_with (first
      | (go_at_call 8; rw [HW2.out]; refine (HW.out _).mono ?_; rintro e w3 ⟨rfl, hB⟩; obtain ⟨⟨p0, p1, p2⟩, d0, d1, d2⟩ := HT.out _ hB)
      | (go_at_call 9; (with_reducible refine (HF.out _).mono ?_); rintro e w3 ⟨rfl, hb⟩; have hB := hB.trans (hb.mono hB.size); obtain ⟨⟨p0, p1, p2⟩, d0, d1, d2⟩ := HT.out _ hB)
      | (go_at_call 10; (with_reducible refine (HFD.out _).mono ?_); rintro e w3 ⟨rfl, hb⟩; have hB := hB.trans (hb.mono hB.size); obtain ⟨⟨p0, p1, p2⟩, d0, d1, d2⟩ := HT.out _ hB)
      | fail)
    go_ret
    exact ⟨ret_true (by first | rfl | (simp; done) | (simp; omega)), HB.out.trans (hB.mono HB.out.size)⟩
  obtain ⟨k, rfl⟩ := Int.eq_ofNat_of_zero_le (show 0 ≤ i by omega)
  have hk : k < p.xs.length := by omega
  by_cases h0 : aerr p.xs d.p d.op d.n = 0
  · obtain ⟨a, m, x, g1, g2, g3, g4, g5, g6, g7⟩ := aerr_zero h0
    have hel := dch_else g2 g3 g6 hk
    rw [← g7] at hel
    rw [g1] at HFI HEN
    rw [aend_some g2] at HEN
    have HA' := Lib.hid (fun W h => (HA.out W h).mono (fun e w' q => q.ok h0))
    have HL := anew_len h0
    clear HA h0 g2 g3 g6 g7 g1
    generalize anew p.xs d.p d.op d.n = N at *
    obtain ⟨hlo, hhi⟩ := hel
    obtain ⟨yp, hyp⟩ : ∃ y, p.xs[k]? = some y := ⟨_, List.getElem?_eq_getElem hk⟩
    have v1 : IntKind.i64.wrap ((N.length : Int) - (p.xs.length : Int)) = (N.length : Int) - (p.xs.length : Int) := IntWalk.i64_in _ (by omega)
    have v2 : IntKind.i64.wrap ((N.length : Int) - (p.xs.length : Int) + (k : Int)) = (N.length : Int) - (p.xs.length : Int) + (k : Int) := IntWalk.i64_in _ (by omega)
    have HYP := Lib.hid hyp
    have m1 : (k : Int) < (p.xs.length : Int) := by omega
    have m2 : (0 : Int) ≤ (k : Int) := by omega
    have hIN := Lib.hid (fun A c W (h : IRow W W.heap.size A p.vs) (h' : Below w2.heap.size w2 W) => show Calls Try.prog 19 #[.slice A p.vs.length c, .slice p.A p.vs.length p.c] W (fun e w' => e = .returned (.bool true) ∧ Below W.heap.size W w') from (by
      have q := Arena.Ints_any A c p.vs p.A p.c p.vs W h (HPI.out W h').vars q1
      rw [show decide (p.vs = p.vs) = true from by simp] at q
      exact q))
    by_cases hka : k < a
    · obtain ⟨l1, l2⟩ := hlo hka
      have j3 : (k : Int) < (a : Int) := by omega
      have j4 : (k : Int) < (N.length : Int) := by omega
      have HQN := Lib.hid (show N[k]? = some yp by rw [l2]; exact hyp)
      obtain ⟨ad, hB0, -, -⟩ := (HPI.out _ (Below.refl _ _)).body k yp hyp
      have HG := Lib.hid (fun W (h : Below w2.heap.size w2 W) => show W.cell? (ad.add (k * 2)) = some (.int .i64 yp.1) ∧ W.cell? ⟨(ad.add (k * 2)).block, (ad.add (k * 2)).off + 1, none⟩ = some (.int .i64 yp.2) from by
        obtain ⟨ad', e, -, k0, k1⟩ := (HPI.out W h).body k yp hyp
        rw [hB0] at e
        cases e
        exact ⟨k0, k1⟩)
      clear hlo hhi l1 l2 hyp HYP
      obtain ⟨ps, PA, pc, vs, PB, pe, xs⟩ := p
      simp only at *
      subst hB0
      go_enter Try.func5, Try.ntmps5
      go_wp2_with (first
        | (go_at_call 8; rw [HW2.out]; refine (HW.out _).mono ?_; rintro e w3 ⟨rfl, hB⟩; obtain ⟨⟨p0, p1, p2⟩, d0, d1, d2⟩ := HT.out _ hB)
        | (go_at_call 9; (with_reducible refine (HF.out _).mono ?_); rintro e w3 ⟨rfl, hb⟩; have hB := hB.trans (hb.mono hB.size); obtain ⟨⟨p0, p1, p2⟩, d0, d1, d2⟩ := HT.out _ hB)
        | (go_at_call 10; (with_reducible refine (HFD.out _).mono ?_); rintro e w3 ⟨rfl, hb⟩; have hB := hB.trans (hb.mono hB.size); obtain ⟨⟨p0, p1, p2⟩, d0, d1, d2⟩ := HT.out _ hB)
        | fail)
      refine (HA'.out _ hB).mono ?_
      rintro e w6 ⟨hb, A, c, B, ce, rfl, ok6⟩
      have hB := hB.trans (hb.mono hB.size)
      have ba := (Below.refl w6.heap.size w6).alloc (Nat.le_refl _) (.cells #[.int .i64 ps, .slice A vs.length c, .slice B N.length ce] 25)
      have hB := hB.trans (ba.mono hB.size)
      have ok7 := ok6.at ba
      have b7 := Blk.new w6 25 #[.int .i64 ps, .slice A vs.length c, .slice B N.length ce]
      obtain ⟨⟨p0, p1, p2⟩, d0, d1, d2⟩ := HT.out _ hB
      have hl7 := b7.lt
      have HN := Lib.hid (fun W (h : Below (w6.alloc (.cells #[.int .i64 ps, .slice A vs.length c, .slice B N.length ce] 25)).heap.size (w6.alloc (.cells #[.int .i64 ps, .slice A vs.length c, .slice B N.length ce] 25)) W) => And.intro (b7.below h hl7).three (ok7.at h))
      have hC := Below.refl (w6.alloc (.cells #[.int .i64 ps, .slice A vs.length c, .slice B N.length ce] 25)).heap.size (w6.alloc (.cells #[.int .i64 ps, .slice A vs.length c, .slice B N.length ce] 25))
      obtain ⟨⟨x0, x1, x2⟩, okN⟩ := HN.out _ hC
      go_wp2_with (first
        | (go_at_call 17; (with_reducible refine (HFI.out _ hB).mono ?_); rintro e w3 ⟨rfl, hb⟩; have hB := hB.trans (hb.mono hB.size); obtain ⟨⟨p0, p1, p2⟩, d0, d1, d2⟩ := HT.out _ hB; have hC := hC.trans (hb.mono hC.size); obtain ⟨⟨x0, x1, x2⟩, okN⟩ := HN.out _ hC)
        | (go_at_call 18; (with_reducible refine (HEN.out _ hB).mono ?_); rintro e w3 ⟨rfl, hb⟩; have hB := hB.trans (hb.mono hB.size); obtain ⟨⟨p0, p1, p2⟩, d0, d1, d2⟩ := HT.out _ hB; have hC := hC.trans (hb.mono hC.size); obtain ⟨⟨x0, x1, x2⟩, okN⟩ := HN.out _ hC)
        | fail)
      obtain ⟨n0, n1⟩ := HG.out _ hB
      have hBz := Lib.hid hB
      obtain ⟨adq, hBq, -, u0, u1⟩ := okN.body k yp HQN.out
      simp only at hBq
      subst hBq
      go_quiet (fail)
      go_wp2_with fail
      go_ret
      exact ⟨ret_true (by first | rfl | (simp; done) | (simp; omega)), HB.out.trans ((belowN hBz.out _).mono HB.out.size)⟩
    · have j3 : ¬ (k : Int) < (a : Int) := by omega
      by_cases hkm : k < a + m
      · have j4 : (k : Int) < (a : Int) + (m : Int) := by omega
        clear hlo hhi hyp
        go_enter Try.func5, Try.ntmps5
        go_wp2_with (first
          | (go_at_call 8; rw [HW2.out]; refine (HW.out _).mono ?_; rintro e w3 ⟨rfl, hB⟩; obtain ⟨⟨p0, p1, p2⟩, d0, d1, d2⟩ := HT.out _ hB)
          | (go_at_call 9; (with_reducible refine (HF.out _).mono ?_); rintro e w3 ⟨rfl, hb⟩; have hB := hB.trans (hb.mono hB.size); obtain ⟨⟨p0, p1, p2⟩, d0, d1, d2⟩ := HT.out _ hB)
          | (go_at_call 10; (with_reducible refine (HFD.out _).mono ?_); rintro e w3 ⟨rfl, hb⟩; have hB := hB.trans (hb.mono hB.size); obtain ⟨⟨p0, p1, p2⟩, d0, d1, d2⟩ := HT.out _ hB)
          | fail)
        refine (HA'.out _ hB).mono ?_
        rintro e w6 ⟨hb, A, c, B, ce, rfl, ok6⟩
        have hB := hB.trans (hb.mono hB.size)
        have ba := (Below.refl w6.heap.size w6).alloc (Nat.le_refl _) (.cells #[.int .i64 p.ps, .slice A p.vs.length c, .slice B N.length ce] 25)
        have hB := hB.trans (ba.mono hB.size)
        have ok7 := ok6.at ba
        have b7 := Blk.new w6 25 #[.int .i64 p.ps, .slice A p.vs.length c, .slice B N.length ce]
        obtain ⟨⟨p0, p1, p2⟩, d0, d1, d2⟩ := HT.out _ hB
        have hl7 := b7.lt
        have HN := Lib.hid (fun W (h : Below (w6.alloc (.cells #[.int .i64 p.ps, .slice A p.vs.length c, .slice B N.length ce] 25)).heap.size (w6.alloc (.cells #[.int .i64 p.ps, .slice A p.vs.length c, .slice B N.length ce] 25)) W) => And.intro (b7.below h hl7).three (ok7.at h))
        have hC := Below.refl (w6.alloc (.cells #[.int .i64 p.ps, .slice A p.vs.length c, .slice B N.length ce] 25)).heap.size (w6.alloc (.cells #[.int .i64 p.ps, .slice A p.vs.length c, .slice B N.length ce] 25))
        obtain ⟨⟨x0, x1, x2⟩, okN⟩ := HN.out _ hC
        go_wp2_with (first
          | (go_at_call 17; (with_reducible refine (HFI.out _ hB).mono ?_); rintro e w3 ⟨rfl, hb⟩; have hB := hB.trans (hb.mono hB.size); obtain ⟨⟨p0, p1, p2⟩, d0, d1, d2⟩ := HT.out _ hB; have hC := hC.trans (hb.mono hC.size); obtain ⟨⟨x0, x1, x2⟩, okN⟩ := HN.out _ hC)
          | (go_at_call 18; (with_reducible refine (HEN.out _ hB).mono ?_); rintro e w3 ⟨rfl, hb⟩; have hB := hB.trans (hb.mono hB.size); obtain ⟨⟨p0, p1, p2⟩, d0, d1, d2⟩ := HT.out _ hB; have hC := hC.trans (hb.mono hC.size); obtain ⟨⟨x0, x1, x2⟩, okN⟩ := HN.out _ hC)
          | fail)
        go_ret
        exact ⟨ret_true (by first | rfl | (simp; done) | (simp; omega)), HB.out.trans (hB.mono HB.out.size)⟩
      · have j4 : ¬ (k : Int) < (a : Int) + (m : Int) := by omega
        obtain ⟨j, l1, l2, l3⟩ := hhi (by omega)
        have HQN := Lib.hid (show N[j]? = some yp by rw [l3]; exact hyp)
        replace v2 := v2.trans l1
        have j5 : (0 : Int) ≤ (j : Int) := by omega
        have j6 : (j : Int) < (N.length : Int) := by omega
        obtain ⟨ad, hB0, -, -⟩ := (HPI.out _ (Below.refl _ _)).body k yp hyp
        have HG := Lib.hid (fun W (h : Below w2.heap.size w2 W) => show W.cell? (ad.add (k * 2)) = some (.int .i64 yp.1) ∧ W.cell? ⟨(ad.add (k * 2)).block, (ad.add (k * 2)).off + 1, none⟩ = some (.int .i64 yp.2) from by
          obtain ⟨ad', e, -, k0, k1⟩ := (HPI.out W h).body k yp hyp
          rw [hB0] at e
          cases e
          exact ⟨k0, k1⟩)
        clear hlo hhi hyp l3 HYP
        obtain ⟨ps, PA, pc, vs, PB, pe, xs⟩ := p
        simp only at *
        subst hB0
        go_enter Try.func5, Try.ntmps5
        go_wp2_with (first
          | (go_at_call 8; rw [HW2.out]; refine (HW.out _).mono ?_; rintro e w3 ⟨rfl, hB⟩; obtain ⟨⟨p0, p1, p2⟩, d0, d1, d2⟩ := HT.out _ hB)
          | (go_at_call 9; (with_reducible refine (HF.out _).mono ?_); rintro e w3 ⟨rfl, hb⟩; have hB := hB.trans (hb.mono hB.size); obtain ⟨⟨p0, p1, p2⟩, d0, d1, d2⟩ := HT.out _ hB)
          | (go_at_call 10; (with_reducible refine (HFD.out _).mono ?_); rintro e w3 ⟨rfl, hb⟩; have hB := hB.trans (hb.mono hB.size); obtain ⟨⟨p0, p1, p2⟩, d0, d1, d2⟩ := HT.out _ hB)
          | fail)
        refine (HA'.out _ hB).mono ?_
        rintro e w6 ⟨hb, A, c, B, ce, rfl, ok6⟩
        have hB := hB.trans (hb.mono hB.size)
        have ba := (Below.refl w6.heap.size w6).alloc (Nat.le_refl _) (.cells #[.int .i64 ps, .slice A vs.length c, .slice B N.length ce] 25)
        have hB := hB.trans (ba.mono hB.size)
        have ok7 := ok6.at ba
        have b7 := Blk.new w6 25 #[.int .i64 ps, .slice A vs.length c, .slice B N.length ce]
        obtain ⟨⟨p0, p1, p2⟩, d0, d1, d2⟩ := HT.out _ hB
        have hl7 := b7.lt
        have HN := Lib.hid (fun W (h : Below (w6.alloc (.cells #[.int .i64 ps, .slice A vs.length c, .slice B N.length ce] 25)).heap.size (w6.alloc (.cells #[.int .i64 ps, .slice A vs.length c, .slice B N.length ce] 25)) W) => And.intro (b7.below h hl7).three (ok7.at h))
        have hC := Below.refl (w6.alloc (.cells #[.int .i64 ps, .slice A vs.length c, .slice B N.length ce] 25)).heap.size (w6.alloc (.cells #[.int .i64 ps, .slice A vs.length c, .slice B N.length ce] 25))
        obtain ⟨⟨x0, x1, x2⟩, okN⟩ := HN.out _ hC
        go_wp2_with (first
          | (go_at_call 17; (with_reducible refine (HFI.out _ hB).mono ?_); rintro e w3 ⟨rfl, hb⟩; have hB := hB.trans (hb.mono hB.size); obtain ⟨⟨p0, p1, p2⟩, d0, d1, d2⟩ := HT.out _ hB; have hC := hC.trans (hb.mono hC.size); obtain ⟨⟨x0, x1, x2⟩, okN⟩ := HN.out _ hC)
          | (go_at_call 18; (with_reducible refine (HEN.out _ hB).mono ?_); rintro e w3 ⟨rfl, hb⟩; have hB := hB.trans (hb.mono hB.size); obtain ⟨⟨p0, p1, p2⟩, d0, d1, d2⟩ := HT.out _ hB; have hC := hC.trans (hb.mono hC.size); obtain ⟨⟨x0, x1, x2⟩, okN⟩ := HN.out _ hC)
          | (go_at_call 19; (with_reducible refine (hIN.out _ _ _ okN.vars hB).mono ?_); rintro e w3 ⟨rfl, hb⟩; have hB := hB.trans (hb.mono hB.size); obtain ⟨⟨p0, p1, p2⟩, d0, d1, d2⟩ := HT.out _ hB; have hC := hC.trans (hb.mono hC.size); obtain ⟨⟨x0, x1, x2⟩, okN⟩ := HN.out _ hC)
          | fail)
        obtain ⟨n0, n1⟩ := HG.out _ hB
        have hBz := Lib.hid hB
        obtain ⟨adq, hBq, -, u0, u1⟩ := okN.body j yp HQN.out
        simp only at hBq
        subst hBq
        go_quiet (fail)
        go_wp2_with fail
        go_ret
        exact ⟨ret_true (by first | rfl | (simp; done) | (simp; omega)), HB.out.trans ((belowN hBz.out _).mono HB.out.size)⟩
  · have HA' := Lib.hid (fun W h => (HA.out W h).mono (fun e w' q => q.no h0))
    obtain ⟨E, hE⟩ : ∃ E, aerr p.xs d.p d.op d.n = E := ⟨_, rfl⟩
    rw [hE] at HA' h0
    have e1 : (E == 0) = false := by simpa using h0
    have e2 : (E != 0) = true := by simpa using h0
    clear HA h0 hE
    go_enter Try.func5, Try.ntmps5
    go_wp2_with (first
      | (go_at_call 8; rw [HW2.out]; refine (HW.out _).mono ?_; rintro e w3 ⟨rfl, hB⟩; obtain ⟨⟨p0, p1, p2⟩, d0, d1, d2⟩ := HT.out _ hB)
      | (go_at_call 9; (with_reducible refine (HF.out _).mono ?_); rintro e w3 ⟨rfl, hb⟩; have hB := hB.trans (hb.mono hB.size); obtain ⟨⟨p0, p1, p2⟩, d0, d1, d2⟩ := HT.out _ hB)
      | (go_at_call 10; (with_reducible refine (HFD.out _).mono ?_); rintro e w3 ⟨rfl, hb⟩; have hB := hB.trans (hb.mono hB.size); obtain ⟨⟨p0, p1, p2⟩, d0, d1, d2⟩ := HT.out _ hB)
      | fail)
    refine (HA'.out _ hB).mono ?_
    rintro e w6 ⟨hb, A, c, B, ce, rfl, ok6⟩
    have hB := hB.trans (hb.mono hB.size)
    have ba := (Below.refl w6.heap.size w6).alloc (Nat.le_refl _) (.cells #[.int .i64 0, .slice A 0 c, .slice B 0 ce] 25)
    have hB := hB.trans (ba.mono hB.size)
    obtain ⟨x0, x1, x2⟩ := (Blk.new w6 25 #[.int .i64 0, .slice A 0 c, .slice B 0 ce]).three
    obtain ⟨⟨p0, p1, p2⟩, d0, d1, d2⟩ := HT.out _ hB
    have b8 := Blk.new w6 25 #[.int .i64 0, .slice A 0 c, .slice B 0 ce]
    have hl8 := b8.lt
    have HN := Lib.hid (fun W (h : Below (w6.alloc (.cells #[.int .i64 0, .slice A 0 c, .slice B 0 ce] 25)).heap.size (w6.alloc (.cells #[.int .i64 0, .slice A 0 c, .slice B 0 ce] 25)) W) => (b8.below h hl8).three)
    have hC := Below.refl (w6.alloc (.cells #[.int .i64 0, .slice A 0 c, .slice B 0 ce] 25)).heap.size (w6.alloc (.cells #[.int .i64 0, .slice A 0 c, .slice B 0 ce] 25))
    go_wp2_with (first
      | (go_at_call 17; (with_reducible refine (HFI.out _ hB).mono ?_); rintro e w3 ⟨rfl, hb⟩; have hB := hB.trans (hb.mono hB.size); obtain ⟨⟨p0, p1, p2⟩, d0, d1, d2⟩ := HT.out _ hB; have hC := hC.trans (hb.mono hC.size); obtain ⟨x0, x1, x2⟩ := HN.out _ hC)
      | (go_at_call 18; (with_reducible refine (HEN.out _ hB).mono ?_); rintro e w3 ⟨rfl, hb⟩; have hB := hB.trans (hb.mono hB.size); obtain ⟨⟨p0, p1, p2⟩, d0, d1, d2⟩ := HT.out _ hB; have hC := hC.trans (hb.mono hC.size); obtain ⟨x0, x1, x2⟩ := HN.out _ hC)
      | fail)
    go_ret
    exact ⟨ret_true (by first | rfl | (simp; done) | (simp; omega)), HB.out.trans (hB.mono HB.out.size)⟩

end Go.Proofs.Ythkhonkibigdaaa.Delta
