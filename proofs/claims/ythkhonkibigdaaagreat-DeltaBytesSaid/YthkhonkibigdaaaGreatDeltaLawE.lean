/-
  The laws of layer 12, walked: a typed program that is changed is typed.
-/
import Derived.Test.YthkhonkibigdaaaGreatDeltaLawA
import Derived.Test.YthkhonkibigdaaaGreatKindsP
import Derived.Test.YthkhonkibigdaaaGreatPathH
import Derived.Deep.RegionHeld3
import Derived.Deep.DrawnRows
import Derived.Deep.QuietTactic
namespace Go.Proofs.YthkhonkibigdaaaGreat.Delta
open Go.RowKit Mem _root_.Go.Proofs.YthkhonkibigdaaaGreat.Arena _root_.Go.Proofs.YthkhonkibigdaaaGreat.Kinds _root_.Go.Proofs.YthkhonkibigdaaaGreat.Path
set_option linter.unusedVariables false
attribute [local go_sem ↓] Go.wp_at_zero Go.wp_at_succ

set_option maxRecDepth 100000 in
set_option maxHeartbeats 4000000 in
theorem deltaTyped_of (C : Pkg) (p : Prg) (d : Dlt) (w : World) (hp : p.In w) (hd : d.In w) :
    Calls Tryz.prog 4 #[.agg #[.int .i64 p.ps, .slice p.A p.vs.length p.c, .slice p.B p.xs.length p.e], .agg #[.slice d.A d.p.length d.c, .int .i64 d.op, .int .i64 d.n]] w fun e w' => e = .returned (.bool true) ∧ Below w.heap.size w w' := by
  obtain ⟨w2, hw2⟩ : ∃ w2, (w.alloc (.cells #[.int .i64 p.ps, .slice p.A p.vs.length p.c, .slice p.B p.xs.length p.e] 36)).alloc (.cells #[.slice d.A d.p.length d.c, .int .i64 d.op, .int .i64 d.n] 24) = w2 := ⟨_, rfl⟩
  have h2 := two_boxes p d w
  rw [hw2] at h2
  have HT := Lib.hid (fun W (h : Below w2.heap.size w2 W) => h2.cells h)
  have HB := Lib.hid h2.below
  have hpI := hp.at h2.below
  have hdI := hd.at h2.below
  have HPI := Lib.hid (fun W (h : Below w2.heap.size w2 W) => hpI.at h)
  have HDI := Lib.hid (fun W (h : Below w2.heap.size w2 W) => hdI.at h)
  have HW2 := Lib.hid hw2
  have HW := Lib.hid (fun W => works_any C W)
  have HF := Lib.hid (fun W => show Calls Tryz.prog 12 #[.agg #[.int .i64 p.ps, .slice p.A p.vs.length p.c, .slice p.B p.xs.length p.e]] W (fun e w' => e = .returned (.bool (fewB p)) ∧ Below W.heap.size W w') from ref_Few_any p W)
  have HFD := Lib.hid (fun W => few_any d W)
  clear hp hd hw2 h2 hpI hdI
  cases hf : fewB p with
  | false =>
    rw [hf] at HF
    clear hf
    go_enter Tryz.func4, Tryz.ntmps4
    go_wp2_with (first
      | (go_at_call 5; rw [HW2.out]; refine (HW.out _).mono ?_; rintro e w3 ⟨rfl, hB⟩; obtain ⟨⟨p0, p1, p2⟩, d0, d1, d2⟩ := HT.out _ hB)
      | (go_at_call 12; (with_reducible refine (HF.out _).mono ?_); rintro e w3 ⟨rfl, hb⟩; have hB := hB.trans (hb.mono hB.size); obtain ⟨⟨p0, p1, p2⟩, d0, d1, d2⟩ := HT.out _ hB)
      | (go_at_call 6; (with_reducible refine (HFD.out _).mono ?_); rintro e w3 ⟨rfl, hb⟩; have hB := hB.trans (hb.mono hB.size); obtain ⟨⟨p0, p1, p2⟩, d0, d1, d2⟩ := HT.out _ hB)
      | fail)
    go_ret
    exact ⟨rfl, HB.out.trans (hB.mono HB.out.size)⟩
  | true =>
  rw [hf] at HF
  obtain ⟨q1, q2⟩ := few_ok hf
  have q3 := fewB_len hf
  have q60 : p.xs.length ≤ 60 := by
    unfold fewB at hf
    rw [Bool.and_eq_true] at hf
    exact of_decide_eq_true hf.1
  clear hf
  cases hg : fewD d with
  | false =>
    rw [hg] at HFD
    clear hg
    go_enter Tryz.func4, Tryz.ntmps4
    go_wp2_with (first
      | (go_at_call 5; rw [HW2.out]; refine (HW.out _).mono ?_; rintro e w3 ⟨rfl, hB⟩; obtain ⟨⟨p0, p1, p2⟩, d0, d1, d2⟩ := HT.out _ hB)
      | (go_at_call 12; (with_reducible refine (HF.out _).mono ?_); rintro e w3 ⟨rfl, hb⟩; have hB := hB.trans (hb.mono hB.size); obtain ⟨⟨p0, p1, p2⟩, d0, d1, d2⟩ := HT.out _ hB)
      | (go_at_call 6; (with_reducible refine (HFD.out _).mono ?_); rintro e w3 ⟨rfl, hb⟩; have hB := hB.trans (hb.mono hB.size); obtain ⟨⟨p0, p1, p2⟩, d0, d1, d2⟩ := HT.out _ hB)
      | fail)
    go_ret
    exact ⟨rfl, HB.out.trans (hB.mono HB.out.size)⟩
  | true =>
  rw [hg] at HFD
  have q4 := fewD_ok hg
  clear hg
  have HA := Lib.hid (fun W (h : Below w2.heap.size w2 W) => C.apply p d W ((HPI.out W h).ok q1 q2) ((HDI.out W h).ok q4) q3)
  have HFI := Lib.hid (fun W (h : Below w2.heap.size w2 W) => Path.Find_any p.B p.e p.xs d.A d.c d.p W (HPI.out W h).body q2 (HDI.out W h).path q4)
  have HK := Lib.hid (fun W (h : Below w2.heap.size w2 W) => Kinds.PCheck_any p W ((HPI.out W h).ok q1 q2))
  by_cases hc : pcheck p.ps p.vs p.xs = 0
  · rw [hc] at HK
    by_cases h0 : aerr p.xs d.p d.op d.n = 0
    · obtain ⟨a, m, x, g1, g2, g3, -, -, g6, g7⟩ := aerr_zero h0
      obtain ⟨t1, t2, t3⟩ := dch_typed hc (by omega) g3 g6
      rw [← g7] at t1 t2 t3
      rw [g1] at HFI
      have HA' := Lib.hid (fun W h => (HA.out W h).mono (fun e w' q => q.ok h0))
      have HL := anew_len h0
      clear HA h0 g2 g3 g6 g7 hc g1
      generalize anew p.xs d.p d.op d.n = N at *
      have HKN := Lib.hid (fun A c B ce W (h : Prg.Ok ⟨p.ps, A, c, p.vs, B, ce, N⟩ W) => show Calls Tryz.prog 13 #[.agg #[.int .i64 p.ps, .slice A p.vs.length c, .slice B N.length ce]] W (fun e w' => e = .returned (.int .i64 (pcheck p.ps p.vs N)) ∧ Below W.heap.size W w') from Kinds.PCheck_any _ W h)
      have HO0 := Lib.hid (fun A c B ce W (h : Prg.Ok ⟨p.ps, A, c, p.vs, B, ce, N⟩ W) => show Calls Tryz.prog 16 #[.agg #[.int .i64 p.ps, .slice A p.vs.length c, .slice B N.length ce], .int .i64 0] W (fun e w' => e = .returned (.int .i64 2) ∧ Below W.heap.size W w') from (by
        have q := Kinds.Of_any ⟨p.ps, A, c, p.vs, B, ce, N⟩ 0 W h
        rw [show okind (Prg.vs ⟨p.ps, A, c, p.vs, B, ce, N⟩) (Prg.xs ⟨p.ps, A, c, p.vs, B, ce, N⟩) 0 = 2 from t1] at q
        exact q))
      have HO1 := Lib.hid (fun A c B ce W (h : Prg.Ok ⟨p.ps, A, c, p.vs, B, ce, N⟩ W) => show Calls Tryz.prog 16 #[.agg #[.int .i64 p.ps, .slice A p.vs.length c, .slice B N.length ce], .int .i64 a] W (fun e w' => e = .returned (.int .i64 (okind p.vs p.xs a)) ∧ Below W.heap.size W w') from (by
        have q := Kinds.Of_any ⟨p.ps, A, c, p.vs, B, ce, N⟩ a W h
        rw [show okind (Prg.vs ⟨p.ps, A, c, p.vs, B, ce, N⟩) (Prg.xs ⟨p.ps, A, c, p.vs, B, ce, N⟩) a = okind p.vs p.xs a from t2] at q
        exact q))
      have HO2 := Lib.hid (fun W (h : Below w2.heap.size w2 W) => Kinds.Of_any p a W ((HPI.out W h).ok q1 q2))
      clear t1 t2
      generalize okind p.vs p.xs a = K at *
      generalize pcheck p.ps p.vs N = F at *
      have e1 : (K == K) = true := by simp
      have e2 : (K != K) = false := by simp
      go_enter Tryz.func4, Tryz.ntmps4
      go_wp2_with (first
        | (go_at_call 5; rw [HW2.out]; refine (HW.out _).mono ?_; rintro e w3 ⟨rfl, hB⟩; obtain ⟨⟨p0, p1, p2⟩, d0, d1, d2⟩ := HT.out _ hB)
        | (go_at_call 12; (with_reducible refine (HF.out _).mono ?_); rintro e w3 ⟨rfl, hb⟩; have hB := hB.trans (hb.mono hB.size); obtain ⟨⟨p0, p1, p2⟩, d0, d1, d2⟩ := HT.out _ hB)
        | (go_at_call 6; (with_reducible refine (HFD.out _).mono ?_); rintro e w3 ⟨rfl, hb⟩; have hB := hB.trans (hb.mono hB.size); obtain ⟨⟨p0, p1, p2⟩, d0, d1, d2⟩ := HT.out _ hB)
        | (go_at_call 13; (with_reducible refine (HK.out _ hB).mono ?_); rintro e w3 ⟨rfl, hb⟩; have hB := hB.trans (hb.mono hB.size); obtain ⟨⟨p0, p1, p2⟩, d0, d1, d2⟩ := HT.out _ hB)
        | fail)
      refine (HA'.out _ hB).mono ?_
      rintro e w6 ⟨hb, A, c, B, ce, rfl, ok6⟩
      have hB := hB.trans (hb.mono hB.size)
      have ba := (Below.refl w6.heap.size w6).alloc (Nat.le_refl _) (.cells #[.int .i64 p.ps, .slice A p.vs.length c, .slice B N.length ce] 36)
      have hB := hB.trans (ba.mono hB.size)
      have ok7 := ok6.at ba
      have b7 := Blk.new w6 36 #[.int .i64 p.ps, .slice A p.vs.length c, .slice B N.length ce]
      obtain ⟨⟨p0, p1, p2⟩, d0, d1, d2⟩ := HT.out _ hB
      have hl7 := b7.lt
      have HN := Lib.hid (fun W (h : Below (w6.alloc (.cells #[.int .i64 p.ps, .slice A p.vs.length c, .slice B N.length ce] 36)).heap.size (w6.alloc (.cells #[.int .i64 p.ps, .slice A p.vs.length c, .slice B N.length ce] 36)) W) => And.intro (b7.below h hl7).three (ok7.at h))
      have hC := Below.refl (w6.alloc (.cells #[.int .i64 p.ps, .slice A p.vs.length c, .slice B N.length ce] 36)).heap.size (w6.alloc (.cells #[.int .i64 p.ps, .slice A p.vs.length c, .slice B N.length ce] 36))
      obtain ⟨⟨x0, x1, x2⟩, okN⟩ := HN.out _ hC
      go_wp2_with (first
        | (go_at_call 15; (with_reducible refine (HFI.out _ hB).mono ?_); rintro e w8 ⟨rfl, hb⟩; have hB := hB.trans (hb.mono hB.size); have hC := hC.trans (hb.mono hC.size); obtain ⟨⟨p0, p1, p2⟩, d0, d1, d2⟩ := HT.out _ hB; obtain ⟨⟨x0, x1, x2⟩, okN⟩ := HN.out _ hC)
        | (go_at_call 13; refine (HKN.out _ _ _ _ _ okN).mono ?_; rintro e w9 ⟨rfl, hb⟩; have hB := hB.trans (hb.mono hB.size); have hC := hC.trans (hb.mono hC.size); obtain ⟨⟨p0, p1, p2⟩, d0, d1, d2⟩ := HT.out _ hB; obtain ⟨⟨x0, x1, x2⟩, okN⟩ := HN.out _ hC)
        | fail)
      have hS := And.intro (HT.out _ hB).1 (HN.out _ hC).1
      have hB := hB.drew
      have hC := hC.drew
      have okN := okN.drew
      go_region_held3 (fun w' => (w'.cell? ⟨w.heap.size, 0, none⟩ = some (.int .i64 p.ps) ∧ w'.cell? ⟨w.heap.size, 1, none⟩ = some (.slice p.A p.vs.length p.c) ∧ w'.cell? ⟨w.heap.size, 2, none⟩ = some (.slice p.B p.xs.length p.e)) ∧ w'.cell? ⟨w6.heap.size, 0, none⟩ = some (.int .i64 p.ps) ∧ w'.cell? ⟨w6.heap.size, 1, none⟩ = some (.slice A p.vs.length c) ∧ w'.cell? ⟨w6.heap.size, 2, none⟩ = some (.slice B N.length ce)) (exact hS) (first
        | (go_at_call 16; first
            | ((with_reducible refine (HO0.out _ _ _ _ _ okN).mono ?_); rintro e wa ⟨rfl, hb⟩; have hB := hB.trans (hb.mono hB.size); have hC := hC.trans (hb.mono hC.size); have hS := And.intro (HT.out _ hB).1 (HN.out _ hC).1; have okN := (HN.out _ hC).2)
            | ((with_reducible refine (HO1.out _ _ _ _ _ okN).mono ?_); rintro e wa ⟨rfl, hb⟩; have hB := hB.trans (hb.mono hB.size); have hC := hC.trans (hb.mono hC.size); have hS := And.intro (HT.out _ hB).1 (HN.out _ hC).1; have okN := (HN.out _ hC).2)
            | ((with_reducible refine (HO2.out _ hB).mono ?_); rintro e wa ⟨rfl, hb⟩; have hB := hB.trans (hb.mono hB.size); have hC := hC.trans (hb.mono hC.size); have hS := And.intro (HT.out _ hB).1 (HN.out _ hC).1; have okN := (HN.out _ hC).2)
            | fail)
        | fail)
      obtain ⟨⟨p0, p1, p2⟩, d0, d1, d2⟩ := HT.out _ hB
      rcases t3 with rfl | ⟨rfl, ho⟩
      · go_wp2_with fail
        go_ret
        exact ⟨rfl, HB.out.trans (hB.mono HB.out.size)⟩
      · rw [ho] at d1
        go_wp2_with fail
        go_ret
        exact ⟨rfl, HB.out.trans (hB.mono HB.out.size)⟩
    · have HA' := Lib.hid (fun W h => (HA.out W h).mono (fun e w' q => q.no h0))
      obtain ⟨E, hE⟩ : ∃ E, aerr p.xs d.p d.op d.n = E := ⟨_, rfl⟩
      rw [hE] at HA' h0
      have e1 : (E == 0) = false := by simpa using h0
      have e2 : (E != 0) = true := by simpa using h0
      clear HA h0 hE hc
      go_enter Tryz.func4, Tryz.ntmps4
      go_wp2_with (first
        | (go_at_call 5; rw [HW2.out]; refine (HW.out _).mono ?_; rintro e w3 ⟨rfl, hB⟩; obtain ⟨⟨p0, p1, p2⟩, d0, d1, d2⟩ := HT.out _ hB)
        | (go_at_call 12; (with_reducible refine (HF.out _).mono ?_); rintro e w3 ⟨rfl, hb⟩; have hB := hB.trans (hb.mono hB.size); obtain ⟨⟨p0, p1, p2⟩, d0, d1, d2⟩ := HT.out _ hB)
        | (go_at_call 6; (with_reducible refine (HFD.out _).mono ?_); rintro e w3 ⟨rfl, hb⟩; have hB := hB.trans (hb.mono hB.size); obtain ⟨⟨p0, p1, p2⟩, d0, d1, d2⟩ := HT.out _ hB)
        | (go_at_call 13; (with_reducible refine (HK.out _ hB).mono ?_); rintro e w3 ⟨rfl, hb⟩; have hB := hB.trans (hb.mono hB.size); obtain ⟨⟨p0, p1, p2⟩, d0, d1, d2⟩ := HT.out _ hB)
        | fail)
      refine (HA'.out _ hB).mono ?_
      rintro e w6 ⟨hb, A, c, B, ce, rfl, ok6⟩
      have hB := hB.trans (hb.mono hB.size)
      have ba := (Below.refl w6.heap.size w6).alloc (Nat.le_refl _) (.cells #[.int .i64 0, .slice A 0 c, .slice B 0 ce] 36)
      have hB := hB.trans (ba.mono hB.size)
      obtain ⟨x0, x1, x2⟩ := (Blk.new w6 36 #[.int .i64 0, .slice A 0 c, .slice B 0 ce]).three
      obtain ⟨⟨p0, p1, p2⟩, d0, d1, d2⟩ := HT.out _ hB
      go_wp2_with fail
      go_ret
      exact ⟨ret_true (by first | rfl | (simp; done) | (simp; omega)), HB.out.trans (hB.mono HB.out.size)⟩
  · obtain ⟨K, hK⟩ : ∃ K, pcheck p.ps p.vs p.xs = K := ⟨_, rfl⟩
    rw [hK] at HK hc
    have e1 : (K == 0) = false := by simpa using hc
    have e2 : (K != 0) = true := by simpa using hc
    clear hc hK HA HFI
    go_enter Tryz.func4, Tryz.ntmps4
    go_wp2_with (first
      | (go_at_call 5; rw [HW2.out]; refine (HW.out _).mono ?_; rintro e w3 ⟨rfl, hB⟩; obtain ⟨⟨p0, p1, p2⟩, d0, d1, d2⟩ := HT.out _ hB)
      | (go_at_call 12; (with_reducible refine (HF.out _).mono ?_); rintro e w3 ⟨rfl, hb⟩; have hB := hB.trans (hb.mono hB.size); obtain ⟨⟨p0, p1, p2⟩, d0, d1, d2⟩ := HT.out _ hB)
      | (go_at_call 6; (with_reducible refine (HFD.out _).mono ?_); rintro e w3 ⟨rfl, hb⟩; have hB := hB.trans (hb.mono hB.size); obtain ⟨⟨p0, p1, p2⟩, d0, d1, d2⟩ := HT.out _ hB)
      | (go_at_call 13; (with_reducible refine (HK.out _ hB).mono ?_); rintro e w3 ⟨rfl, hb⟩; have hB := hB.trans (hb.mono hB.size); obtain ⟨⟨p0, p1, p2⟩, d0, d1, d2⟩ := HT.out _ hB)
      | fail)
    go_ret
    exact ⟨ret_true (by first | rfl | (simp; done) | (simp; omega)), HB.out.trans (hB.mono HB.out.size)⟩

end Go.Proofs.YthkhonkibigdaaaGreat.Delta
