/-
  The laws of layer 12, walked: what changed a tag, or a number, is changed back.
-/
import Derived.Test.YthkhonkibigdaaaDeltaLawA
import Derived.Test.YthkhonkibigdaaaKindsP
import Derived.Test.YthkhonkibigdaaaPathH
import Derived.Deep.RegionHeld3
import Derived.Deep.DrawnRows
import Derived.Deep.QuietTactic
namespace Go.Proofs.Ythkhonkibigdaaa.Delta
open Go.RowKit Mem _root_.Go.Proofs.Ythkhonkibigdaaa.Arena _root_.Go.Proofs.Ythkhonkibigdaaa.Kinds _root_.Go.Proofs.Ythkhonkibigdaaa.Path
set_option linter.unusedVariables false
attribute [local go_sem ↓] Go.wp_at_zero Go.wp_at_succ

theorem Dlt.Ok.again {d : Dlt} {w : World} (h : d.Ok w) (k : Int) : Dlt.Ok ⟨d.A, d.c, d.p, d.op, k⟩ w := ⟨h.path, h.len, h.cap, h.none⟩

set_option maxRecDepth 100000 in
set_option maxHeartbeats 4000000 in
theorem deltaTwice_of (C : Pkg) (p : Prg) (d : Dlt) (w : World) (hp : p.In w) (hd : d.In w) :
    Calls Try.prog 7 #[.agg #[.int .i64 p.ps, .slice p.A p.vs.length p.c, .slice p.B p.xs.length p.e], .agg #[.slice d.A d.p.length d.c, .int .i64 d.op, .int .i64 d.n]] w fun e w' => e = .returned (.bool true) ∧ Below w.heap.size w w' := by
  obtain ⟨w2, hw2⟩ : ∃ w2, (w.alloc (.cells #[.int .i64 p.ps, .slice p.A p.vs.length p.c, .slice p.B p.xs.length p.e] 25)).alloc (.cells #[.slice d.A d.p.length d.c, .int .i64 d.op, .int .i64 d.n] 27) = w2 := ⟨_, rfl⟩
  have h2 := two_boxes p d w
  rw [hw2] at h2
  have HT := Lib.hid (fun W (h : Below w2.heap.size w2 W) => h2.cells h)
  have HB := Lib.hid h2.below
  have hpI := hp.at h2.below
  have hdI := hd.at h2.below
  have HPI := Lib.hid (fun W (h : Below w2.heap.size w2 W) => hpI.at h)
  have HDI := Lib.hid (fun W (h : Below w2.heap.size w2 W) => hdI.at h)
  have HW2 := Lib.hid hw2
  have HW := Lib.hid (fun W => works_any C W)
  have HF := Lib.hid (fun W => show Calls Try.prog 9 #[.agg #[.int .i64 p.ps, .slice p.A p.vs.length p.c, .slice p.B p.xs.length p.e]] W (fun e w' => e = .returned (.bool (fewB p)) ∧ Below W.heap.size W w') from ref_Few_any p W)
  have HFD := Lib.hid (fun W => few_any d W)
  clear hp hd hw2 h2 hpI hdI
  cases hf : fewB p with
  | false =>
    rw [hf] at HF
    clear hf
    go_enter Try.func7, Try.ntmps7
    go_wp2_with (first
      | (go_at_call 8; rw [HW2.out]; refine (HW.out _).mono ?_; rintro e w3 ⟨rfl, hB⟩; obtain ⟨⟨p0, p1, p2⟩, d0, d1, d2⟩ := HT.out _ hB)
      | (go_at_call 9; (with_reducible refine (HF.out _).mono ?_); rintro e w3 ⟨rfl, hb⟩; have hB := hB.trans (hb.mono hB.size); obtain ⟨⟨p0, p1, p2⟩, d0, d1, d2⟩ := HT.out _ hB)
      | (go_at_call 10; (with_reducible refine (HFD.out _).mono ?_); rintro e w3 ⟨rfl, hb⟩; have hB := hB.trans (hb.mono hB.size); obtain ⟨⟨p0, p1, p2⟩, d0, d1, d2⟩ := HT.out _ hB)
      | fail)
    go_ret
    exact ⟨rfl, HB.out.trans (hB.mono HB.out.size)⟩
  | true =>
  rw [hf] at HF
  obtain ⟨q1, q2⟩ := few_ok hf
  have q3 := fewB_len hf
  have q60 : p.xs.length ≤ 60 := by
    unfold fewB at hf
    rw [Bool.and_eq_true] at hf
    exact of_decide_eq_true hf.1
  clear hf
  cases hg : fewD d with
  | false =>
    rw [hg] at HFD
    clear hg
    go_enter Try.func7, Try.ntmps7
    go_wp2_with (first
      | (go_at_call 8; rw [HW2.out]; refine (HW.out _).mono ?_; rintro e w3 ⟨rfl, hB⟩; obtain ⟨⟨p0, p1, p2⟩, d0, d1, d2⟩ := HT.out _ hB)
      | (go_at_call 9; (with_reducible refine (HF.out _).mono ?_); rintro e w3 ⟨rfl, hb⟩; have hB := hB.trans (hb.mono hB.size); obtain ⟨⟨p0, p1, p2⟩, d0, d1, d2⟩ := HT.out _ hB)
      | (go_at_call 10; (with_reducible refine (HFD.out _).mono ?_); rintro e w3 ⟨rfl, hb⟩; have hB := hB.trans (hb.mono hB.size); obtain ⟨⟨p0, p1, p2⟩, d0, d1, d2⟩ := HT.out _ hB)
      | fail)
    go_ret
    exact ⟨rfl, HB.out.trans (hB.mono HB.out.size)⟩
  | true =>
  rw [hg] at HFD
  have q4 := fewD_ok hg
  clear hg
  have HA := Lib.hid (fun W (h : Below w2.heap.size w2 W) => C.apply p d W ((HPI.out W h).ok q1 q2) ((HDI.out W h).ok q4) q3)
  have HFI := Lib.hid (fun W (h : Below w2.heap.size w2 W) => Path.Find_any p.B p.e p.xs d.A d.c d.p W (HPI.out W h).body q2 (HDI.out W h).path q4)
  by_cases ho : 4 < d.op
  · have j1 : (4 : Int) < d.op := ho
    clear ho HA HFI
    go_enter Try.func7, Try.ntmps7
    go_wp2_with (first
      | (go_at_call 8; rw [HW2.out]; refine (HW.out _).mono ?_; rintro e w3 ⟨rfl, hB⟩; obtain ⟨⟨p0, p1, p2⟩, d0, d1, d2⟩ := HT.out _ hB)
      | (go_at_call 9; (with_reducible refine (HF.out _).mono ?_); rintro e w3 ⟨rfl, hb⟩; have hB := hB.trans (hb.mono hB.size); obtain ⟨⟨p0, p1, p2⟩, d0, d1, d2⟩ := HT.out _ hB)
      | (go_at_call 10; (with_reducible refine (HFD.out _).mono ?_); rintro e w3 ⟨rfl, hb⟩; have hB := hB.trans (hb.mono hB.size); obtain ⟨⟨p0, p1, p2⟩, d0, d1, d2⟩ := HT.out _ hB)
      | fail)
    go_ret
    exact ⟨ret_true (by first | rfl | (simp; done) | (simp; omega)), HB.out.trans (hB.mono HB.out.size)⟩
  have j1 : ¬ (4 : Int) < d.op := ho
  by_cases h0 : aerr p.xs d.p d.op d.n = 0
  · obtain ⟨a, m, x, g1, g2, g3, g4, g5, g6, g7⟩ := aerr_zero h0
    obtain ⟨y, y1, y2, y3, y4⟩ := dch_twice g2 g3 g6 (by omega) g1
    rw [← g7] at y1 y2 y4
    rw [g1] at HFI
    have HSM := Lib.hid (fun A2 c2 B2 ce2 W (h : Prg.Ok ⟨p.ps, A2, c2, p.vs, B2, ce2, p.xs⟩ W) (h' : Below w2.heap.size w2 W) => show Calls Try.prog 13 #[.agg #[.int .i64 p.ps, .slice A2 p.vs.length c2, .slice B2 p.xs.length ce2], .agg #[.int .i64 p.ps, .slice p.A p.vs.length p.c, .slice p.B p.xs.length p.e]] W (fun e w' => e = .returned (.bool true) ∧ Below W.heap.size W w') from (by
      have q := Kinds.ref_Same_any ⟨p.ps, A2, c2, p.vs, B2, ce2, p.xs⟩ p W h ((HPI.out W h').ok q1 q2)
      rw [show decide (p.vs = p.vs ∧ p.xs = p.xs ∧ p.ps = p.ps) = true from by simp] at q
      exact q))
    by_cases h4 : d.op = 4
    · have e4 : (d.op == 4) = true := by rw [h4]; rfl
      rw [if_pos h4] at y3 y4
      have y5 : aerr (anew p.xs d.p d.op d.n) d.p d.op x.2 = 0 := by rw [aerr_at y2 y1, if_pos y3]
      have y6 : anew (anew p.xs d.p d.op d.n) d.p d.op x.2 = p.xs := by
        have e : ∀ l, anew l d.p d.op x.2 = dch l (pfind l d.p).toNat d.op x.2 := fun l => rfl
        rw [e, y2, Int.toNat_natCast]; exact y4
      clear ho h4
      have HA2 := Lib.hid (fun A c B ce W (h : Prg.Ok ⟨p.ps, A, c, p.vs, B, ce, anew p.xs d.p d.op d.n⟩ W) (h' : Below w2.heap.size w2 W) => show Calls Try.prog 11 #[.agg #[.int .i64 p.ps, .slice A p.vs.length c, .slice B (anew p.xs d.p d.op d.n).length ce], .agg #[.slice d.A d.p.length d.c, .int .i64 d.op, .int .i64 x.2]] W (fun e w' => Below W.heap.size W w' ∧ ∃ A2 c2 B2 ce2, e = .returned (.tuple #[.agg #[.int .i64 p.ps, .slice A2 p.vs.length c2, .slice B2 p.xs.length ce2], .int .i64 0]) ∧ Prg.Ok ⟨p.ps, A2, c2, p.vs, B2, ce2, p.xs⟩ w') from (by
        have q := (C.apply ⟨p.ps, A, c, p.vs, B, ce, anew p.xs d.p d.op d.n⟩ ⟨d.A, d.c, d.p, d.op, x.2⟩ W h (Dlt.Ok.again ((HDI.out W h').ok q4) x.2) (by have := anew_len h0; simp only; omega)).mono (fun e w' r => r.ok y5)
        rw [show anew (Prg.xs ⟨p.ps, A, c, p.vs, B, ce, anew p.xs d.p d.op d.n⟩) (Dlt.p ⟨d.A, d.c, d.p, d.op, x.2⟩) (Dlt.op ⟨d.A, d.c, d.p, d.op, x.2⟩) (Dlt.n ⟨d.A, d.c, d.p, d.op, x.2⟩) = p.xs from y6] at q
        exact q))
      have HA' := Lib.hid (fun W h => (HA.out W h).mono (fun e w' q => q.ok h0))
      obtain ⟨ad, hB0, -, -⟩ := (HPI.out _ (Below.refl _ _)).body a x g3
      have HG := Lib.hid (fun W (h : Below w2.heap.size w2 W) => show W.cell? (ad.add (a * 2)) = some (.int .i64 x.1) ∧ W.cell? ⟨(ad.add (a * 2)).block, (ad.add (a * 2)).off + 1, none⟩ = some (.int .i64 x.2) from by
        obtain ⟨ad', e, -, k0, k1⟩ := (HPI.out W h).body a x g3
        rw [hB0] at e
        cases e
        exact ⟨k0, k1⟩)
      have i1 : (a : Int) < (p.xs.length : Int) := by omega
      have i2 : (0 : Int) ≤ (a : Int) := by omega
      have i3 : ¬ (p.xs.length : Int) ≤ (a : Int) := by omega
      have i4 : ¬ (a : Int) < 0 := by omega
      clear HA h0 g2 g3 g6 g7 g1 g4 g5 y1 y2 y3 y4 y5 y6 q60 q3
      generalize anew p.xs d.p d.op d.n = N at *
      obtain ⟨ps, PA, pc, vs, PB, pe, xs⟩ := p
      simp only at *
      subst hB0
      go_enter Try.func7, Try.ntmps7
      go_wp2_with (first
        | (go_at_call 8; rw [HW2.out]; refine (HW.out _).mono ?_; rintro e w3 ⟨rfl, hB⟩; obtain ⟨⟨p0, p1, p2⟩, d0, d1, d2⟩ := HT.out _ hB)
        | (go_at_call 9; (with_reducible refine (HF.out _).mono ?_); rintro e w3 ⟨rfl, hb⟩; have hB := hB.trans (hb.mono hB.size); obtain ⟨⟨p0, p1, p2⟩, d0, d1, d2⟩ := HT.out _ hB)
        | (go_at_call 10; (with_reducible refine (HFD.out _).mono ?_); rintro e w3 ⟨rfl, hb⟩; have hB := hB.trans (hb.mono hB.size); obtain ⟨⟨p0, p1, p2⟩, d0, d1, d2⟩ := HT.out _ hB)
        | fail)
      refine (HA'.out _ hB).mono ?_
      rintro e w6 ⟨hb, A, c, B, ce, rfl, ok6⟩
      have hB := hB.trans (hb.mono hB.size)
      have ba := (Below.refl w6.heap.size w6).alloc (Nat.le_refl _) (.cells #[.int .i64 ps, .slice A vs.length c, .slice B N.length ce] 25)
      have hB := hB.trans (ba.mono hB.size)
      have ok7 := ok6.at ba
      have b7 := Blk.new w6 25 #[.int .i64 ps, .slice A vs.length c, .slice B N.length ce]
      obtain ⟨⟨p0, p1, p2⟩, d0, d1, d2⟩ := HT.out _ hB
      have hl7 := b7.lt
      have HN := Lib.hid (fun W (h : Below (w6.alloc (.cells #[.int .i64 ps, .slice A vs.length c, .slice B N.length ce] 25)).heap.size (w6.alloc (.cells #[.int .i64 ps, .slice A vs.length c, .slice B N.length ce] 25)) W) => And.intro (b7.below h hl7).three (ok7.at h))
      have hC := Below.refl (w6.alloc (.cells #[.int .i64 ps, .slice A vs.length c, .slice B N.length ce] 25)).heap.size (w6.alloc (.cells #[.int .i64 ps, .slice A vs.length c, .slice B N.length ce] 25))
      go_wp2_with (first
        | (go_at_call 17; (with_reducible refine (HFI.out _ hB).mono ?_); rintro e w8 ⟨rfl, hb⟩; have hB := hB.trans (hb.mono hB.size); have hC := hC.trans (hb.mono hC.size); obtain ⟨⟨p0, p1, p2⟩, d0, d1, d2⟩ := HT.out _ hB)
        | fail)
      have hB0s := hB
      obtain ⟨n0, n1⟩ := HG.out _ hB
      have hS := And.intro p2 (And.intro (And.intro d0 (And.intro d1 d2)) (And.intro n0 n1))
      go_region_held3 (fun w' => w'.cell? ⟨w.heap.size, 2, none⟩ = some (.slice (some ad) xs.length pe) ∧ (w'.cell? ⟨w.heap.size + 1, 0, none⟩ = some (.slice d.A d.p.length d.c) ∧ w'.cell? ⟨w.heap.size + 1, 1, none⟩ = some (.int .i64 d.op) ∧ w'.cell? ⟨w.heap.size + 1, 2, none⟩ = some (.int .i64 d.n)) ∧ w'.cell? (ad.add (a * 2)) = some (.int .i64 x.1) ∧ w'.cell? ⟨(ad.add (a * 2)).block, (ad.add (a * 2)).off + 1, none⟩ = some (.int .i64 x.2)) (first | exact hS | go_keep) (fail)
      have bK := (Blk.new w8 27 #[.slice d.A d.p.length d.c, .int .i64 d.op, .int .i64 x.1]).drew
      have hB := (hB.alloc hB.size (.cells #[.slice d.A d.p.length d.c, .int .i64 d.op, .int .i64 x.1] 27)).drew
      have hsC := hC.size
      have hC := (hC.alloc hC.size (.cells #[.slice d.A d.p.length d.c, .int .i64 d.op, .int .i64 x.1] 27)).drew
      have hsB := hB.size
      generalize (w8.alloc (.cells #[.slice d.A d.p.length d.c, .int .i64 d.op, .int .i64 x.1] 27)).drew = wR at *
      obtain ⟨⟨p0, p1, p2⟩, d0, d1, d2⟩ := HT.out _ hB
      obtain ⟨n0, n1⟩ := HG.out _ hB
      obtain ⟨z0, z1, z2⟩ := bK.three
      have zf := bK.frozen
      have bK := bK.set 2 (.int .i64 x.2)
      simp only [List.setIfInBounds_toArray, List.set_cons_zero, List.set_cons_succ] at bK
      have hB := hB.setCell (p := ⟨w8.heap.size, 2, none⟩) (by simp only; have := hB0s.size; omega) (.int .i64 x.2)
      have hC := hC.setCell (p := ⟨w8.heap.size, 2, none⟩) hsC (.int .i64 x.2)
      obtain ⟨z0, z1, z2⟩ := bK.three
      obtain ⟨⟨x0, x1, x2⟩, okN⟩ := HN.out _ hC
      obtain ⟨⟨p0, p1, p2⟩, d0, d1, d2⟩ := HT.out _ hB
      clear n0 n1 hS
      go_wp2_with fail
      refine (HA2.out _ _ _ _ _ okN hB).mono ?_
      rintro e wa ⟨hb, A2, c2, B2, ce2, rfl, ok9⟩
      have hB := hB.trans (hb.mono hB.size)
      have bb := (Below.refl wa.heap.size wa).alloc (Nat.le_refl _) (.cells #[.int .i64 ps, .slice A2 vs.length c2, .slice B2 xs.length ce2] 25)
      have hB := hB.trans (bb.mono hB.size)
      have okb := ok9.at bb
      obtain ⟨y0, y1, y2⟩ := (Blk.new wa 25 #[.int .i64 ps, .slice A2 vs.length c2, .slice B2 xs.length ce2]).three
      obtain ⟨⟨p0, p1, p2⟩, d0, d1, d2⟩ := HT.out _ hB
      go_wp2_with (go_at_call 13; refine (HSM.out _ _ _ _ _ okb hB).mono ?_; rintro e wc ⟨rfl, hb⟩; have hB := hB.trans (hb.mono hB.size))
      go_ret
      exact ⟨rfl, HB.out.trans (hB.mono HB.out.size)⟩
    · have e4 : (d.op == 4) = false := by simpa using h4
      rw [if_neg h4] at y3 y4
      have y5 : aerr (anew p.xs d.p d.op d.n) d.p d.op x.1 = 0 := by rw [aerr_at y2 y1, if_pos y3]
      have y6 : anew (anew p.xs d.p d.op d.n) d.p d.op x.1 = p.xs := by
        have e : ∀ l, anew l d.p d.op x.1 = dch l (pfind l d.p).toNat d.op x.1 := fun l => rfl
        rw [e, y2, Int.toNat_natCast]; exact y4
      clear ho h4
      have HA2 := Lib.hid (fun A c B ce W (h : Prg.Ok ⟨p.ps, A, c, p.vs, B, ce, anew p.xs d.p d.op d.n⟩ W) (h' : Below w2.heap.size w2 W) => show Calls Try.prog 11 #[.agg #[.int .i64 p.ps, .slice A p.vs.length c, .slice B (anew p.xs d.p d.op d.n).length ce], .agg #[.slice d.A d.p.length d.c, .int .i64 d.op, .int .i64 x.1]] W (fun e w' => Below W.heap.size W w' ∧ ∃ A2 c2 B2 ce2, e = .returned (.tuple #[.agg #[.int .i64 p.ps, .slice A2 p.vs.length c2, .slice B2 p.xs.length ce2], .int .i64 0]) ∧ Prg.Ok ⟨p.ps, A2, c2, p.vs, B2, ce2, p.xs⟩ w') from (by
        have q := (C.apply ⟨p.ps, A, c, p.vs, B, ce, anew p.xs d.p d.op d.n⟩ ⟨d.A, d.c, d.p, d.op, x.1⟩ W h (Dlt.Ok.again ((HDI.out W h').ok q4) x.1) (by have := anew_len h0; simp only; omega)).mono (fun e w' r => r.ok y5)
        rw [show anew (Prg.xs ⟨p.ps, A, c, p.vs, B, ce, anew p.xs d.p d.op d.n⟩) (Dlt.p ⟨d.A, d.c, d.p, d.op, x.1⟩) (Dlt.op ⟨d.A, d.c, d.p, d.op, x.1⟩) (Dlt.n ⟨d.A, d.c, d.p, d.op, x.1⟩) = p.xs from y6] at q
        exact q))
      have HA' := Lib.hid (fun W h => (HA.out W h).mono (fun e w' q => q.ok h0))
      obtain ⟨ad, hB0, -, -⟩ := (HPI.out _ (Below.refl _ _)).body a x g3
      have HG := Lib.hid (fun W (h : Below w2.heap.size w2 W) => show W.cell? (ad.add (a * 2)) = some (.int .i64 x.1) ∧ W.cell? ⟨(ad.add (a * 2)).block, (ad.add (a * 2)).off + 1, none⟩ = some (.int .i64 x.2) from by
        obtain ⟨ad', e, -, k0, k1⟩ := (HPI.out W h).body a x g3
        rw [hB0] at e
        cases e
        exact ⟨k0, k1⟩)
      have i1 : (a : Int) < (p.xs.length : Int) := by omega
      have i2 : (0 : Int) ≤ (a : Int) := by omega
      have i3 : ¬ (p.xs.length : Int) ≤ (a : Int) := by omega
      have i4 : ¬ (a : Int) < 0 := by omega
      clear HA h0 g2 g3 g6 g7 g1 g4 g5 y1 y2 y3 y4 y5 y6 q60 q3
      generalize anew p.xs d.p d.op d.n = N at *
      obtain ⟨ps, PA, pc, vs, PB, pe, xs⟩ := p
      simp only at *
      subst hB0
      go_enter Try.func7, Try.ntmps7
      go_wp2_with (first
        | (go_at_call 8; rw [HW2.out]; refine (HW.out _).mono ?_; rintro e w3 ⟨rfl, hB⟩; obtain ⟨⟨p0, p1, p2⟩, d0, d1, d2⟩ := HT.out _ hB)
        | (go_at_call 9; (with_reducible refine (HF.out _).mono ?_); rintro e w3 ⟨rfl, hb⟩; have hB := hB.trans (hb.mono hB.size); obtain ⟨⟨p0, p1, p2⟩, d0, d1, d2⟩ := HT.out _ hB)
        | (go_at_call 10; (with_reducible refine (HFD.out _).mono ?_); rintro e w3 ⟨rfl, hb⟩; have hB := hB.trans (hb.mono hB.size); obtain ⟨⟨p0, p1, p2⟩, d0, d1, d2⟩ := HT.out _ hB)
        | fail)
      refine (HA'.out _ hB).mono ?_
      rintro e w6 ⟨hb, A, c, B, ce, rfl, ok6⟩
      have hB := hB.trans (hb.mono hB.size)
      have ba := (Below.refl w6.heap.size w6).alloc (Nat.le_refl _) (.cells #[.int .i64 ps, .slice A vs.length c, .slice B N.length ce] 25)
      have hB := hB.trans (ba.mono hB.size)
      have ok7 := ok6.at ba
      have b7 := Blk.new w6 25 #[.int .i64 ps, .slice A vs.length c, .slice B N.length ce]
      obtain ⟨⟨p0, p1, p2⟩, d0, d1, d2⟩ := HT.out _ hB
      have hl7 := b7.lt
      have HN := Lib.hid (fun W (h : Below (w6.alloc (.cells #[.int .i64 ps, .slice A vs.length c, .slice B N.length ce] 25)).heap.size (w6.alloc (.cells #[.int .i64 ps, .slice A vs.length c, .slice B N.length ce] 25)) W) => And.intro (b7.below h hl7).three (ok7.at h))
      have hC := Below.refl (w6.alloc (.cells #[.int .i64 ps, .slice A vs.length c, .slice B N.length ce] 25)).heap.size (w6.alloc (.cells #[.int .i64 ps, .slice A vs.length c, .slice B N.length ce] 25))
      go_wp2_with (first
        | (go_at_call 17; (with_reducible refine (HFI.out _ hB).mono ?_); rintro e w8 ⟨rfl, hb⟩; have hB := hB.trans (hb.mono hB.size); have hC := hC.trans (hb.mono hC.size); obtain ⟨⟨p0, p1, p2⟩, d0, d1, d2⟩ := HT.out _ hB)
        | fail)
      have hB0s := hB
      obtain ⟨n0, n1⟩ := HG.out _ hB
      have hS := And.intro p2 (And.intro (And.intro d0 (And.intro d1 d2)) (And.intro n0 n1))
      go_region_held3 (fun w' => w'.cell? ⟨w.heap.size, 2, none⟩ = some (.slice (some ad) xs.length pe) ∧ (w'.cell? ⟨w.heap.size + 1, 0, none⟩ = some (.slice d.A d.p.length d.c) ∧ w'.cell? ⟨w.heap.size + 1, 1, none⟩ = some (.int .i64 d.op) ∧ w'.cell? ⟨w.heap.size + 1, 2, none⟩ = some (.int .i64 d.n)) ∧ w'.cell? (ad.add (a * 2)) = some (.int .i64 x.1) ∧ w'.cell? ⟨(ad.add (a * 2)).block, (ad.add (a * 2)).off + 1, none⟩ = some (.int .i64 x.2)) (first | exact hS | go_keep) (fail)
      have bK := (Blk.new w8 27 #[.slice d.A d.p.length d.c, .int .i64 d.op, .int .i64 x.1]).drew
      have hB := (hB.alloc hB.size (.cells #[.slice d.A d.p.length d.c, .int .i64 d.op, .int .i64 x.1] 27)).drew
      have hsC := hC.size
      have hC := (hC.alloc hC.size (.cells #[.slice d.A d.p.length d.c, .int .i64 d.op, .int .i64 x.1] 27)).drew
      have hsB := hB.size
      generalize (w8.alloc (.cells #[.slice d.A d.p.length d.c, .int .i64 d.op, .int .i64 x.1] 27)).drew = wR at *
      obtain ⟨⟨p0, p1, p2⟩, d0, d1, d2⟩ := HT.out _ hB
      obtain ⟨n0, n1⟩ := HG.out _ hB
      obtain ⟨z0, z1, z2⟩ := bK.three
      have zf := bK.frozen
      obtain ⟨⟨x0, x1, x2⟩, okN⟩ := HN.out _ hC
      obtain ⟨⟨p0, p1, p2⟩, d0, d1, d2⟩ := HT.out _ hB
      clear n0 n1 hS
      go_wp2_with fail
      refine (HA2.out _ _ _ _ _ okN hB).mono ?_
      rintro e wa ⟨hb, A2, c2, B2, ce2, rfl, ok9⟩
      have hB := hB.trans (hb.mono hB.size)
      have bb := (Below.refl wa.heap.size wa).alloc (Nat.le_refl _) (.cells #[.int .i64 ps, .slice A2 vs.length c2, .slice B2 xs.length ce2] 25)
      have hB := hB.trans (bb.mono hB.size)
      have okb := ok9.at bb
      obtain ⟨y0, y1, y2⟩ := (Blk.new wa 25 #[.int .i64 ps, .slice A2 vs.length c2, .slice B2 xs.length ce2]).three
      obtain ⟨⟨p0, p1, p2⟩, d0, d1, d2⟩ := HT.out _ hB
      go_wp2_with (go_at_call 13; refine (HSM.out _ _ _ _ _ okb hB).mono ?_; rintro e wc ⟨rfl, hb⟩; have hB := hB.trans (hb.mono hB.size))
      go_ret
      exact ⟨rfl, HB.out.trans (hB.mono HB.out.size)⟩
  · have HA' := Lib.hid (fun W h => (HA.out W h).mono (fun e w' q => q.no h0))
    obtain ⟨E, hE⟩ : ∃ E, aerr p.xs d.p d.op d.n = E := ⟨_, rfl⟩
    rw [hE] at HA' h0
    have e1 : (E == 0) = false := by simpa using h0
    have e2 : (E != 0) = true := by simpa using h0
    clear HA h0 hE
    clear ho
    go_enter Try.func7, Try.ntmps7
    go_wp2_with (first
      | (go_at_call 8; rw [HW2.out]; refine (HW.out _).mono ?_; rintro e w3 ⟨rfl, hB⟩; obtain ⟨⟨p0, p1, p2⟩, d0, d1, d2⟩ := HT.out _ hB)
      | (go_at_call 9; (with_reducible refine (HF.out _).mono ?_); rintro e w3 ⟨rfl, hb⟩; have hB := hB.trans (hb.mono hB.size); obtain ⟨⟨p0, p1, p2⟩, d0, d1, d2⟩ := HT.out _ hB)
      | (go_at_call 10; (with_reducible refine (HFD.out _).mono ?_); rintro e w3 ⟨rfl, hb⟩; have hB := hB.trans (hb.mono hB.size); obtain ⟨⟨p0, p1, p2⟩, d0, d1, d2⟩ := HT.out _ hB)
      | fail)
    refine (HA'.out _ hB).mono ?_
    rintro e w6 ⟨hb, A, c, B, ce, rfl, ok6⟩
    have hB := hB.trans (hb.mono hB.size)
    have ba := (Below.refl w6.heap.size w6).alloc (Nat.le_refl _) (.cells #[.int .i64 0, .slice A 0 c, .slice B 0 ce] 25)
    have hB := hB.trans (ba.mono hB.size)
    obtain ⟨x0, x1, x2⟩ := (Blk.new w6 25 #[.int .i64 0, .slice A 0 c, .slice B 0 ce]).three
    obtain ⟨⟨p0, p1, p2⟩, d0, d1, d2⟩ := HT.out _ hB
    go_wp2_with (first
      | (go_at_call 17; (with_reducible refine (HFI.out _ hB).mono ?_); rintro e w8 ⟨rfl, hb⟩; have hB := hB.trans (hb.mono hB.size); obtain ⟨⟨p0, p1, p2⟩, d0, d1, d2⟩ := HT.out _ hB)
      | fail)
    go_ret
    exact ⟨ret_true (by first | rfl | (simp; done) | (simp; omega)), HB.out.trans (hB.mono HB.out.size)⟩

end Go.Proofs.Ythkhonkibigdaaa.Delta
