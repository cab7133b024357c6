/-
  The laws of layer 12, walked: deltas stand in one order.
-/
import Derived.Test.YthkhonkibigdaaaDeltaLawC
import Derived.Deep.RegionHeld3
import Derived.Deep.DrawnRows
import Derived.Deep.CutBlock
import Derived.Deep.CutRange
namespace Go.Proofs.Ythkhonkibigdaaa.Delta
open Go.RowKit Leb Mem Wire _root_.Go.Proofs.Ythkhonkibigdaaa.Arena _root_.Go.Proofs.Ythkhonkibigdaaa.Kinds _root_.Go.Proofs.Ythkhonkibigdaaa.Path _root_.Go.Proofs.Ythkhonkibigdaaa.Code
set_option linter.unusedVariables false
attribute [local go_sem ↓] Go.wp_at_zero Go.wp_at_succ

theorem three_rng (a b : Int) : -1 ≤ three a b ∧ three a b ≤ 1 := by
  unfold three
  repeat' split
  all_goals omega
theorem dcmp_rng (p : List Int) (op n : Int) (p' : List Int) (op' n' : Int) : -1 ≤ dcmp p op n p' op' n' ∧ dcmp p op n p' op' n' ≤ 1 := by
  unfold dcmp
  split
  · have := cmp_three p p'; omega
  · split
    · exact three_rng _ _
    · exact three_rng _ _
/-- Deltas that may be put have the same bytes just if they are alike. -/
theorem dput_same {p p' : List Int} {op op' n n' : Int} (g : Right p op) (g' : Right p' op') (h : N64 n) (h' : N64 n') : ((⟨(dput p op n).toArray⟩ : ByteArray).toList == (⟨(dput p' op' n').toArray⟩ : ByteArray).toList) = (dcmp p op n p' op' n' == 0) := by
  rw [Bool.eq_iff_iff]
  simp only [beq_iff_eq]
  rw [ByteArray.toList_eq, ByteArray.toList_eq, dcmp_zero]
  constructor
  · intro q
    have q' : dput p op n ++ [] = dput p' op' n' ++ [] := by simpa using q
    exact (dput_one g g' h.1 h.2 h'.1 h'.2 q').1
  · rintro ⟨rfl, rfl, rfl⟩
    rfl

/-- Three deltas that came by value, in variables. -/
theorem three_boxes (a b c : Dlt) (w : World) : Below w.heap.size w (((w.alloc (.cells #[.slice a.A a.p.length a.c, .int .i64 a.op, .int .i64 a.n] 27)).alloc (.cells #[.slice b.A b.p.length b.c, .int .i64 b.op, .int .i64 b.n] 27)).alloc (.cells #[.slice c.A c.p.length c.c, .int .i64 c.op, .int .i64 c.n] 27)) ∧ Blk (((w.alloc (.cells #[.slice a.A a.p.length a.c, .int .i64 a.op, .int .i64 a.n] 27)).alloc (.cells #[.slice b.A b.p.length b.c, .int .i64 b.op, .int .i64 b.n] 27)).alloc (.cells #[.slice c.A c.p.length c.c, .int .i64 c.op, .int .i64 c.n] 27)) w.heap.size 27 #[.slice a.A a.p.length a.c, .int .i64 a.op, .int .i64 a.n] ∧ Blk (((w.alloc (.cells #[.slice a.A a.p.length a.c, .int .i64 a.op, .int .i64 a.n] 27)).alloc (.cells #[.slice b.A b.p.length b.c, .int .i64 b.op, .int .i64 b.n] 27)).alloc (.cells #[.slice c.A c.p.length c.c, .int .i64 c.op, .int .i64 c.n] 27)) (w.heap.size + 1) 27 #[.slice b.A b.p.length b.c, .int .i64 b.op, .int .i64 b.n] ∧ Blk (((w.alloc (.cells #[.slice a.A a.p.length a.c, .int .i64 a.op, .int .i64 a.n] 27)).alloc (.cells #[.slice b.A b.p.length b.c, .int .i64 b.op, .int .i64 b.n] 27)).alloc (.cells #[.slice c.A c.p.length c.c, .int .i64 c.op, .int .i64 c.n] 27)) (w.heap.size + 1 + 1) 27 #[.slice c.A c.p.length c.c, .int .i64 c.op, .int .i64 c.n] := by
  refine ⟨(((Below.refl _ _).alloc (Nat.le_refl _) _).alloc (by simp) _).alloc (by simp; omega) _, ((Blk.new w _ _).alloc _).alloc _, ?_, ?_⟩
  · have := (Blk.new (w.alloc (.cells #[.slice a.A a.p.length a.c, .int .i64 a.op, .int .i64 a.n] 27)) 27 #[.slice b.A b.p.length b.c, .int .i64 b.op, .int .i64 b.n]).alloc (.cells #[.slice c.A c.p.length c.c, .int .i64 c.op, .int .i64 c.n] 27)
    rwa [World.size_alloc] at this
  · have := Blk.new ((w.alloc (.cells #[.slice a.A a.p.length a.c, .int .i64 a.op, .int .i64 a.n] 27)).alloc (.cells #[.slice b.A b.p.length b.c, .int .i64 b.op, .int .i64 b.n] 27)) 27 #[.slice c.A c.p.length c.c, .int .i64 c.op, .int .i64 c.n]
    rwa [World.size_alloc, World.size_alloc] at this

theorem put_one (C : Pkg) (d : Dlt) (hn : N64 d.n) : ∃ (T : ByteArray) (E : Int),
    ∀ W, d.Ok W → Calls Try.prog 14 #[.agg #[.slice d.A d.p.length d.c, .int .i64 d.op, .int .i64 d.n]] W fun e w' => e = .returned (.tuple #[.string T, .int .i64 E]) ∧ Below W.heap.size W w' := by
  by_cases hr : Right d.p d.op
  · exact ⟨⟨(dput d.p d.op d.n).toArray⟩, 0, fun W h => C.put d W h hr hn⟩
  · exact ⟨⟨#[]⟩, 17, fun W h => C.putNo d W h hr⟩

set_option maxRecDepth 100000 in
set_option maxHeartbeats 4000000 in
theorem deltaOrder_of (C : Pkg) (a b c : Dlt) (w : World) (ha : a.In w) (hb : b.In w) (hc : c.In w) :
    Calls Try.prog 6 #[.agg #[.slice a.A a.p.length a.c, .int .i64 a.op, .int .i64 a.n], .agg #[.slice b.A b.p.length b.c, .int .i64 b.op, .int .i64 b.n], .agg #[.slice c.A c.p.length c.c, .int .i64 c.op, .int .i64 c.n]] w fun e w' => e = .returned (.bool true) ∧ Below w.heap.size w w' := by
  obtain ⟨w2, hw2⟩ : ∃ w2, ((w.alloc (.cells #[.slice a.A a.p.length a.c, .int .i64 a.op, .int .i64 a.n] 27)).alloc (.cells #[.slice b.A b.p.length b.c, .int .i64 b.op, .int .i64 b.n] 27)).alloc (.cells #[.slice c.A c.p.length c.c, .int .i64 c.op, .int .i64 c.n] 27) = w2 := ⟨_, rfl⟩
  obtain ⟨hB, bA, bB, bC⟩ := three_boxes a b c w
  rw [hw2] at hB bA bB bC
  have hlA := bA.lt
  have hlB := bB.lt
  have hlC := bC.lt
  have HT := Lib.hid (fun W (h : Below w2.heap.size w2 W) => And.intro (bA.below h hlA).three (And.intro (bB.below h hlB).three (bC.below h hlC).three))
  have HB := Lib.hid hB
  have haI := ha.at hB
  have hbI := hb.at hB
  have hcI := hc.at hB
  have HAI := Lib.hid (fun W (h : Below w2.heap.size w2 W) => haI.at h)
  have HBI := Lib.hid (fun W (h : Below w2.heap.size w2 W) => hbI.at h)
  have HCI := Lib.hid (fun W (h : Below w2.heap.size w2 W) => hcI.at h)
  have HW2 := Lib.hid hw2
  have HW := Lib.hid (fun W => Delta.works_any C W)
  have HFD := Lib.hid (fun d W => Delta.few_any d W)
  have hna := ha.n64
  have hnb := hb.n64
  clear ha hb hc hw2 hB bA bB bC haI hbI hcI hlA hlB hlC
  cases ha : fewD a with
  | false =>
    have FA := Lib.hid (fun W => HFD.out a W)
    rw [ha] at FA
    clear ha HFD
    go_enter Try.func6, Try.ntmps6
    go_wp2_with (first
      | (go_at_call 8; rw [HW2.out]; refine (HW.out _).mono ?_; rintro e w3 ⟨rfl, hB⟩; obtain ⟨⟨a0, a1, a2⟩, ⟨b0, b1, b2⟩, c0, c1, c2⟩ := HT.out _ hB)
      | (go_at_call 10; first
        | ((with_reducible refine (FA.out _).mono ?_); rintro e w3 ⟨rfl, hb⟩; have hB := hB.trans (hb.mono hB.size); obtain ⟨⟨a0, a1, a2⟩, ⟨b0, b1, b2⟩, c0, c1, c2⟩ := HT.out _ hB)
        | fail)
      | fail)
    go_ret
    exact ⟨rfl, HB.out.trans (hB.mono HB.out.size)⟩
  | true =>
  have FA := Lib.hid (fun W => HFD.out a W)
  rw [ha] at FA
  have q1 := fewD_ok ha
  clear ha
  cases hb : fewD b with
  | false =>
    have FB := Lib.hid (fun W => HFD.out b W)
    rw [hb] at FB
    clear hb HFD
    go_enter Try.func6, Try.ntmps6
    go_wp2_with (first
      | (go_at_call 8; rw [HW2.out]; refine (HW.out _).mono ?_; rintro e w3 ⟨rfl, hB⟩; obtain ⟨⟨a0, a1, a2⟩, ⟨b0, b1, b2⟩, c0, c1, c2⟩ := HT.out _ hB)
      | (go_at_call 10; first
        | ((with_reducible refine (FA.out _).mono ?_); rintro e w3 ⟨rfl, hb⟩; have hB := hB.trans (hb.mono hB.size); obtain ⟨⟨a0, a1, a2⟩, ⟨b0, b1, b2⟩, c0, c1, c2⟩ := HT.out _ hB)
        | ((with_reducible refine (FB.out _).mono ?_); rintro e w3 ⟨rfl, hb⟩; have hB := hB.trans (hb.mono hB.size); obtain ⟨⟨a0, a1, a2⟩, ⟨b0, b1, b2⟩, c0, c1, c2⟩ := HT.out _ hB)
        | fail)
      | fail)
    go_ret
    exact ⟨rfl, HB.out.trans (hB.mono HB.out.size)⟩
  | true =>
  have FB := Lib.hid (fun W => HFD.out b W)
  rw [hb] at FB
  have q2 := fewD_ok hb
  clear hb
  cases hc : fewD c with
  | false =>
    have FC := Lib.hid (fun W => HFD.out c W)
    rw [hc] at FC
    clear hc HFD
    go_enter Try.func6, Try.ntmps6
    go_wp2_with (first
      | (go_at_call 8; rw [HW2.out]; refine (HW.out _).mono ?_; rintro e w3 ⟨rfl, hB⟩; obtain ⟨⟨a0, a1, a2⟩, ⟨b0, b1, b2⟩, c0, c1, c2⟩ := HT.out _ hB)
      | (go_at_call 10; first
        | ((with_reducible refine (FA.out _).mono ?_); rintro e w3 ⟨rfl, hb⟩; have hB := hB.trans (hb.mono hB.size); obtain ⟨⟨a0, a1, a2⟩, ⟨b0, b1, b2⟩, c0, c1, c2⟩ := HT.out _ hB)
        | ((with_reducible refine (FB.out _).mono ?_); rintro e w3 ⟨rfl, hb⟩; have hB := hB.trans (hb.mono hB.size); obtain ⟨⟨a0, a1, a2⟩, ⟨b0, b1, b2⟩, c0, c1, c2⟩ := HT.out _ hB)
        | ((with_reducible refine (FC.out _).mono ?_); rintro e w3 ⟨rfl, hb⟩; have hB := hB.trans (hb.mono hB.size); obtain ⟨⟨a0, a1, a2⟩, ⟨b0, b1, b2⟩, c0, c1, c2⟩ := HT.out _ hB)
        | fail)
      | fail)
    go_ret
    exact ⟨rfl, HB.out.trans (hB.mono HB.out.size)⟩
  | true =>
  have FC := Lib.hid (fun W => HFD.out c W)
  rw [hc] at FC
  have q3 := fewD_ok hc
  clear hc
  have K1 := Lib.hid (fun W (h : Below w2.heap.size w2 W) => C.compare a b W ((HAI.out W h).ok q1) ((HBI.out W h).ok q2))
  have K2 := Lib.hid (fun W (h : Below w2.heap.size w2 W) => C.compare b c W ((HBI.out W h).ok q2) ((HCI.out W h).ok q3))
  have K3 := Lib.hid (fun W (h : Below w2.heap.size w2 W) => C.compare a c W ((HAI.out W h).ok q1) ((HCI.out W h).ok q3))
  have K4 := Lib.hid (fun W (h : Below w2.heap.size w2 W) => C.compare b a W ((HBI.out W h).ok q2) ((HAI.out W h).ok q1))
  have K5 := Lib.hid (fun W (h : Below w2.heap.size w2 W) => C.same a b W ((HAI.out W h).ok q1) ((HBI.out W h).ok q2))
  have K6 := Lib.hid (fun W (h : Below w2.heap.size w2 W) => ref_DCompare_any a b W ((HAI.out W h).ok q1) ((HBI.out W h).ok q2))
  rw [dcmp_turn a.p a.op a.n b.p b.op b.n] at K4
  have ht := fun h h' => dcmp_trans (p := a.p) (op := a.op) (n := a.n) (p' := b.p) (op' := b.op) (n' := b.n) (p2 := c.p) (op2 := c.op) (n2 := c.n) h h'
  have h3 := dcmp_rng a.p a.op a.n b.p b.op b.n
  have HSM := Lib.hid (fun (g : Right a.p a.op) (g' : Right b.p b.op) => dput_same g g' hna hnb)
  generalize dcmp a.p a.op a.n b.p b.op b.n = r1 at *
  generalize dcmp b.p b.op b.n c.p c.op c.n = r2 at *
  generalize dcmp a.p a.op a.n c.p c.op c.n = r3 at *
  have hu : IntKind.i64.wrap (-r1) = -r1 := IntWalk.i64_in _ (by omega)
  have HTR := Lib.hid (show 0 < r1 ∨ 0 < r2 ∨ r3 ≤ 0 by
    by_cases q1 : 0 < r1
    · exact .inl q1
    · by_cases q2 : 0 < r2
      · exact .inr (.inl q2)
      · exact .inr (.inr (ht (by omega) (by omega))))
  clear ht h3
  go_enter Try.func6, Try.ntmps6
  go_upto_region 6 with (first
    | (go_at_call 8; rw [HW2.out]; refine (HW.out _).mono ?_; rintro e w3 ⟨rfl, hB⟩; obtain ⟨⟨a0, a1, a2⟩, ⟨b0, b1, b2⟩, c0, c1, c2⟩ := HT.out _ hB)
    | (go_at_call 10; first
        | ((with_reducible refine (FA.out _).mono ?_); rintro e w3 ⟨rfl, hb⟩; have hB := hB.trans (hb.mono hB.size); obtain ⟨⟨a0, a1, a2⟩, ⟨b0, b1, b2⟩, c0, c1, c2⟩ := HT.out _ hB)
        | ((with_reducible refine (FB.out _).mono ?_); rintro e w3 ⟨rfl, hb⟩; have hB := hB.trans (hb.mono hB.size); obtain ⟨⟨a0, a1, a2⟩, ⟨b0, b1, b2⟩, c0, c1, c2⟩ := HT.out _ hB)
        | ((with_reducible refine (FC.out _).mono ?_); rintro e w3 ⟨rfl, hb⟩; have hB := hB.trans (hb.mono hB.size); obtain ⟨⟨a0, a1, a2⟩, ⟨b0, b1, b2⟩, c0, c1, c2⟩ := HT.out _ hB)
        | fail)
    | fail)
  have hC := HT.out _ hB
  have hB := hB.drew
  go_region_held3 (fun w' => (w'.cell? ⟨w.heap.size, 0, none⟩ = some (.slice a.A a.p.length a.c) ∧ w'.cell? ⟨w.heap.size, 1, none⟩ = some (.int .i64 a.op) ∧ w'.cell? ⟨w.heap.size, 2, none⟩ = some (.int .i64 a.n)) ∧ (w'.cell? ⟨w.heap.size + 1, 0, none⟩ = some (.slice b.A b.p.length b.c) ∧ w'.cell? ⟨w.heap.size + 1, 1, none⟩ = some (.int .i64 b.op) ∧ w'.cell? ⟨w.heap.size + 1, 2, none⟩ = some (.int .i64 b.n)) ∧ (w'.cell? ⟨w.heap.size + 1 + 1, 0, none⟩ = some (.slice c.A c.p.length c.c) ∧ w'.cell? ⟨w.heap.size + 1 + 1, 1, none⟩ = some (.int .i64 c.op) ∧ w'.cell? ⟨w.heap.size + 1 + 1, 2, none⟩ = some (.int .i64 c.n))) (exact hC) (first
    | (go_at_call 20; first
        | ((with_reducible refine (K1.out _ hB).mono ?_); rintro e w4 ⟨rfl, hb⟩; have hB := hB.trans (hb.mono hB.size); have hC := HT.out _ hB)
        | ((with_reducible refine (K2.out _ hB).mono ?_); rintro e w4 ⟨rfl, hb⟩; have hB := hB.trans (hb.mono hB.size); have hC := HT.out _ hB)
        | ((with_reducible refine (K3.out _ hB).mono ?_); rintro e w4 ⟨rfl, hb⟩; have hB := hB.trans (hb.mono hB.size); have hC := HT.out _ hB)
        | fail)
    | fail)
  clear K1 K2 K3
  obtain ⟨⟨a0, a1, a2⟩, ⟨b0, b1, b2⟩, c0, c1, c2⟩ := HT.out _ hB
  by_cases ga : Right a.p a.op
  · have P1 := Lib.hid (fun W (h : Below w2.heap.size w2 W) => C.put a W ((HAI.out W h).ok q1) ga hna)
    by_cases gb : Right b.p b.op
    · have P2 := Lib.hid (fun W (h : Below w2.heap.size w2 W) => C.put b W ((HBI.out W h).ok q2) gb hnb)
      have hs := HSM.out ga gb
      clear ga gb HSM
      generalize (⟨(dput a.p a.op a.n).toArray⟩ : ByteArray) = Ta at *
      generalize (⟨(dput b.p b.op b.n).toArray⟩ : ByteArray) = Tb at *
      go_wp2_with (first
        | (go_at_call 14; first
            | ((with_reducible refine (P1.out _ hB).mono ?_); rintro e w4 ⟨rfl, hb⟩; have hB := hB.trans (hb.mono hB.size); obtain ⟨⟨a0, a1, a2⟩, ⟨b0, b1, b2⟩, c0, c1, c2⟩ := HT.out _ hB)
            | ((with_reducible refine (P2.out _ hB).mono ?_); rintro e w4 ⟨rfl, hb⟩; have hB := hB.trans (hb.mono hB.size); obtain ⟨⟨a0, a1, a2⟩, ⟨b0, b1, b2⟩, c0, c1, c2⟩ := HT.out _ hB)
            | fail)
        | (go_at_call 21; (with_reducible refine (K6.out _ hB).mono ?_); rintro e w4 ⟨rfl, hb⟩; have hB := hB.trans (hb.mono hB.size); obtain ⟨⟨a0, a1, a2⟩, ⟨b0, b1, b2⟩, c0, c1, c2⟩ := HT.out _ hB)
        | (go_at_call 20; (with_reducible refine (K4.out _ hB).mono ?_); rintro e w4 ⟨rfl, hb⟩; have hB := hB.trans (hb.mono hB.size); obtain ⟨⟨a0, a1, a2⟩, ⟨b0, b1, b2⟩, c0, c1, c2⟩ := HT.out _ hB)
        | (go_at_call 16; (with_reducible refine (K5.out _ hB).mono ?_); rintro e w4 ⟨rfl, hb⟩; have hB := hB.trans (hb.mono hB.size); obtain ⟨⟨a0, a1, a2⟩, ⟨b0, b1, b2⟩, c0, c1, c2⟩ := HT.out _ hB)
        | fail)
      all_goals go_ret
      all_goals exact ⟨ret_true (by first | rfl | (simp; done) | (have q := HTR.out; simp; omega)), HB.out.trans (hB.mono HB.out.size)⟩
    · have P2 := Lib.hid (fun W (h : Below w2.heap.size w2 W) => C.putNo b W ((HBI.out W h).ok q2) gb)
      clear ga gb HSM
      generalize (⟨(dput a.p a.op a.n).toArray⟩ : ByteArray) = Ta at *
      go_wp2_with (first
        | (go_at_call 14; first
            | ((with_reducible refine (P1.out _ hB).mono ?_); rintro e w4 ⟨rfl, hb⟩; have hB := hB.trans (hb.mono hB.size); obtain ⟨⟨a0, a1, a2⟩, ⟨b0, b1, b2⟩, c0, c1, c2⟩ := HT.out _ hB)
            | ((with_reducible refine (P2.out _ hB).mono ?_); rintro e w4 ⟨rfl, hb⟩; have hB := hB.trans (hb.mono hB.size); obtain ⟨⟨a0, a1, a2⟩, ⟨b0, b1, b2⟩, c0, c1, c2⟩ := HT.out _ hB)
            | fail)
        | (go_at_call 21; (with_reducible refine (K6.out _ hB).mono ?_); rintro e w4 ⟨rfl, hb⟩; have hB := hB.trans (hb.mono hB.size); obtain ⟨⟨a0, a1, a2⟩, ⟨b0, b1, b2⟩, c0, c1, c2⟩ := HT.out _ hB)
        | (go_at_call 20; (with_reducible refine (K4.out _ hB).mono ?_); rintro e w4 ⟨rfl, hb⟩; have hB := hB.trans (hb.mono hB.size); obtain ⟨⟨a0, a1, a2⟩, ⟨b0, b1, b2⟩, c0, c1, c2⟩ := HT.out _ hB)
        | (go_at_call 16; (with_reducible refine (K5.out _ hB).mono ?_); rintro e w4 ⟨rfl, hb⟩; have hB := hB.trans (hb.mono hB.size); obtain ⟨⟨a0, a1, a2⟩, ⟨b0, b1, b2⟩, c0, c1, c2⟩ := HT.out _ hB)
        | fail)
      all_goals go_ret
      all_goals exact ⟨ret_true (by first | rfl | (simp; done) | (have q := HTR.out; simp; omega)), HB.out.trans (hB.mono HB.out.size)⟩
  · have P1 := Lib.hid (fun W (h : Below w2.heap.size w2 W) => C.putNo a W ((HAI.out W h).ok q1) ga)
    obtain ⟨Tb, Eb, hP2⟩ := put_one C b hnb
    have P2 := Lib.hid (fun W (h : Below w2.heap.size w2 W) => hP2 W ((HBI.out W h).ok q2))
    clear ga HSM hP2
    go_wp2_with (first
      | (go_at_call 14; first
          | ((with_reducible refine (P1.out _ hB).mono ?_); rintro e w4 ⟨rfl, hb⟩; have hB := hB.trans (hb.mono hB.size); obtain ⟨⟨a0, a1, a2⟩, ⟨b0, b1, b2⟩, c0, c1, c2⟩ := HT.out _ hB)
          | ((with_reducible refine (P2.out _ hB).mono ?_); rintro e w4 ⟨rfl, hb⟩; have hB := hB.trans (hb.mono hB.size); obtain ⟨⟨a0, a1, a2⟩, ⟨b0, b1, b2⟩, c0, c1, c2⟩ := HT.out _ hB)
          | fail)
      | (go_at_call 21; (with_reducible refine (K6.out _ hB).mono ?_); rintro e w4 ⟨rfl, hb⟩; have hB := hB.trans (hb.mono hB.size); obtain ⟨⟨a0, a1, a2⟩, ⟨b0, b1, b2⟩, c0, c1, c2⟩ := HT.out _ hB)
      | (go_at_call 20; (with_reducible refine (K4.out _ hB).mono ?_); rintro e w4 ⟨rfl, hb⟩; have hB := hB.trans (hb.mono hB.size); obtain ⟨⟨a0, a1, a2⟩, ⟨b0, b1, b2⟩, c0, c1, c2⟩ := HT.out _ hB)
      | (go_at_call 16; (with_reducible refine (K5.out _ hB).mono ?_); rintro e w4 ⟨rfl, hb⟩; have hB := hB.trans (hb.mono hB.size); obtain ⟨⟨a0, a1, a2⟩, ⟨b0, b1, b2⟩, c0, c1, c2⟩ := HT.out _ hB)
      | fail)
    all_goals go_ret
    all_goals exact ⟨ret_true (by first | rfl | (simp; done) | (have q := HTR.out; simp; omega)), HB.out.trans (hB.mono HB.out.size)⟩

end Go.Proofs.Ythkhonkibigdaaa.Delta
