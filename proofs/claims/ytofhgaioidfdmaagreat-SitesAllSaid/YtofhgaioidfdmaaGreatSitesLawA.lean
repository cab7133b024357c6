/-
  The laws of layer 14, walked on what the package's functions come to: what the document says, told.
-/
import Derived.Test.YtofhgaioidfdmaaGreatSitesPkg
set_option linter.unusedVariables false
namespace Go.Proofs.YtofhgaioidfdmaaGreat.Sites
open Go.RowKit Mem _root_.Go.Proofs.YtofhgaioidfdmaaGreat.Arena _root_.Go.Proofs.YtofhgaioidfdmaaGreat.Delta _root_.Go.Proofs.YtofhgaioidfdmaaGreat.Path _root_.Go.Proofs.YtofhgaioidfdmaaGreat.Cat _root_.Go.Proofs.YtofhgaioidfdmaaGreat.Kinds
attribute [local go_sem ↓] Go.wp_at_zero Go.wp_at_succ

set_option maxRecDepth 100000 in
set_option maxHeartbeats 4000000 in
theorem sitesAll_of (C : SPkg) (K : Works) (p : Prg) (w : World) (hp : p.In w) :
    Calls Tryz.prog 3 #[.agg #[.int .i64 p.ps, .slice p.A p.vs.length p.c, .slice p.B p.xs.length p.e]] w fun e w' => e = .returned (.bool true) ∧ Below w.heap.size w w' := by
  have hB0 : Below w.heap.size w (w.alloc (.cells #[.int .i64 p.ps, .slice p.A p.vs.length p.c, .slice p.B p.xs.length p.e] 25)) := (Below.refl _ _).alloc (Nat.le_refl _) _
  have bX := Blk.new w 25 #[.int .i64 p.ps, .slice p.A p.vs.length p.c, .slice p.B p.xs.length p.e]
  have hi := hp.at hB0
  obtain ⟨wQ, hwQ⟩ : ∃ wQ, w.alloc (.cells #[.int .i64 p.ps, .slice p.A p.vs.length p.c, .slice p.B p.xs.length p.e] 25) = wQ := ⟨_, rfl⟩
  rw [hwQ] at hB0 bX hi
  have hgl := bX.lt
  have HBX := Lib.hid (fun W (h : Below wQ.heap.size wQ W) => (bX.below h hgl).three)
  have HP := Lib.hid hi
  have HWQ := Lib.hid hwQ
  have HW := Lib.hid K
  have HF := Lib.hid (fun W => ref_Few_any p W)
  have HFP := Lib.hid (fun W (h : p.In W) => few_prg (p := p) (w := W) h)
  have HML := sites_len p.xs
  have HA := Lib.hid (fun W h => (C.all p W h).mono (fun e w' q => q.one))
  have HR := Lib.hid (fun W h => (ref_All_any p W h).mono (fun e w' q => q.one))
  clear hp bX hwQ hi
  generalize pcheck p.ps p.vs p.xs = e9 at *
  have HMM : (mall e9 (msites p.xs)).length ≤ p.xs.length * 5 := by
    unfold mall
    by_cases h : e9 = 0
    · rw [if_pos h]; exact HML
    · rw [if_neg h]; simp
  generalize mall e9 (msites p.xs) = M at *
  generalize hf : (decide (p.xs.length ≤ 60) && decide (p.vs.length ≤ 20)) = f at *
  cases f with
  | false =>
    go_enter Tryz.func3, Tryz.ntmps3
    go_wp2_with (first
      | (go_at_call 10; rw [HWQ.out]; refine (HW.out _).mono ?_; rintro e w2 ⟨rfl, hb2⟩; obtain ⟨b0, b1, b2⟩ := HBX.out _ hb2)
      | (go_at_call 11; refine (HF.out _).mono ?_; rintro e w3 ⟨rfl, hb⟩; have hb3 := hb2.trans (hb.mono hb2.size))
      | fail)
    go_ret
    exact ⟨rfl, hB0.trans (hb3.mono hB0.size)⟩
  | true =>
    have hM : M.length ≤ 1000000 := by
      have := (HFP.out _ HP.out rfl).2
      omega
    have HSM := Lib.hid (fun A c A' c' W (h : MRow W A M) (h' : MRow W A' M) => show Calls Tryz.prog 14 #[.slice A M.length c, .slice A' M.length c'] W (fun e w' => e = .returned (.bool true) ∧ Below W.heap.size W w') from by
      have q := Sites.ref_Same_any A c M A' c' M W h h' hM
      rw [show decide (M = M) = true by simp] at q
      exact q)
    have HOK := Lib.hid (fun W (h : Below wQ.heap.size wQ W) => (HFP.out _ (HP.out.at h) rfl).1)
    have e3 : (e9 == e9) = true := by simp
    clear HMM hM HML hf
    go_enter Tryz.func3, Tryz.ntmps3
    go_wp2_with (first
      | (go_at_call 10; rw [HWQ.out]; refine (HW.out _).mono ?_; rintro e w2 ⟨rfl, hb2⟩; obtain ⟨b0, b1, b2⟩ := HBX.out _ hb2)
      | (go_at_call 11; refine (HF.out _).mono ?_; rintro e w3 ⟨rfl, hb⟩; have hb3 := hb2.trans (hb.mono hb2.size); obtain ⟨b0, b1, b2⟩ := HBX.out _ hb3)
      | (go_at_call 12; refine (HA.out _ (HOK.out _ hb3)).mono ?_; rintro e w4 ⟨hb, A4, c4, rfl, hm4⟩; have hb4 := hb3.trans (hb.mono hb3.size); obtain ⟨b0, b1, b2⟩ := HBX.out _ hb4)
      | (go_at_call 13; refine (HR.out _ (HOK.out _ hb4)).mono ?_; rintro e w5 ⟨hb, A5, c5, rfl, hm5⟩; have hb5 := hb4.trans (hb.mono hb4.size); have hm4 := hm4.at hb)
      | (go_at_call 14; refine (HSM.out _ _ _ _ _ hm4 hm5).mono ?_; rintro e w6 ⟨rfl, hb⟩; have hb6 := hb5.trans (hb.mono hb5.size))
      | fail)
    go_ret
    exact ⟨ret_yes (by simp), hB0.trans (hb6.mono hB0.size)⟩

set_option maxRecDepth 100000 in
set_option maxHeartbeats 4000000 in
theorem sitesMutant_of (C : SPkg) (K : Works) (p : Prg) (d : Dlt) (w : World) (hp : p.In w) (hd : d.In w) :
    Calls Tryz.prog 4 #[.agg #[.int .i64 p.ps, .slice p.A p.vs.length p.c, .slice p.B p.xs.length p.e], .agg #[.slice d.A d.p.length d.c, .int .i64 d.op, .int .i64 d.n]] w fun e w' => e = .returned (.bool true) ∧ Below w.heap.size w w' := by
  have hB1 : Below w.heap.size w (w.alloc (.cells #[.int .i64 p.ps, .slice p.A p.vs.length p.c, .slice p.B p.xs.length p.e] 25)) := (Below.refl _ _).alloc (Nat.le_refl _) _
  have hB0 := hB1.alloc hB1.size (.cells #[.slice d.A d.p.length d.c, .int .i64 d.op, .int .i64 d.n] 34)
  have bX := (Blk.new w 25 #[.int .i64 p.ps, .slice p.A p.vs.length p.c, .slice p.B p.xs.length p.e]).alloc (.cells #[.slice d.A d.p.length d.c, .int .i64 d.op, .int .i64 d.n] 34)
  have bD := Blk.new (w.alloc (.cells #[.int .i64 p.ps, .slice p.A p.vs.length p.c, .slice p.B p.xs.length p.e] 25)) 34 #[.slice d.A d.p.length d.c, .int .i64 d.op, .int .i64 d.n]
  rw [World.size_alloc] at bD
  have hi := hp.at hB0
  have hj := hd.at hB0
  obtain ⟨wQ, hwQ⟩ : ∃ wQ, (w.alloc (.cells #[.int .i64 p.ps, .slice p.A p.vs.length p.c, .slice p.B p.xs.length p.e] 25)).alloc (.cells #[.slice d.A d.p.length d.c, .int .i64 d.op, .int .i64 d.n] 34) = wQ := ⟨_, rfl⟩
  rw [hwQ] at hB0 bX bD hi hj
  have hgl := bX.lt
  have hgd := bD.lt
  have HBX := Lib.hid (fun W (h : Below wQ.heap.size wQ W) => And.intro (bX.below h hgl).three (bD.below h hgd).three)
  have HP := Lib.hid hi
  have HD := Lib.hid hj
  have HWQ := Lib.hid hwQ
  have HW := Lib.hid K
  have HF := Lib.hid (fun W => ref_Few_any p W)
  have HFP := Lib.hid (fun W (h : p.In W) => few_prg (p := p) (w := W) h)
  have HFW := Lib.hid (fun W (h : Below wQ.heap.size wQ W) => few_one (d := d) (Blk.new W 34 #[.slice d.A d.p.length d.c, .int .i64 d.op, .int .i64 d.n]) (hj.at (h.alloc h.size _)))
  have HA := Lib.hid (fun W h h' => (C.mutant p d W h h').mono (fun e w' q => MEndsE.one q))
  have HR := Lib.hid (fun W h h' => (ref_Mutant_any p d W h h').mono (fun e w' q => MEndsE.one q))
  clear hp hd bX bD hwQ hi hj hB1
  generalize merr p.ps p.vs p.xs d.p d.op d.n = E at *
  generalize anew p.xs d.p d.op d.n = R at *
  generalize mps E p.ps = ps at *
  generalize mvs E p.vs = vs at *
  generalize mxs E R = xs at *
  generalize hf : (decide (p.xs.length ≤ 60) && decide (p.vs.length ≤ 20)) = f at *
  cases f with
  | false =>
    go_enter Tryz.func4, Tryz.ntmps4
    go_wp2_with (first
      | (go_at_call 10; rw [HWQ.out]; refine (HW.out _).mono ?_; rintro e w2 ⟨rfl, hb2⟩; obtain ⟨⟨b0, b1, b2⟩, d0, d1, d2⟩ := HBX.out _ hb2)
      | (go_at_call 11; refine (HF.out _).mono ?_; rintro e w3 ⟨rfl, hb⟩; have hb3 := hb2.trans (hb.mono hb2.size))
      | fail)
    go_ret
    exact ⟨rfl, hB0.trans (hb3.mono hB0.size)⟩
  | true =>
    have HOK := Lib.hid (fun W (h : Below wQ.heap.size wQ W) => (HFP.out _ (HP.out.at h) rfl).1)
    by_cases h60 : d.p.length ≤ 60
    · rw [decide_eq_true h60] at HFW
      have HDK := Lib.hid (fun W (h : Below wQ.heap.size wQ W) => (HD.out.at h).ok (by omega))
      have HSM := Lib.hid (fun A c B ce A' c' B' ce' W (h : Prg.Ok ⟨ps, A, c, vs, B, ce, xs⟩ W) (h' : Prg.Ok ⟨ps, A', c', vs, B', ce', xs⟩ W) => show Calls Tryz.prog 18 #[.agg #[.int .i64 ps, .slice A vs.length c, .slice B xs.length ce], .agg #[.int .i64 ps, .slice A' vs.length c', .slice B' xs.length ce']] W (fun e w' => e = .returned (.bool true) ∧ Below W.heap.size W w') from (by
        have q := Kinds.ref_Same_any ⟨ps, A, c, vs, B, ce, xs⟩ ⟨ps, A', c', vs, B', ce', xs⟩ W h h'
        rw [show decide (vs = vs ∧ xs = xs ∧ ps = ps) = true from by simp] at q
        exact q))
      have e3 : (E == E) = true := by simp
      clear hf h60
      go_enter Tryz.func4, Tryz.ntmps4
      go_wp2_with (first
        | (go_at_call 10; rw [HWQ.out]; refine (HW.out _).mono ?_; rintro e w2 ⟨rfl, hb2⟩; obtain ⟨⟨b0, b1, b2⟩, d0, d1, d2⟩ := HBX.out _ hb2)
        | (go_at_call 11; refine (HF.out _).mono ?_; rintro e w3 ⟨rfl, hb⟩; have hb3 := hb2.trans (hb.mono hb2.size); obtain ⟨⟨b0, b1, b2⟩, d0, d1, d2⟩ := HBX.out _ hb3)
        | (go_at_call 15; refine (HFW.out _ hb3).mono ?_; rintro e w4 ⟨rfl, rfl⟩; have hb4 := hb3.alloc hb3.size (.cells #[.slice d.A d.p.length d.c, .int .i64 d.op, .int .i64 d.n] 34); obtain ⟨⟨b0, b1, b2⟩, d0, d1, d2⟩ := HBX.out _ hb4)
        | fail)
      refine (HA.out _ (HOK.out _ hb4) (HDK.out _ hb4)).mono ?_
      rintro e w5 ⟨hb, A5, c5, B5, ce5, rfl, hok5⟩
      have hb5 := hb4.trans (hb.mono hb4.size)
      have hBa : Below w5.heap.size w5 (w5.alloc (.cells #[.int .i64 ps, .slice A5 vs.length c5, .slice B5 xs.length ce5] 25)) := (Below.refl _ _).alloc (Nat.le_refl _) _
      have hb6 := hb5.trans (hBa.mono hb5.size)
      have hok6 := hok5.at hBa
      have bq := Blk.new w5 25 #[.int .i64 ps, .slice A5 vs.length c5, .slice B5 xs.length ce5]
      obtain ⟨⟨b0, b1, b2⟩, d0, d1, d2⟩ := HBX.out _ hb6
      go_wp2_with fail
      refine (HR.out _ (HOK.out _ hb6) (HDK.out _ hb6)).mono ?_
      rintro e w7 ⟨hb, A7, c7, B7, ce7, rfl, hok7⟩
      have hb7 := hb6.trans (hb.mono hb6.size)
      have hBc : Below w7.heap.size w7 (w7.alloc (.cells #[.int .i64 ps, .slice A7 vs.length c7, .slice B7 xs.length ce7] 25)) := (Below.refl _ _).alloc (Nat.le_refl _) _
      have hb8 := hb7.trans (hBc.mono hb7.size)
      have hok8 := hok7.at hBc
      have hok9 := (hok6.at hb).at hBc
      have bq7 := bq.below hb bq.lt
      obtain ⟨q0, q1, q2⟩ := (bq7.below hBc bq7.lt).three
      obtain ⟨c0, c1, c2⟩ := (Blk.new w7 25 #[.int .i64 ps, .slice A7 vs.length c7, .slice B7 xs.length ce7]).three
      go_wp2_with (go_at_call 18; refine (HSM.out _ _ _ _ _ _ _ _ _ hok9 hok8).mono ?_; rintro e w9 ⟨rfl, hb⟩; have hb9 := hb8.trans (hb.mono hb8.size))
      go_ret
      exact ⟨ret_yes (by simp), hB0.trans (hb9.mono hB0.size)⟩
    · rw [decide_eq_false h60] at HFW
      go_enter Tryz.func4, Tryz.ntmps4
      go_wp2_with (first
        | (go_at_call 10; rw [HWQ.out]; refine (HW.out _).mono ?_; rintro e w2 ⟨rfl, hb2⟩; obtain ⟨⟨b0, b1, b2⟩, d0, d1, d2⟩ := HBX.out _ hb2)
        | (go_at_call 11; refine (HF.out _).mono ?_; rintro e w3 ⟨rfl, hb⟩; have hb3 := hb2.trans (hb.mono hb2.size); obtain ⟨⟨b0, b1, b2⟩, d0, d1, d2⟩ := HBX.out _ hb3)
        | (go_at_call 15; refine (HFW.out _ hb3).mono ?_; rintro e w4 ⟨rfl, rfl⟩; have hb4 := hb3.alloc hb3.size (.cells #[.slice d.A d.p.length d.c, .int .i64 d.op, .int .i64 d.n] 34); obtain ⟨⟨b0, b1, b2⟩, d0, d1, d2⟩ := HBX.out _ hb4)
        | fail)
      go_ret
      exact ⟨rfl, hB0.trans (hb4.mono hB0.size)⟩

end Go.Proofs.YtofhgaioidfdmaaGreat.Sites
