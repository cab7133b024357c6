/-
  The laws of layer 10, walked: what is put is got back; what is got was put just so.
-/
import Derived.Test.YtpjijdgenojpcaaCodeWorks
import Derived.Test.YtpjijdgenojpcaaCodeH
import Derived.Test.YtpjijdgenojpcaaKindsG
import Derived.Test.YtpjijdgenojpcaaCodeG
namespace Go.Proofs.Ytpjijdgenojpcaa.Code
open Go.RowKit Leb Mem Wire _root_.Go.Proofs.Ytpjijdgenojpcaa.Arena _root_.Go.Proofs.Ytpjijdgenojpcaa.Kinds
set_option linter.unusedVariables false
attribute [local go_sem ↓] Go.wp_at_zero Go.wp_at_succ

theorem cput_len {ps : Int} {vs : List Int} {xs : List Nd} (g : Good ps vs xs) : (cput ps vs xs).length ≤ 3000 := by
  have h0 := g.ps0
  have h1 := g.ps1
  have h2 := g.vl
  have h3 := g.xl
  have l1 := lput_len10 (n := ps.toNat) (by omega)
  have l2 := lput_len10 (n := vs.length) (by omega)
  have l3 := lput_len10 (n := xs.length) (by omega)
  have l4 := flat_len xs (fun x q => tail_len (g.xs0 x q).2.2.1 (g.xs0 x q).2.2.2.1)
  unfold cput
  simp only [List.length_append, List.length_map]
  omega

set_option maxRecDepth 100000 in
set_option maxHeartbeats 2000000 in
theorem codeBack_walk (p : Prg) (w : World) (hpn : p.In w ∧ NB p.xs) :
    Calls Try.prog 3 #[.agg #[.int .i64 p.ps, .slice p.A p.vs.length p.c, .slice p.B p.xs.length p.e]] w fun e w' => e = .returned (.bool true) ∧ Below w.heap.size w w' := by
  obtain ⟨hp, hnb⟩ := hpn
  have hB0 : Below w.heap.size w (w.alloc (.cells #[.int .i64 p.ps, .slice p.A p.vs.length p.c, .slice p.B p.xs.length p.e] 25)) := (Below.refl _ _).alloc (Nat.le_refl _) _
  have bX := Blk.new w 25 #[.int .i64 p.ps, .slice p.A p.vs.length p.c, .slice p.B p.xs.length p.e]
  have hi := hp.at hB0
  obtain ⟨wQ, hwQ⟩ : ∃ wQ, w.alloc (.cells #[.int .i64 p.ps, .slice p.A p.vs.length p.c, .slice p.B p.xs.length p.e] 25) = wQ := ⟨_, rfl⟩
  rw [hwQ] at hB0 bX hi
  have hgl := bX.lt
  have HBX := Lib.hid (fun W (h : Below wQ.heap.size wQ W) => (bX.below h hgl).three)
  have HP := Lib.hid hi
  have HWQ := Lib.hid hwQ
  have HW := Lib.hid (fun W => Code.works_any pkg W)
  have HF := Lib.hid (fun W => show Calls Try.prog 8 #[.agg #[.int .i64 p.ps, .slice p.A p.vs.length p.c, .slice p.B p.xs.length p.e]] W (fun e w' => e = .returned (.bool (fewB p)) ∧ Below W.heap.size W w') from ref_Few_any p W)
  clear hp bX hwQ hi
  cases hf : fewB p with
  | false =>
    rw [hf] at HF
    go_enter Try.func3, Try.ntmps3
    go_wp2_with (first
      | (go_at_call 7; rw [HWQ.out]; refine (HW.out _).mono ?_; rintro e w2 ⟨rfl, hb2⟩; obtain ⟨b0, b1, b2⟩ := HBX.out _ hb2)
      | (go_at_call 8; refine (HF.out _).mono ?_; rintro e w3 ⟨rfl, hb⟩; have hb3 := hb2.trans (hb.mono hb2.size)))
    go_ret
    exact ⟨rfl, hB0.trans (hb3.mono hB0.size)⟩
  | true =>
    rw [hf] at HF
    obtain ⟨q1, q2⟩ := few_ok hf
    have HQ := Lib.hid (fun W (h : p.Ok W) => pkg.put p W h hnb)
    have HK := Lib.hid (fun W (h : p.Ok W) => Kinds.PCheck_any p W h)
    obtain ⟨c, hc⟩ : ∃ c, pcheck p.ps p.vs p.xs = c := ⟨_, rfl⟩
    by_cases h0 : c = 0
    · subst h0
      have g := good_of hc hnb
      have hlen := cput_len g
      have hpp : pput p.ps p.vs p.xs = cput p.ps p.vs p.xs := by unfold pput; rw [if_pos hc]
      rw [hpp, hc] at HQ
      have hfp := fits_put hc hnb (S := ⟨(cput p.ps p.vs p.xs).toArray⟩) rfl
      obtain ⟨S, hS⟩ : ∃ S : ByteArray, (⟨(cput p.ps p.vs p.xs).toArray⟩ : ByteArray) = S := ⟨_, rfl⟩
      have hsz : S.size ≤ 10000 := by rw [← hS, cstr_size]; omega
      rw [hS] at HQ hfp
      have HG := Lib.hid (fun W => (pkg.get S W hsz).mono (fun e w' h => h.ok hfp.1 hfp.2))
      have HSM := Lib.hid (fun A c B ce W (h : p.Ok W) (h' : Prg.Ok ⟨p.ps, A, c, p.vs, B, ce, p.xs⟩ W) => show Calls Try.prog 12 #[.agg #[.int .i64 p.ps, .slice p.A p.vs.length p.c, .slice p.B p.xs.length p.e], .agg #[.int .i64 p.ps, .slice A p.vs.length c, .slice B p.xs.length ce]] W (fun e w' => e = .returned (.bool true) ∧ Below W.heap.size W w') from (by
        have q := Kinds.ref_Same_any p ⟨p.ps, A, c, p.vs, B, ce, p.xs⟩ W h h'
        rw [show decide (p.vs = p.vs ∧ p.xs = p.xs ∧ p.ps = p.ps) = true from by simp] at q
        exact q))
      clear hc g hlen hpp hfp hS hsz hnb HK
      go_enter Try.func3, Try.ntmps3
      go_wp2_with (first
        | (go_at_call 7; rw [HWQ.out]; refine (HW.out _).mono ?_; rintro e w2 ⟨rfl, hb2⟩; obtain ⟨b0, b1, b2⟩ := HBX.out _ hb2)
        | (go_at_call 8; refine (HF.out _).mono ?_; rintro e w3 ⟨rfl, hb⟩; have hb3 := hb2.trans (hb.mono hb2.size); obtain ⟨b0, b1, b2⟩ := HBX.out _ hb3)
        | (go_at_call 9; refine (HQ.out _ ((HP.out.at hb3).ok q1 q2)).mono ?_; rintro e w4 ⟨rfl, hb⟩; have hb4 := hb3.trans (hb.mono hb3.size)))
      refine (HG.out _).mono ?_
      rintro e w5 ⟨hb, A, cc, B, ce, rfl, hok⟩
      have hb5 := hb4.trans (hb.mono hb4.size)
      have hBa : Below w5.heap.size w5 (w5.alloc (.cells #[.int .i64 p.ps, .slice A p.vs.length cc, .slice B p.xs.length ce] 25)) := (Below.refl _ _).alloc (Nat.le_refl _) _
      have hb6 := hb5.trans (hBa.mono hb5.size)
      have hok6 := hok.at hBa
      obtain ⟨c0, c1, c2⟩ := (Blk.new w5 25 #[.int .i64 p.ps, .slice A p.vs.length cc, .slice B p.xs.length ce]).three
      obtain ⟨b0, b1, b2⟩ := HBX.out _ hb6
      have hP6 := (HP.out.at hb6).ok q1 q2
      go_wp2_with (go_at_call 12; refine (HSM.out _ _ _ _ _ hP6 hok6).mono ?_; rintro e w7 ⟨rfl, hb⟩; have hb7 := hb6.trans (hb.mono hb6.size))
      go_ret
      exact ⟨rfl, hB0.trans (hb7.mono hB0.size)⟩
    · have hpp : pput p.ps p.vs p.xs = [] := by unfold pput; rw [if_neg (by rw [hc]; exact h0)]
      rw [hpp, hc] at HQ
      rw [hc] at HK
      have e1 : (c == 0) = false := by simpa using h0
      have e2 : (c != 0) = true := by simpa using h0
      have e3 : (c == c) = true := by simp
      clear hc h0 hpp hnb
      go_enter Try.func3, Try.ntmps3
      go_wp2_with (first
        | (go_at_call 7; rw [HWQ.out]; refine (HW.out _).mono ?_; rintro e w2 ⟨rfl, hb2⟩; obtain ⟨b0, b1, b2⟩ := HBX.out _ hb2)
        | (go_at_call 8; refine (HF.out _).mono ?_; rintro e w3 ⟨rfl, hb⟩; have hb3 := hb2.trans (hb.mono hb2.size); obtain ⟨b0, b1, b2⟩ := HBX.out _ hb3)
        | (go_at_call 9; refine (HQ.out _ ((HP.out.at hb3).ok q1 q2)).mono ?_; rintro e w4 ⟨rfl, hb⟩; have hb4 := hb3.trans (hb.mono hb3.size); obtain ⟨b0, b1, b2⟩ := HBX.out _ hb4)
        | (go_at_call 10; refine (HK.out _ ((HP.out.at hb4).ok q1 q2)).mono ?_; rintro e w5 ⟨rfl, hb⟩; have hb5 := hb4.trans (hb.mono hb4.size)))
      go_ret
      exact ⟨ret_true (by simp), hB0.trans (hb5.mono hB0.size)⟩

set_option maxRecDepth 100000 in
set_option maxHeartbeats 2000000 in
theorem codeOnly_walk (S : ByteArray) (hm : S.size ≤ maxLen) (w : World) :
    Calls Try.prog 4 #[.string S] w fun e w' => e = .returned (.bool true) ∧ Below w.heap.size w w' := by
  have HW := Lib.hid (fun W => Code.works_any pkg W)
  by_cases hs : 300 < S.size
  · have j1 : (300 : Int) < (S.size : Int) := by omega
    go_enter Try.func4, Try.ntmps4
    go_wp2_with (go_at_call 7; refine (HW.out _).mono ?_; rintro e w2 ⟨rfl, hb2⟩)
    go_ret
    exact ⟨rfl, hb2⟩
  · have j1 : ¬ (300 : Int) < (S.size : Int) := by omega
    have hG := fun W => pkg.get S W (by omega)
    by_cases hf : fits S
    · have hr : (rd S).1 = ((rd S).1.1, (rd S).1.2.1, (rd S).1.2.2) := rfl
      have HG := Lib.hid (fun W => (hG W).mono (fun e w' h => h.ok hf hr))
      obtain ⟨f1, f2⟩ := hf
      have hnb := rd_NB S
      have HQ := Lib.hid (fun A c B ce W (h : Prg.Ok ⟨(rd S).1.1, A, c, (rd S).1.2.1, B, ce, (rd S).1.2.2⟩ W) => show Calls Try.prog 9 #[.agg #[.int .i64 (rd S).1.1, .slice A (rd S).1.2.1.length c, .slice B (rd S).1.2.2.length ce]] W (fun e w' => e = .returned (.tuple #[.string S, .int .i64 0]) ∧ Below W.heap.size W w') from (by
        have q := pkg.put _ W h hnb
        have hpp : pput (rd S).1.1 (rd S).1.2.1 (rd S).1.2.2 = S.data.toList := by unfold pput; rw [if_pos f1]; exact f2
        simp only at q
        rw [hpp, f1] at q
        exact q))
      have HK := Lib.hid (fun A c B ce W (h : Prg.Ok ⟨(rd S).1.1, A, c, (rd S).1.2.1, B, ce, (rd S).1.2.2⟩ W) => show Calls Try.prog 10 #[.agg #[.int .i64 (rd S).1.1, .slice A (rd S).1.2.1.length c, .slice B (rd S).1.2.2.length ce]] W (fun e w' => e = .returned (.int .i64 0) ∧ Below W.heap.size W w') from (by
        have q := Kinds.PCheck_any _ W h
        simp only at q
        rw [f1] at q
        exact q))
      clear f1 f2 hnb hG hr
      generalize (rd S).1.1 = ps at *
      generalize (rd S).1.2.1 = vs at *
      generalize (rd S).1.2.2 = xs at *
      go_enter Try.func4, Try.ntmps4
      go_wp2_with (go_at_call 7; refine (HW.out _).mono ?_; rintro e w2 ⟨rfl, hb2⟩)
      refine (HG.out _).mono ?_
      rintro e w3 ⟨hb, A, c, B, ce, rfl, hok⟩
      have hb3 := hb2.trans (hb.mono hb2.size)
      have hBa : Below w3.heap.size w3 (w3.alloc (.cells #[.int .i64 ps, .slice A vs.length c, .slice B xs.length ce] 25)) := (Below.refl _ _).alloc (Nat.le_refl _) _
      have hb4 := hb3.trans (hBa.mono hb3.size)
      have hok4 := hok.at hBa
      have bY := Blk.new w3 25 #[.int .i64 ps, .slice A vs.length c, .slice B xs.length ce]
      have hly := bY.lt
      obtain ⟨c0, c1, c2⟩ := bY.three
      go_wp2_with (first
        | (go_at_call 9; refine (HQ.out _ _ _ _ _ hok4).mono ?_; rintro e w5 ⟨rfl, hb5⟩; obtain ⟨c0, c1, c2⟩ := (bY.below hb5 hly).three)
        | (go_at_call 10; refine (HK.out _ _ _ _ _ (hok4.at hb5)).mono ?_; rintro e w6 ⟨rfl, hb6⟩))
      go_ret
      exact ⟨ret_true (by simp), hb4.trans ((hb5.trans (hb6.mono hb5.size)).mono hb4.size)⟩
    · have HG := Lib.hid (fun W => (hG W).mono (fun e w' h => h.no hf))
      clear hG hf
      go_enter Try.func4, Try.ntmps4
      go_wp2_with (go_at_call 7; refine (HW.out _).mono ?_; rintro e w2 ⟨rfl, hb2⟩)
      refine (HG.out _).mono ?_
      rintro e w3 ⟨hb, A, c, B, ce, rfl, hok⟩
      have hb3 := hb2.trans (hb.mono hb2.size)
      have hBa : Below w3.heap.size w3 (w3.alloc (.cells #[.int .i64 0, .slice A 0 c, .slice B 0 ce] 25)) := (Below.refl _ _).alloc (Nat.le_refl _) _
      have hb4 := hb3.trans (hBa.mono hb3.size)
      go_wp2_with fail
      go_ret
      exact ⟨rfl, hb4⟩

end Go.Proofs.Ytpjijdgenojpcaa.Code
