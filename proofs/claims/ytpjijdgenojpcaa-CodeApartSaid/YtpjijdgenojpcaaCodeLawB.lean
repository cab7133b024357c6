/-
  The laws of layer 10, walked: unlike programs have unlike bytes.
-/
import Derived.Test.YtpjijdgenojpcaaCodeLawA
namespace Go.Proofs.Ytpjijdgenojpcaa.Code
open Go.RowKit Leb Mem Wire _root_.Go.Proofs.Ytpjijdgenojpcaa.Arena _root_.Go.Proofs.Ytpjijdgenojpcaa.Kinds
set_option linter.unusedVariables false
attribute [local go_sem ↓] Go.wp_at_zero Go.wp_at_succ

/-- Of two that may be put, bytes are alike just if they are. -/
theorem cput_eq {p o : Prg} (h : pcheck p.ps p.vs p.xs = 0) (hb : NB p.xs) (h' : pcheck o.ps o.vs o.xs = 0) (hb' : NB o.xs) {S T : ByteArray} (hS : (⟨(cput p.ps p.vs p.xs).toArray⟩ : ByteArray) = S) (hT : (⟨(cput o.ps o.vs o.xs).toArray⟩ : ByteArray) = T) :
    (S.toList == T.toList) = decide (p.vs = o.vs ∧ p.xs = o.xs ∧ p.ps = o.ps) := by
  rw [ByteArray.toList_eq, ByteArray.toList_eq, ← hS, ← hT]
  show (cput p.ps p.vs p.xs == cput o.ps o.vs o.xs) = _
  by_cases q : cput p.ps p.vs p.xs = cput o.ps o.vs o.xs
  · obtain ⟨e1, e2, e3⟩ := cput_inj h hb h' hb' q
    rw [q, e1, e2, e3]
    simp
  · rw [beq_eq_false_iff_ne.2 q]
    symm
    rw [decide_eq_false_iff_not]
    rintro ⟨e1, e2, e3⟩
    exact q (by rw [e1, e2, e3])

set_option maxRecDepth 100000 in
set_option maxHeartbeats 4000000 in
theorem codeApart_walk (p o : Prg) (w : World) (hpn : p.In w ∧ NB p.xs) (hon : o.In w ∧ NB o.xs) :
    Calls Try.prog 5 #[.agg #[.int .i64 p.ps, .slice p.A p.vs.length p.c, .slice p.B p.xs.length p.e], .agg #[.int .i64 o.ps, .slice o.A o.vs.length o.c, .slice o.B o.xs.length o.e]] w fun e w' => e = .returned (.bool true) ∧ Below w.heap.size w w' := by
  obtain ⟨hp, hnp⟩ := hpn
  obtain ⟨ho, hno⟩ := hon
  have hbA : Below w.heap.size w (w.alloc (.cells #[.int .i64 p.ps, .slice p.A p.vs.length p.c, .slice p.B p.xs.length p.e] 25)) := (Below.refl _ _).alloc (Nat.le_refl _) _
  have hB0 : Below w.heap.size w ((w.alloc (.cells #[.int .i64 p.ps, .slice p.A p.vs.length p.c, .slice p.B p.xs.length p.e] 25)).alloc (.cells #[.int .i64 o.ps, .slice o.A o.vs.length o.c, .slice o.B o.xs.length o.e] 25)) := hbA.alloc hbA.size _
  have bP := (Blk.new w 25 #[.int .i64 p.ps, .slice p.A p.vs.length p.c, .slice p.B p.xs.length p.e]).alloc (.cells #[.int .i64 o.ps, .slice o.A o.vs.length o.c, .slice o.B o.xs.length o.e] 25)
  have bO := Blk.new (w.alloc (.cells #[.int .i64 p.ps, .slice p.A p.vs.length p.c, .slice p.B p.xs.length p.e] 25)) 25 #[.int .i64 o.ps, .slice o.A o.vs.length o.c, .slice o.B o.xs.length o.e]
  rw [World.size_alloc] at bO
  have HP := Lib.hid (hp.at hB0)
  have HQ := Lib.hid (ho.at hB0)
  have hlp := bP.lt
  have hlo := bO.lt
  obtain ⟨w2, hw2⟩ : ∃ w2, ((w.alloc (.cells #[.int .i64 p.ps, .slice p.A p.vs.length p.c, .slice p.B p.xs.length p.e] 25)).alloc (.cells #[.int .i64 o.ps, .slice o.A o.vs.length o.c, .slice o.B o.xs.length o.e] 25)) = w2 := ⟨_, rfl⟩
  rw [hw2] at hB0 bP bO HP HQ hlp hlo
  have HBP := Lib.hid (fun W (h : Below w2.heap.size w2 W) => (bP.below h hlp).three)
  have HBO := Lib.hid (fun W (h : Below w2.heap.size w2 W) => (bO.below h hlo).three)
  have HW := Lib.hid (fun W => Code.works_any pkg W)
  have HW2 := Lib.hid hw2
  have F1 := Lib.hid (fun W => show Calls Try.prog 8 #[.agg #[.int .i64 p.ps, .slice p.A p.vs.length p.c, .slice p.B p.xs.length p.e]] W (fun e w' => e = .returned (.bool (fewB p)) ∧ Below W.heap.size W w') from ref_Few_any p W)
  have F2 := Lib.hid (fun W => show Calls Try.prog 8 #[.agg #[.int .i64 o.ps, .slice o.A o.vs.length o.c, .slice o.B o.xs.length o.e]] W (fun e w' => e = .returned (.bool (fewB o)) ∧ Below W.heap.size W w') from ref_Few_any o W)
  clear hp ho bP bO hbA hw2
  cases hf : fewB p with
  | false =>
    rw [hf] at F1
    go_enter Try.func5, Try.ntmps5
    go_wp2_with (first
      | (go_at_call 7; rw [HW2.out]; refine (HW.out _).mono ?_; rintro e w3 ⟨rfl, hB⟩; obtain ⟨b0, b1, b2⟩ := HBP.out _ hB; obtain ⟨c0, c1, c2⟩ := HBO.out _ hB)
      | (go_at_call 8; first
        | ((with_reducible refine (F1.out _).mono ?_); rintro e w4 ⟨rfl, hb⟩; have hB := hB.trans (hb.mono hB.size); obtain ⟨b0, b1, b2⟩ := HBP.out _ hB; obtain ⟨c0, c1, c2⟩ := HBO.out _ hB)
        | fail))
    go_ret
    exact ⟨rfl, hB0.trans (hB.mono hB0.size)⟩
  | true =>
  rw [hf] at F1
  cases hf2 : fewB o with
  | false =>
    rw [hf2] at F2
    go_enter Try.func5, Try.ntmps5
    go_wp2_with (first
      | (go_at_call 7; rw [HW2.out]; refine (HW.out _).mono ?_; rintro e w3 ⟨rfl, hB⟩; obtain ⟨b0, b1, b2⟩ := HBP.out _ hB; obtain ⟨c0, c1, c2⟩ := HBO.out _ hB)
      | (go_at_call 8; first
        | ((with_reducible refine (F1.out _).mono ?_); rintro e w4 ⟨rfl, hb⟩; have hB := hB.trans (hb.mono hB.size); obtain ⟨b0, b1, b2⟩ := HBP.out _ hB; obtain ⟨c0, c1, c2⟩ := HBO.out _ hB)
        | ((with_reducible refine (F2.out _).mono ?_); rintro e w4 ⟨rfl, hb⟩; have hB := hB.trans (hb.mono hB.size); obtain ⟨b0, b1, b2⟩ := HBP.out _ hB; obtain ⟨c0, c1, c2⟩ := HBO.out _ hB)
        | fail))
    go_ret
    exact ⟨rfl, hB0.trans (hB.mono hB0.size)⟩
  | true =>
    rw [hf2] at F2
    obtain ⟨q1, q2⟩ := few_ok hf
    obtain ⟨r1, r2⟩ := few_ok hf2
    have K1 := Lib.hid (fun W (h : p.Ok W) => pkg.put p W h hnp)
    have K2 := Lib.hid (fun W (h : o.Ok W) => pkg.put o W h hno)
    have K3 := Lib.hid (fun W (h : p.Ok W) (h' : o.Ok W) => Kinds.PSame_any p o W h h')
    obtain ⟨c, hc⟩ : ∃ c, pcheck p.ps p.vs p.xs = c := ⟨_, rfl⟩
    obtain ⟨d, hd⟩ : ∃ d, pcheck o.ps o.vs o.xs = d := ⟨_, rfl⟩
    by_cases h00 : c = 0 ∧ d = 0
    · obtain ⟨rfl, rfl⟩ := h00
      have hpp : pput p.ps p.vs p.xs = cput p.ps p.vs p.xs := by unfold pput; rw [if_pos hc]
      have hpo : pput o.ps o.vs o.xs = cput o.ps o.vs o.xs := by unfold pput; rw [if_pos hd]
      obtain ⟨S, hS⟩ : ∃ S : ByteArray, (⟨(cput p.ps p.vs p.xs).toArray⟩ : ByteArray) = S := ⟨_, rfl⟩
      obtain ⟨T, hT⟩ : ∃ T : ByteArray, (⟨(cput o.ps o.vs o.xs).toArray⟩ : ByteArray) = T := ⟨_, rfl⟩
      have hbe := cput_eq hc hnp hd hno hS hT
      rw [hpp, hc, hS] at K1
      rw [hpo, hd, hT] at K2
      generalize decide (p.vs = o.vs ∧ p.xs = o.xs ∧ p.ps = o.ps) = k4 at *
      clear hc hd hpp hpo hS hT hnp hno
      go_enter Try.func5, Try.ntmps5
      go_wp2_with (first
        | (go_at_call 7; rw [HW2.out]; refine (HW.out _).mono ?_; rintro e w3 ⟨rfl, hB⟩; obtain ⟨b0, b1, b2⟩ := HBP.out _ hB; obtain ⟨c0, c1, c2⟩ := HBO.out _ hB)
        | (go_at_call 8; first
          | ((with_reducible refine (F1.out _).mono ?_); rintro e w4 ⟨rfl, hb⟩; have hB := hB.trans (hb.mono hB.size); obtain ⟨b0, b1, b2⟩ := HBP.out _ hB; obtain ⟨c0, c1, c2⟩ := HBO.out _ hB)
          | ((with_reducible refine (F2.out _).mono ?_); rintro e w4 ⟨rfl, hb⟩; have hB := hB.trans (hb.mono hB.size); obtain ⟨b0, b1, b2⟩ := HBP.out _ hB; obtain ⟨c0, c1, c2⟩ := HBO.out _ hB)
          | fail)
        | (go_at_call 9; first
          | ((with_reducible refine (K1.out _ ((HP.out.at hB).ok q1 q2)).mono ?_); rintro e w5 ⟨rfl, hb⟩; have hB := hB.trans (hb.mono hB.size); obtain ⟨b0, b1, b2⟩ := HBP.out _ hB; obtain ⟨c0, c1, c2⟩ := HBO.out _ hB)
          | ((with_reducible refine (K2.out _ ((HQ.out.at hB).ok r1 r2)).mono ?_); rintro e w5 ⟨rfl, hb⟩; have hB := hB.trans (hb.mono hB.size); obtain ⟨b0, b1, b2⟩ := HBP.out _ hB; obtain ⟨c0, c1, c2⟩ := HBO.out _ hB)
          | fail)
        | (go_at_call 13; refine (K3.out _ ((HP.out.at hB).ok q1 q2) ((HQ.out.at hB).ok r1 r2)).mono ?_; rintro e w6 ⟨rfl, hb⟩; have hB := hB.trans (hb.mono hB.size)))
      go_ret
      exact ⟨ret_true (by simp), hB0.trans (hB.mono hB0.size)⟩
    · rw [hc] at K1
      rw [hd] at K2
      have e0 : (!(c == 0) || !(d == 0)) = true := by
        by_cases z : c = 0
        · have : ¬ d = 0 := fun q => h00 ⟨z, q⟩
          simp [this]
        · simp [z]
      generalize (⟨(pput p.ps p.vs p.xs).toArray⟩ : ByteArray) = S at *
      generalize (⟨(pput o.ps o.vs o.xs).toArray⟩ : ByteArray) = T at *
      clear hc hd hnp hno K3
      by_cases z : c = 0
      · have z2 : ¬ d = 0 := fun q => h00 ⟨z, q⟩
        subst z
        have e1 : (d == 0) = false := by simpa using z2
        have e2 : (d != 0) = true := by simpa using z2
        clear h00 e0 z2
        go_enter Try.func5, Try.ntmps5
        go_wp2_with (first
          | (go_at_call 7; rw [HW2.out]; refine (HW.out _).mono ?_; rintro e w3 ⟨rfl, hB⟩; obtain ⟨b0, b1, b2⟩ := HBP.out _ hB; obtain ⟨c0, c1, c2⟩ := HBO.out _ hB)
          | (go_at_call 8; first
            | ((with_reducible refine (F1.out _).mono ?_); rintro e w4 ⟨rfl, hb⟩; have hB := hB.trans (hb.mono hB.size); obtain ⟨b0, b1, b2⟩ := HBP.out _ hB; obtain ⟨c0, c1, c2⟩ := HBO.out _ hB)
            | ((with_reducible refine (F2.out _).mono ?_); rintro e w4 ⟨rfl, hb⟩; have hB := hB.trans (hb.mono hB.size); obtain ⟨b0, b1, b2⟩ := HBP.out _ hB; obtain ⟨c0, c1, c2⟩ := HBO.out _ hB)
            | fail)
          | (go_at_call 9; first
            | ((with_reducible refine (K1.out _ ((HP.out.at hB).ok q1 q2)).mono ?_); rintro e w5 ⟨rfl, hb⟩; have hB := hB.trans (hb.mono hB.size); obtain ⟨b0, b1, b2⟩ := HBP.out _ hB; obtain ⟨c0, c1, c2⟩ := HBO.out _ hB)
            | ((with_reducible refine (K2.out _ ((HQ.out.at hB).ok r1 r2)).mono ?_); rintro e w5 ⟨rfl, hb⟩; have hB := hB.trans (hb.mono hB.size); obtain ⟨b0, b1, b2⟩ := HBP.out _ hB; obtain ⟨c0, c1, c2⟩ := HBO.out _ hB)
            | fail))
        go_ret
        exact ⟨rfl, hB0.trans (hB.mono hB0.size)⟩
      · have e1 : (c == 0) = false := by simpa using z
        have e2 : (c != 0) = true := by simpa using z
        clear h00 e0 z
        go_enter Try.func5, Try.ntmps5
        go_wp2_with (first
          | (go_at_call 7; rw [HW2.out]; refine (HW.out _).mono ?_; rintro e w3 ⟨rfl, hB⟩; obtain ⟨b0, b1, b2⟩ := HBP.out _ hB; obtain ⟨c0, c1, c2⟩ := HBO.out _ hB)
          | (go_at_call 8; first
            | ((with_reducible refine (F1.out _).mono ?_); rintro e w4 ⟨rfl, hb⟩; have hB := hB.trans (hb.mono hB.size); obtain ⟨b0, b1, b2⟩ := HBP.out _ hB; obtain ⟨c0, c1, c2⟩ := HBO.out _ hB)
            | ((with_reducible refine (F2.out _).mono ?_); rintro e w4 ⟨rfl, hb⟩; have hB := hB.trans (hb.mono hB.size); obtain ⟨b0, b1, b2⟩ := HBP.out _ hB; obtain ⟨c0, c1, c2⟩ := HBO.out _ hB)
            | fail)
          | (go_at_call 9; first
            | ((with_reducible refine (K1.out _ ((HP.out.at hB).ok q1 q2)).mono ?_); rintro e w5 ⟨rfl, hb⟩; have hB := hB.trans (hb.mono hB.size); obtain ⟨b0, b1, b2⟩ := HBP.out _ hB; obtain ⟨c0, c1, c2⟩ := HBO.out _ hB)
            | ((with_reducible refine (K2.out _ ((HQ.out.at hB).ok r1 r2)).mono ?_); rintro e w5 ⟨rfl, hb⟩; have hB := hB.trans (hb.mono hB.size); obtain ⟨b0, b1, b2⟩ := HBP.out _ hB; obtain ⟨c0, c1, c2⟩ := HBO.out _ hB)
            | fail))
        go_ret
        exact ⟨rfl, hB0.trans (hB.mono hB0.size)⟩

end Go.Proofs.Ytpjijdgenojpcaa.Code
