/-
  The laws of layer 17, walked on what the package's functions come to: what a program does, told directly; both ways tell the same.
-/
import Derived.Test.YtodejloonfkkmaaGreatDirPkg
import Derived.Deep.RegionHeld3
import Derived.Deep.DrawnRows
set_option linter.unusedVariables false
set_option linter.unusedSimpArgs false
namespace Go.Proofs.YtodejloonfkkmaaGreat.Dir
open Go.RowKit Mem _root_.Go.Proofs.YtodejloonfkkmaaGreat.Arena _root_.Go.Proofs.YtodejloonfkkmaaGreat.Kinds _root_.Go.Proofs.YtodejloonfkkmaaGreat.Path _root_.Go.Proofs.YtodejloonfkkmaaGreat.Cat _root_.Go.Proofs.YtodejloonfkkmaaGreat.Suite _root_.Go.Proofs.YtodejloonfkkmaaGreat.Delta _root_.Go.Proofs.YtodejloonfkkmaaGreat.Mach
attribute [local go_sem ↓] Go.wp_at_zero Go.wp_at_succ

set_option maxRecDepth 100000 in
set_option maxHeartbeats 1000000 in
theorem few17_any (p : Prg) (A : Option Addr) (c al : Nat) (f : Int) (w : World) :
    Calls Tryz.prog 6 #[.agg #[.int .i64 p.ps, .slice p.A p.vs.length p.c, .slice p.B p.xs.length p.e], .slice A al c, .int .i64 f] w fun e w' => e = .returned (.bool (mfew p al f)) ∧ Below w.heap.size w w' := by
  have hb0 : Below w.heap.size w (w.alloc (.cells #[.int .i64 p.ps, .slice p.A p.vs.length p.c, .slice p.B p.xs.length p.e] 25)) := (Below.refl _ _).alloc (Nat.le_refl _) _
  have HF := Lib.hid (fun W => ref_Few_any p W)
  have HM : Hid (mfew p al f = ((decide (p.xs.length ≤ 60) && decide (p.vs.length ≤ 20)) && (decide (al ≤ 40) && (decide (f ≤ 400) || decide (10000 < f))))) := Lib.hid rfl
  have HB := Lib.hid hb0
  generalize mfew p al f = E at *
  generalize (decide (p.xs.length ≤ 60) && decide (p.vs.length ≤ 20)) = b at *
  clear hb0
  cases b
  · have HE := Lib.hid (show E = false by rw [HM.out]; rfl)
    clear HM
    go_enter Tryz.func6, Tryz.ntmps6
    go_wp2_with (first | (go_at_call 14; (with_reducible refine (HF.out _).mono ?_); rintro e w1 ⟨rfl, hb⟩) | fail)
    go_ret
    exact ⟨by rw [HE.out]; rfl, HB.out.trans (hb.mono HB.out.size)⟩
  by_cases h1 : al ≤ 40
  · have j1 : (al : Int) ≤ 40 := by omega
    by_cases h2 : f ≤ 400
    · have HE := Lib.hid (show E = true by rw [HM.out, decide_eq_true h1, decide_eq_true h2]; rfl)
      clear HM
      go_enter Tryz.func6, Tryz.ntmps6
      go_wp2_with (first | (go_at_call 14; (with_reducible refine (HF.out _).mono ?_); rintro e w1 ⟨rfl, hb⟩) | fail)
      go_ret
      exact ⟨by rw [HE.out]; simp [h2], HB.out.trans (hb.mono HB.out.size)⟩
    · by_cases h3 : 10000 < f
      · have HE := Lib.hid (show E = true by rw [HM.out, decide_eq_true h1, decide_eq_true h3, Bool.or_true]; rfl)
        clear HM
        go_enter Tryz.func6, Tryz.ntmps6
        go_wp2_with (first | (go_at_call 14; (with_reducible refine (HF.out _).mono ?_); rintro e w1 ⟨rfl, hb⟩) | fail)
        go_ret
        exact ⟨by rw [HE.out]; simp [h2, h3], HB.out.trans (hb.mono HB.out.size)⟩
      · have HE := Lib.hid (show E = false by rw [HM.out, decide_eq_false h2, decide_eq_false h3, Bool.or_false, Bool.and_false]; rfl)
        clear HM
        go_enter Tryz.func6, Tryz.ntmps6
        go_wp2_with (first | (go_at_call 14; (with_reducible refine (HF.out _).mono ?_); rintro e w1 ⟨rfl, hb⟩) | fail)
        go_ret
        exact ⟨by rw [HE.out]; simp [h2, h3], HB.out.trans (hb.mono HB.out.size)⟩
  · have j1 : ¬ (al : Int) ≤ 40 := by omega
    have HE := Lib.hid (show E = false by rw [HM.out, decide_eq_false h1, Bool.false_and, Bool.and_false])
    clear HM
    go_enter Tryz.func6, Tryz.ntmps6
    go_wp2_with (first | (go_at_call 14; (with_reducible refine (HF.out _).mono ?_); rintro e w1 ⟨rfl, hb⟩) | fail)
    go_ret
    exact ⟨by rw [HE.out]; rfl, HB.out.trans (hb.mono HB.out.size)⟩

set_option maxRecDepth 100000 in
set_option maxHeartbeats 4000000 in
theorem directSame_of (M : MPkg) (K : DPkg) (hw : Works) (p : Prg) (A : Option Addr) (c : Nat) (args : List Int) (hl : args.length ≤ c) (hA : A = none → c = 0) (f : Int) (hf : N64 f) (w : World) (hp : p.In w) (hR : IRow w w.heap.size A args) :
    Calls Tryz.prog 3 #[.agg #[.int .i64 p.ps, .slice p.A p.vs.length p.c, .slice p.B p.xs.length p.e], .slice A args.length c, .int .i64 f] w fun e w' => e = .returned (.bool true) ∧ Below w.heap.size w w' := by
  have hb0 : Below w.heap.size w (w.alloc (.cells #[.int .i64 p.ps, .slice p.A p.vs.length p.c, .slice p.B p.xs.length p.e] 25)) := (Below.refl _ _).alloc (Nat.le_refl _) _
  have bX := Blk.new w 25 #[.int .i64 p.ps, .slice p.A p.vs.length p.c, .slice p.B p.xs.length p.e]
  obtain ⟨w1, hw1⟩ : ∃ w1, w.alloc (.cells #[.int .i64 p.ps, .slice p.A p.vs.length p.c, .slice p.B p.xs.length p.e] 25) = w1 := ⟨_, rfl⟩
  rw [hw1] at hb0 bX
  have HP := Lib.hid (fun W (hb : Below w1.heap.size w1 W) => (hp.at hb0).at hb)
  have HR := Lib.hid (fun W (hb : Below w1.heap.size w1 W) => (hR.at hb0).at hb)
  have HX := Lib.hid (fun W (hb : Below w1.heap.size w1 W) => (bX.below hb bX.lt).three)
  have HW := Lib.hid (fun W => hw W)
  have HF := Lib.hid (fun W => few17_any p A c args.length f W)
  have HB := Lib.hid hb0
  have HW1 := Lib.hid hw1
  have hgl := bX.lt
  clear hp hR hb0 bX hw1 hw
  cases hfe : mfew p args.length f with
  | false =>
    rw [hfe] at HF
    go_enter Tryz.func3, Tryz.ntmps3
    go_wp2_with (first
      | (go_at_call 5; rw [HW1.out]; (with_reducible refine (HW.out _).mono ?_); rintro e w2 ⟨rfl, hb2⟩; obtain ⟨b0, b1, b2⟩ := HX.out _ hb2)
      | (go_at_call 6; (with_reducible refine (HF.out _).mono ?_); rintro e w3 ⟨rfl, hb3⟩; have hb3 := hb2.trans (hb3.mono hb2.size))
      | fail)
    go_ret
    exact ⟨rfl, HB.out.trans (hb3.mono HB.out.size)⟩
  | true =>
    rw [hfe] at HF
    obtain ⟨q1, q2, q3, q4⟩ := mfew_ok hfe
    have HRun := Lib.hid (fun W (hb : Below w1.heap.size w1 W) => (K.run p A c args f W ((HP.out W hb).ok (by omega) (by omega)) (HR.out W hb) hl hA (by omega) hf).mono (RunEnds.open p args f W))
    have HRef := Lib.hid (fun W (hb : Below w1.heap.size w1 W) => (M.run p A c args f W ((HP.out W hb).ok (by omega) (by omega)) (HR.out W hb) hl hA (by omega) hf).mono (RunEnds.open p args f W))
    generalize rrun p.ps p.vs p.xs args f = s at *
    generalize mcheck p.ps p.vs p.xs args.length f = E at *
    have HS := Lib.hid (fun A1 c1 A2 c2 W (h1 : (rn A1 c1 s).Ok W) (h2 : (rn A2 c2 s).Ok W) => show Calls Tryz.prog 9 #[.agg #[.int .i64 s.kind, .int .i64 s.value, .int .i64 s.steps, .slice A1 s.ev.length c1], .agg #[.int .i64 s.kind, .int .i64 s.value, .int .i64 s.steps, .slice A2 s.ev.length c2]] W fun e w' => e = .returned (.bool true) ∧ Below W.heap.size W w' from by
      have := ref_MSame_any _ _ W h1 h2
      rw [show (rn A1 c1 s).same (rn A2 c2 s) = true from Rn.same_iff.2 ⟨rfl, rfl, rfl, rfl⟩] at this
      exact this)
    clear q1 q2 q3 q4 hfe hf
    go_enter Tryz.func3, Tryz.ntmps3
    go_wp2_with (first
      | (go_at_call 5; rw [HW1.out]; (with_reducible refine (HW.out _).mono ?_); rintro e w2 ⟨rfl, hb2⟩; obtain ⟨b0, b1, b2⟩ := HX.out _ hb2)
      | (go_at_call 6; (with_reducible refine (HF.out _).mono ?_); rintro e w3 ⟨rfl, hb3⟩; have hb3 := hb2.trans (hb3.mono hb2.size); obtain ⟨b0, b1, b2⟩ := HX.out _ hb3)
      | (go_at_call 7; (with_reducible refine (HRun.out _ hb3).mono ?_); rintro e w4 ⟨hb4, A1, c1, rfl, ok1⟩
         have hb4 := hb3.trans (hb4.mono hb3.size)
         have bA := Blk.new w4 32 #[.int .i64 s.kind, .int .i64 s.value, .int .i64 s.steps, .slice A1 s.ev.length c1]
         have hbA : Below w4.heap.size w4 (w4.alloc (.cells #[.int .i64 s.kind, .int .i64 s.value, .int .i64 s.steps, .slice A1 s.ev.length c1] 32)) := (Below.refl _ _).alloc (Nat.le_refl _) _
         have ok1 := ok1.at hbA
         have hb5 := hb4.trans (hbA.mono hb4.size)
         obtain ⟨b0, b1, b2⟩ := HX.out _ hb5)
      | (go_at_call 8; (with_reducible refine (HRef.out _ hb5).mono ?_); rintro e w6 ⟨hb6, A2, c2, rfl, ok2⟩
         have ok1 := ok1.at hb6
         have bA6 := bA.below hb6 bA.lt
         have hb7 := hb5.trans (hb6.mono hb5.size)
         have bB := Blk.new w6 32 #[.int .i64 s.kind, .int .i64 s.value, .int .i64 s.steps, .slice A2 s.ev.length c2]
         have hbB : Below w6.heap.size w6 (w6.alloc (.cells #[.int .i64 s.kind, .int .i64 s.value, .int .i64 s.steps, .slice A2 s.ev.length c2] 32)) := (Below.refl _ _).alloc (Nat.le_refl _) _
         have ok1 := ok1.at hbB
         have ok2 := ok2.at hbB
         have hb8 := hb7.trans (hbB.mono hb7.size)
         obtain ⟨x0, x1, x2, x3⟩ := blk4 (bA6.below hbB bA6.lt)
         obtain ⟨y0, y1, y2, y3⟩ := blk4 bB)
      | (go_at_call 9; (with_reducible refine (HS.out _ _ _ _ _ ok1 ok2).mono ?_); rintro e w9 ⟨rfl, hb9⟩; have hb9 := hb8.trans (hb9.mono hb8.size); obtain ⟨b0, b1, b2⟩ := HX.out _ hb9)
      | fail)
    go_ret
    exact ⟨by simp, HB.out.trans (hb9.mono HB.out.size)⟩

end Go.Proofs.YtodejloonfkkmaaGreat.Dir
