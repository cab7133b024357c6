/-
  The laws of layer 16, walked on what the package's functions come to: a run needs as much fuel as it takes, and no more.
-/
import Derived.Test.YtobndhiihcejaaaMachLawB
import Derived.Deep.RegionHeld3
import Derived.Deep.DrawnRows
set_option linter.unusedVariables false
set_option linter.unusedSimpArgs false
namespace Go.Proofs.Ytobndhiihcejaaa.Mach
open Go.RowKit Mem _root_.Go.Proofs.Ytobndhiihcejaaa.Arena _root_.Go.Proofs.Ytobndhiihcejaaa.Kinds _root_.Go.Proofs.Ytobndhiihcejaaa.Path _root_.Go.Proofs.Ytobndhiihcejaaa.Cat _root_.Go.Proofs.Ytobndhiihcejaaa.Suite _root_.Go.Proofs.Ytobndhiihcejaaa.Delta
attribute [local go_sem ↓] Go.wp_at_zero Go.wp_at_succ

/-- With less fuel, as the law asks. -/
theorem least_of {p : Prg} {args : List Int} {f m : Int} (h : mcheck p.ps p.vs p.xs args.length f = 0) (h0 : 0 ≤ m) (hm : m ≤ ((rrun p.ps p.vs p.xs args f).steps : Int)) :
    mcheck p.ps p.vs p.xs args.length m = 0 ∧ (m = ((rrun p.ps p.vs p.xs args f).steps : Int) → (rrun p.ps p.vs p.xs args m).kind = (rrun p.ps p.vs p.xs args f).kind ∧ (rrun p.ps p.vs p.xs args m).value = (rrun p.ps p.vs p.xs args f).value ∧ (rrun p.ps p.vs p.xs args m).steps = (rrun p.ps p.vs p.xs args f).steps ∧ (rrun p.ps p.vs p.xs args m).ev = (rrun p.ps p.vs p.xs args f).ev) ∧
    (m ≠ ((rrun p.ps p.vs p.xs args f).steps : Int) → (rrun p.ps p.vs p.xs args m).kind = 4 ∧ (rrun p.ps p.vs p.xs args m).value = 0 ∧ ((rrun p.ps p.vs p.xs args m).steps : Int) = m) := by
  have hr := mcheck_zero.1 h
  have hf0 := hr.f0
  have hf1 := hr.f1
  obtain ⟨n, rfl⟩ := Int.eq_ofNat_of_zero_le hf0
  obtain ⟨k, rfl⟩ := Int.eq_ofNat_of_zero_le h0
  rw [rrun_ok h, Int.toNat_natCast] at hm ⊢
  have hs := run_steps p.vs p.xs args n
  have hk : k ≤ (mrun p.vs p.xs args n).steps := by omega
  have h2 : mcheck p.ps p.vs p.xs args.length (k : Int) = 0 := by rw [mcheck_fuel (f' := (n : Int)) (by omega)]; exact h
  rw [rrun_ok h2, Int.toNat_natCast]
  obtain ⟨l1, l2⟩ := run_least p.vs p.xs args n hk
  refine ⟨h2, fun e => ?_, fun e => ?_⟩
  · obtain ⟨a1, a2, a3, a4⟩ := l1 (by omega)
    exact ⟨a1.symm, a2.symm, a3.symm, a4.symm⟩
  · obtain ⟨a1, a2, a3⟩ := l2 (by omega)
    exact ⟨a1, a2, by omega⟩
set_option maxRecDepth 100000 in
set_option maxHeartbeats 8000000 in
theorem machineLeast_of (K : MPkg) (hw : Works) (p : Prg) (A : Option Addr) (c : Nat) (args : List Int) (hl : args.length ≤ c) (hA : A = none → c = 0) (f : Int) (hf : N64 f) (m : Int) (hm : N64 m) (w : World) (hp : p.In w) (hR : IRow w w.heap.size A args) :
    Calls Try.prog 5 #[.agg #[.int .i64 p.ps, .slice p.A p.vs.length p.c, .slice p.B p.xs.length p.e], .slice A args.length c, .int .i64 f, .int .i64 m] w fun e w' => e = .returned (.bool true) ∧ Below w.heap.size w w' := by
  have hb0 : Below w.heap.size w (w.alloc (.cells #[.int .i64 p.ps, .slice p.A p.vs.length p.c, .slice p.B p.xs.length p.e] 25)) := (Below.refl _ _).alloc (Nat.le_refl _) _
  have bX := Blk.new w 25 #[.int .i64 p.ps, .slice p.A p.vs.length p.c, .slice p.B p.xs.length p.e]
  obtain ⟨w1, hw1⟩ : ∃ w1, w.alloc (.cells #[.int .i64 p.ps, .slice p.A p.vs.length p.c, .slice p.B p.xs.length p.e] 25) = w1 := ⟨_, rfl⟩
  rw [hw1] at hb0 bX
  have HP := Lib.hid (fun W (hb : Below w1.heap.size w1 W) => (hp.at hb0).at hb)
  have HR := Lib.hid (fun W (hb : Below w1.heap.size w1 W) => (hR.at hb0).at hb)
  have HX := Lib.hid (fun W (hb : Below w1.heap.size w1 W) => (bX.below hb bX.lt).three)
  have HW := Lib.hid (fun W => hw W)
  have HF := Lib.hid (fun W => few16_any p A c args.length f W)
  have HB := Lib.hid hb0
  have HW1 := Lib.hid hw1
  have hgl := bX.lt
  clear hp hR hb0 bX hw1 hw
  cases hfe : mfew p args.length f with
  | false =>
    rw [hfe] at HF
    go_enter Try.func5, Try.ntmps5
    go_wp2_with (first
      | (go_at_call 8; rw [HW1.out]; (with_reducible refine (HW.out _).mono ?_); rintro e w2 ⟨rfl, hb2⟩; obtain ⟨b0, b1, b2⟩ := HX.out _ hb2)
      | (go_at_call 9; (with_reducible refine (HF.out _).mono ?_); rintro e w3 ⟨rfl, hb3⟩; have hb3 := hb2.trans (hb3.mono hb2.size); obtain ⟨b0, b1, b2⟩ := HX.out _ hb3)
      | fail)
    go_ret
    exact ⟨rfl, HB.out.trans (hb3.mono HB.out.size)⟩
  | true =>
    rw [hfe] at HF
    obtain ⟨q1, q2, q3, q4⟩ := mfew_ok hfe
    have HRun := Lib.hid (fun W (hb : Below w1.heap.size w1 W) => (K.run p A c args f W ((HP.out W hb).ok (by omega) (by omega)) (HR.out W hb) hl hA (by omega) hf).mono (RunEnds.open p args f W))
    have HRun2 := Lib.hid (fun W (hb : Below w1.heap.size w1 W) => (K.run p A c args m W ((HP.out W hb).ok (by omega) (by omega)) (HR.out W hb) hl hA (by omega) hm).mono (RunEnds.open p args m W))
    have hL := fun h h0 hm => @least_of p args f m h h0 hm
    generalize mcheck p.ps p.vs p.xs args.length m = E2 at *
    generalize mcheck p.ps p.vs p.xs args.length f = E at *
    generalize rrun p.ps p.vs p.xs args m = s2 at *
    generalize rrun p.ps p.vs p.xs args f = s at *
    clear q1 q2 q3 q4 hfe hf hm
    by_cases hE : E = 0
    · subst hE
      by_cases j1 : m < 0
      · clear hL
        go_enter Try.func5, Try.ntmps5
        go_wp2_with (first
          | (go_at_call 8; rw [HW1.out]; (with_reducible refine (HW.out _).mono ?_); rintro e w2 ⟨rfl, hb2⟩; obtain ⟨b0, b1, b2⟩ := HX.out _ hb2)
          | (go_at_call 9; (with_reducible refine (HF.out _).mono ?_); rintro e w3 ⟨rfl, hb3⟩; have hb3 := hb2.trans (hb3.mono hb2.size); obtain ⟨b0, b1, b2⟩ := HX.out _ hb3)
          | (go_at_call 10; (with_reducible refine (HRun.out _ hb3).mono ?_); rintro e w4 ⟨hb4, A1, c1, rfl, ok1⟩
             have hb4 := hb3.trans (hb4.mono hb3.size)
             have bA := Blk.new w4 32 #[.int .i64 s.kind, .int .i64 s.value, .int .i64 s.steps, .slice A1 s.ev.length c1]
             have hbA : Below w4.heap.size w4 (w4.alloc (.cells #[.int .i64 s.kind, .int .i64 s.value, .int .i64 s.steps, .slice A1 s.ev.length c1] 32)) := (Below.refl _ _).alloc (Nat.le_refl _) _
             have ok1 := ok1.at hbA
             have hb5 := hb4.trans (hbA.mono hb4.size)
             obtain ⟨x0, x1, x2, x3⟩ := blk4 bA
             obtain ⟨b0, b1, b2⟩ := HX.out _ hb5)
          | fail)
        go_ret
        exact ⟨rfl, HB.out.trans (hb5.mono HB.out.size)⟩
      by_cases j2 : (s.steps : Int) < m
      · clear hL
        go_enter Try.func5, Try.ntmps5
        go_wp2_with (first
          | (go_at_call 8; rw [HW1.out]; (with_reducible refine (HW.out _).mono ?_); rintro e w2 ⟨rfl, hb2⟩; obtain ⟨b0, b1, b2⟩ := HX.out _ hb2)
          | (go_at_call 9; (with_reducible refine (HF.out _).mono ?_); rintro e w3 ⟨rfl, hb3⟩; have hb3 := hb2.trans (hb3.mono hb2.size); obtain ⟨b0, b1, b2⟩ := HX.out _ hb3)
          | (go_at_call 10; (with_reducible refine (HRun.out _ hb3).mono ?_); rintro e w4 ⟨hb4, A1, c1, rfl, ok1⟩
             have hb4 := hb3.trans (hb4.mono hb3.size)
             have bA := Blk.new w4 32 #[.int .i64 s.kind, .int .i64 s.value, .int .i64 s.steps, .slice A1 s.ev.length c1]
             have hbA : Below w4.heap.size w4 (w4.alloc (.cells #[.int .i64 s.kind, .int .i64 s.value, .int .i64 s.steps, .slice A1 s.ev.length c1] 32)) := (Below.refl _ _).alloc (Nat.le_refl _) _
             have ok1 := ok1.at hbA
             have hb5 := hb4.trans (hbA.mono hb4.size)
             obtain ⟨x0, x1, x2, x3⟩ := blk4 bA
             obtain ⟨b0, b1, b2⟩ := HX.out _ hb5)
          | fail)
        go_ret
        exact ⟨rfl, HB.out.trans (hb5.mono HB.out.size)⟩
      obtain ⟨rfl, l1, l2⟩ := hL rfl (by omega) (by omega)
      clear hL
      by_cases hms : m = (s.steps : Int)
      · obtain ⟨e1, e2, e3, e4⟩ := l1 hms
        have HSm := Lib.hid (fun A1 c1 A2 c2 W (h1 : (rn A1 c1 s).Ok W) (h2 : (rn A2 c2 s2).Ok W) => show Calls Try.prog 12 #[.agg #[.int .i64 s.kind, .int .i64 s.value, .int .i64 s.steps, .slice A1 s.ev.length c1], .agg #[.int .i64 s2.kind, .int .i64 s2.value, .int .i64 s2.steps, .slice A2 s2.ev.length c2]] W fun e w' => e = .returned (.bool true) ∧ Below W.heap.size W w' from by
          have := ref_MSame_any _ _ W h1 h2
          rw [show (rn A1 c1 s).same (rn A2 c2 s2) = true from Rn.same_iff.2 ⟨e4.symm, e1.symm, e2.symm, by show (s.steps : Int) = s2.steps; rw [e3]⟩] at this
          exact this)
        have z1 : (m == (s.steps : Int)) = true := by simpa using hms
        clear l1 l2 e1 e2 e3 e4 hms
        go_enter Try.func5, Try.ntmps5
        go_wp2_with (first
          | (go_at_call 8; rw [HW1.out]; (with_reducible refine (HW.out _).mono ?_); rintro e w2 ⟨rfl, hb2⟩; obtain ⟨b0, b1, b2⟩ := HX.out _ hb2)
          | (go_at_call 9; (with_reducible refine (HF.out _).mono ?_); rintro e w3 ⟨rfl, hb3⟩; have hb3 := hb2.trans (hb3.mono hb2.size); obtain ⟨b0, b1, b2⟩ := HX.out _ hb3)
          | (go_at_call 10; (with_reducible refine (HRun.out _ hb3).mono ?_); rintro e w4 ⟨hb4, A1, c1, rfl, ok1⟩
             have hb4 := hb3.trans (hb4.mono hb3.size)
             have bA := Blk.new w4 32 #[.int .i64 s.kind, .int .i64 s.value, .int .i64 s.steps, .slice A1 s.ev.length c1]
             have hbA : Below w4.heap.size w4 (w4.alloc (.cells #[.int .i64 s.kind, .int .i64 s.value, .int .i64 s.steps, .slice A1 s.ev.length c1] 32)) := (Below.refl _ _).alloc (Nat.le_refl _) _
             have ok1 := ok1.at hbA
             have hb5 := hb4.trans (hbA.mono hb4.size)
             obtain ⟨x0, x1, x2, x3⟩ := blk4 bA
             obtain ⟨b0, b1, b2⟩ := HX.out _ hb5)
          | (go_at_call 10; (with_reducible refine (HRun2.out _ hb5).mono ?_); rintro e w6 ⟨hb6, A2, c2, rfl, ok2⟩
             have ok1 := ok1.at hb6
             have bA6 := bA.below hb6 bA.lt
             have hb7 := hb5.trans (hb6.mono hb5.size)
             have bB := Blk.new w6 32 #[.int .i64 s2.kind, .int .i64 s2.value, .int .i64 s2.steps, .slice A2 s2.ev.length c2]
             have hbB : Below w6.heap.size w6 (w6.alloc (.cells #[.int .i64 s2.kind, .int .i64 s2.value, .int .i64 s2.steps, .slice A2 s2.ev.length c2] 32)) := (Below.refl _ _).alloc (Nat.le_refl _) _
             have ok1 := ok1.at hbB
             have ok2 := ok2.at hbB
             have hb8 := hb7.trans (hbB.mono hb7.size)
             have bA8 := bA6.below hbB bA6.lt
             obtain ⟨x0, x1, x2, x3⟩ := blk4 bA8
             obtain ⟨y0, y1, y2, y3⟩ := blk4 bB)
          | (go_at_call 12; (with_reducible refine (HSm.out _ _ _ _ _ ok1 ok2).mono ?_); rintro e w10 ⟨rfl, hb10⟩; have hb11 := hb8.trans (hb10.mono hb8.size))
          | fail)
        go_ret
        exact ⟨by simp, HB.out.trans (hb11.mono HB.out.size)⟩
      · obtain ⟨e1, e2, e3⟩ := l2 hms
        have z1 : (m == (s.steps : Int)) = false := by simpa using hms
        have HRunZ := Lib.hid (fun W hb => (HRun2.out W hb).mono (fun e w' h => show Below W.heap.size W w' ∧ ∃ A c, e = .returned (.tuple #[.agg #[.int .i64 4, .int .i64 0, .int .i64 s2.steps, .slice A s2.ev.length c], .int .i64 0]) ∧ (rn A c s2).Ok w' from by obtain ⟨hb, A, c, he, ok⟩ := h; rw [e1, e2] at he; exact ⟨hb, A, c, he, ok⟩))
        have HE3 := Lib.hid e3
        clear l1 l2 e1 e2 e3 hms HRun2
        go_enter Try.func5, Try.ntmps5
        go_wp2_with (first
          | (go_at_call 8; rw [HW1.out]; (with_reducible refine (HW.out _).mono ?_); rintro e w2 ⟨rfl, hb2⟩; obtain ⟨b0, b1, b2⟩ := HX.out _ hb2)
          | (go_at_call 9; (with_reducible refine (HF.out _).mono ?_); rintro e w3 ⟨rfl, hb3⟩; have hb3 := hb2.trans (hb3.mono hb2.size); obtain ⟨b0, b1, b2⟩ := HX.out _ hb3)
          | (go_at_call 10; (with_reducible refine (HRun.out _ hb3).mono ?_); rintro e w4 ⟨hb4, A1, c1, rfl, ok1⟩
             have hb4 := hb3.trans (hb4.mono hb3.size)
             have bA := Blk.new w4 32 #[.int .i64 s.kind, .int .i64 s.value, .int .i64 s.steps, .slice A1 s.ev.length c1]
             have hbA : Below w4.heap.size w4 (w4.alloc (.cells #[.int .i64 s.kind, .int .i64 s.value, .int .i64 s.steps, .slice A1 s.ev.length c1] 32)) := (Below.refl _ _).alloc (Nat.le_refl _) _
             have ok1 := ok1.at hbA
             have hb5 := hb4.trans (hbA.mono hb4.size)
             obtain ⟨x0, x1, x2, x3⟩ := blk4 bA
             obtain ⟨b0, b1, b2⟩ := HX.out _ hb5)
          | (go_at_call 10; (with_reducible refine (HRunZ.out _ hb5).mono ?_); rintro e w6 ⟨hb6, A2, c2, rfl, ok2⟩
             have ok1 := ok1.at hb6
             have bA6 := bA.below hb6 bA.lt
             have hb7 := hb5.trans (hb6.mono hb5.size)
             have bB := Blk.new w6 32 #[.int .i64 4, .int .i64 0, .int .i64 s2.steps, .slice A2 s2.ev.length c2]
             have hbB : Below w6.heap.size w6 (w6.alloc (.cells #[.int .i64 4, .int .i64 0, .int .i64 s2.steps, .slice A2 s2.ev.length c2] 32)) := (Below.refl _ _).alloc (Nat.le_refl _) _
             have ok1 := ok1.at hbB
             have ok2 := ok2.at hbB
             have hb8 := hb7.trans (hbB.mono hb7.size)
             have bA8 := bA6.below hbB bA6.lt
             obtain ⟨x0, x1, x2, x3⟩ := blk4 bA8
             obtain ⟨y0, y1, y2, y3⟩ := blk4 bB)
          | fail)
        go_ret
        exact ⟨by simp [HE3.out], HB.out.trans (hb8.mono HB.out.size)⟩
    · have e1 : (E != 0) = true := by simpa using hE
      clear hL hE
      go_enter Try.func5, Try.ntmps5
      go_wp2_with (first
        | (go_at_call 8; rw [HW1.out]; (with_reducible refine (HW.out _).mono ?_); rintro e w2 ⟨rfl, hb2⟩; obtain ⟨b0, b1, b2⟩ := HX.out _ hb2)
        | (go_at_call 9; (with_reducible refine (HF.out _).mono ?_); rintro e w3 ⟨rfl, hb3⟩; have hb3 := hb2.trans (hb3.mono hb2.size); obtain ⟨b0, b1, b2⟩ := HX.out _ hb3)
        | (go_at_call 10; (with_reducible refine (HRun.out _ hb3).mono ?_); rintro e w4 ⟨hb4, A1, c1, rfl, ok1⟩
           have hb4 := hb3.trans (hb4.mono hb3.size)
           have bA := Blk.new w4 32 #[.int .i64 s.kind, .int .i64 s.value, .int .i64 s.steps, .slice A1 s.ev.length c1]
           have hbA : Below w4.heap.size w4 (w4.alloc (.cells #[.int .i64 s.kind, .int .i64 s.value, .int .i64 s.steps, .slice A1 s.ev.length c1] 32)) := (Below.refl _ _).alloc (Nat.le_refl _) _
           have ok1 := ok1.at hbA
           have hb5 := hb4.trans (hbA.mono hb4.size)
           obtain ⟨x0, x1, x2, x3⟩ := blk4 bA
           obtain ⟨b0, b1, b2⟩ := HX.out _ hb5)
        | fail)
      go_ret
      exact ⟨rfl, HB.out.trans (hb5.mono HB.out.size)⟩

end Go.Proofs.Ytobndhiihcejaaa.Mach
