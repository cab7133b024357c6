/-
  The laws of layer 16, walked on what the package's functions come to: with more fuel a run that ended is the same.
-/
import Derived.Test.YtobndhiihcejaaaMachLawA
import Derived.Deep.RegionHeld3
import Derived.Deep.DrawnRows
set_option linter.unusedVariables false
set_option linter.unusedSimpArgs false
namespace Go.Proofs.Ytobndhiihcejaaa.Mach
open Go.RowKit Mem _root_.Go.Proofs.Ytobndhiihcejaaa.Arena _root_.Go.Proofs.Ytobndhiihcejaaa.Kinds _root_.Go.Proofs.Ytobndhiihcejaaa.Path _root_.Go.Proofs.Ytobndhiihcejaaa.Cat _root_.Go.Proofs.Ytobndhiihcejaaa.Suite _root_.Go.Proofs.Ytobndhiihcejaaa.Delta
attribute [local go_sem ↓] Go.wp_at_zero Go.wp_at_succ

/-- With more fuel, as the law asks. -/
structure More (s s2 : St) (f m : Int) : Prop where
  top : (s.steps : Int) ≤ f
  grow : s.steps ≤ s2.steps
  len : s.ev.length ≤ s2.ev.length
  pre : s2.ev.take s.ev.length = s.ev
  same : s.kind ≠ 4 → s2.kind = s.kind ∧ s2.value = s.value ∧ s2.steps = s.steps ∧ s2.ev = s.ev
  out : s.kind = 4 → (s.steps : Int) = f ∧ (m = 0 ∨ s.steps < s2.steps)
theorem more_of {p : Prg} {args : List Int} {f m : Int} (h0 : 0 ≤ m) (h : mcheck p.ps p.vs p.xs args.length f = 0) (h' : mcheck p.ps p.vs p.xs args.length (f + m) = 0) : More (rrun p.ps p.vs p.xs args f) (rrun p.ps p.vs p.xs args (f + m)) f m := by
  obtain ⟨a1, a2, a3, a4, a5⟩ := rrun_fuel p.ps p.vs p.xs args h0 h h'
  exact ⟨a1, a2, a3.length_le, (List.prefix_iff_eq_take.1 a3).symm, fun q => by obtain ⟨b1, b2, b3, b4⟩ := a4 q; exact ⟨b1.symm, b2.symm, b3.symm, b4.symm⟩, a5⟩

set_option maxRecDepth 100000 in
set_option maxHeartbeats 8000000 in
theorem machineFuel_of (K : MPkg) (hw : Works) (p : Prg) (A : Option Addr) (c : Nat) (args : List Int) (hl : args.length ≤ c) (hA : A = none → c = 0) (f : Int) (hf : N64 f) (m : Int) (hm : N64 m) (w : World) (hp : p.In w) (hR : IRow w w.heap.size A args) :
    Calls Try.prog 4 #[.agg #[.int .i64 p.ps, .slice p.A p.vs.length p.c, .slice p.B p.xs.length p.e], .slice A args.length c, .int .i64 f, .int .i64 m] w fun e w' => e = .returned (.bool true) ∧ Below w.heap.size w w' := by
  have hb0 : Below w.heap.size w (w.alloc (.cells #[.int .i64 p.ps, .slice p.A p.vs.length p.c, .slice p.B p.xs.length p.e] 25)) := (Below.refl _ _).alloc (Nat.le_refl _) _
  have bX := Blk.new w 25 #[.int .i64 p.ps, .slice p.A p.vs.length p.c, .slice p.B p.xs.length p.e]
  obtain ⟨w1, hw1⟩ : ∃ w1, w.alloc (.cells #[.int .i64 p.ps, .slice p.A p.vs.length p.c, .slice p.B p.xs.length p.e] 25) = w1 := ⟨_, rfl⟩
  rw [hw1] at hb0 bX
  have HP := Lib.hid (fun W (hb : Below w1.heap.size w1 W) => (hp.at hb0).at hb)
  have HR := Lib.hid (fun W (hb : Below w1.heap.size w1 W) => (hR.at hb0).at hb)
  have HX := Lib.hid (fun W (hb : Below w1.heap.size w1 W) => (bX.below hb bX.lt).three)
  have HW := Lib.hid (fun W => hw W)
  have HF := Lib.hid (fun W => few16_any p A c args.length f W)
  have HB := Lib.hid hb0
  have HW1 := Lib.hid hw1
  have hgl := bX.lt
  clear hp hR hb0 bX hw1 hw
  by_cases hG : mfew p args.length f = true ∧ 0 ≤ f ∧ 0 ≤ m ∧ m ≤ 400
  · obtain ⟨hfe, g1, g2, g3⟩ := hG
    rw [hfe] at HF
    obtain ⟨q1, q2, q3, q4⟩ := mfew_ok hfe
    have j1 : ¬ f < 0 := by omega
    have j2 : ¬ m < 0 := by omega
    have j3 : ¬ 400 < m := by omega
    -- the fuel of the second run
    obtain ⟨f2, hf2⟩ : ∃ f2, IntKind.i64.wrap (f + m) = f2 := ⟨_, rfl⟩
    have hf2r : N64 f2 ∧ (f2 = f + m ∨ (10000 < f ∧ f2 < 0)) := by
      rw [← hf2, IntKind.wrap_i64]
      unfold N64 at hf ⊢
      omega
    have hEE : mcheck p.ps p.vs p.xs args.length f2 = mcheck p.ps p.vs p.xs args.length f := mcheck_fuel (by omega)
    have hMore : mcheck p.ps p.vs p.xs args.length f = 0 → More (rrun p.ps p.vs p.xs args f) (rrun p.ps p.vs p.xs args f2) f m := fun h => by
      have h1 := (mcheck_zero.1 h).f1
      have e : f2 = f + m := by omega
      rw [e] at hEE ⊢
      exact more_of g2 h (hEE.trans h)
    have HRun := Lib.hid (fun W (hb : Below w1.heap.size w1 W) => (K.run p A c args f W ((HP.out W hb).ok (by omega) (by omega)) (HR.out W hb) hl hA (by omega) hf).mono (RunEnds.open p args f W))
    have HRun2 := Lib.hid (fun W (hb : Below w1.heap.size w1 W) => (K.run p A c args f2 W ((HP.out W hb).ok (by omega) (by omega)) (HR.out W hb) hl hA (by omega) hf2r.1).mono (RunEnds.open p args f2 W))
    rw [hEE] at HRun2
    generalize rrun p.ps p.vs p.xs args f2 = s2 at *
    generalize rrun p.ps p.vs p.xs args f = s at *
    generalize mcheck p.ps p.vs p.xs args.length f = E at *
    clear q1 q2 q3 q4 hfe hf hm hf2r hEE g1 g2 g3
    by_cases hE : E = 0
    · subst hE
      have hM := hMore rfl
      obtain ⟨m1, m2, m3, m4, m5, m6⟩ := id hM
      have k1 : ¬ f < (s.steps : Int) := by omega
      have k2 : ¬ (s.steps : Int) < 0 := by omega
      have k3 : ¬ (s2.steps : Int) < (s.steps : Int) := by omega
      have k4 : ¬ (s2.ev.length : Int) < (s.ev.length : Int) := by omega
      have k5 : ¬ s2.steps < s.steps := by omega
      have k6 : ¬ s2.ev.length < s.ev.length := by omega
      clear hMore
      have HM := Lib.hid hM
      clear hM m4 m5 m6
      go_enter Try.func4, Try.ntmps4
      go_wp2_with (first
        | (go_at_call 8; rw [HW1.out]; (with_reducible refine (HW.out _).mono ?_); rintro e w2 ⟨rfl, hb2⟩; obtain ⟨b0, b1, b2⟩ := HX.out _ hb2)
        | (go_at_call 9; (with_reducible refine (HF.out _).mono ?_); rintro e w3 ⟨rfl, hb3⟩; have hb3 := hb2.trans (hb3.mono hb2.size); obtain ⟨b0, b1, b2⟩ := HX.out _ hb3)
        | (go_at_call 10; first
          | ((with_reducible refine (HRun.out _ hb3).mono ?_); rintro e w4 ⟨hb4, A1, c1, rfl, ok1⟩
             have hb4 := hb3.trans (hb4.mono hb3.size)
             have bA := Blk.new w4 32 #[.int .i64 s.kind, .int .i64 s.value, .int .i64 s.steps, .slice A1 s.ev.length c1]
             have hbA : Below w4.heap.size w4 (w4.alloc (.cells #[.int .i64 s.kind, .int .i64 s.value, .int .i64 s.steps, .slice A1 s.ev.length c1] 32)) := (Below.refl _ _).alloc (Nat.le_refl _) _
             have ok1 := ok1.at hbA
             have hb5 := hb4.trans (hbA.mono hb4.size)
             obtain ⟨b0, b1, b2⟩ := HX.out _ hb5)
          | ((with_reducible refine (HRun2.out _ hb5).mono ?_); rintro e w6 ⟨hb6, A2, c2, rfl, ok2⟩
             have ok1 := ok1.at hb6
             have bA6 := bA.below hb6 bA.lt
             have hb7 := hb5.trans (hb6.mono hb5.size)
             have bB := Blk.new w6 32 #[.int .i64 s2.kind, .int .i64 s2.value, .int .i64 s2.steps, .slice A2 s2.ev.length c2]
             have hbB : Below w6.heap.size w6 (w6.alloc (.cells #[.int .i64 s2.kind, .int .i64 s2.value, .int .i64 s2.steps, .slice A2 s2.ev.length c2] 32)) := (Below.refl _ _).alloc (Nat.le_refl _) _
             have ok1 := ok1.at hbB
             have ok2 := ok2.at hbB
             have hb8 := hb7.trans (hbB.mono hb7.size)
             have bA8 := bA6.below hbB bA6.lt
             obtain ⟨x0, x1, x2, x3⟩ := blk4 bA8
             obtain ⟨y0, y1, y2, y3⟩ := blk4 bB)
          | fail)
        | fail)
      generalize w6.alloc (.cells #[.int .i64 s2.kind, .int .i64 s2.value, .int .i64 s2.steps, .slice A2 s2.ev.length c2] 32) = w8 at *
      have hd : Below w8.heap.size w8 w8.drew := (Below.refl _ _).drew
      have ok1d := ok1.at hd
      have ok2d := ok2.at hd
      have hcap : s2.ev.length ≤ c2 := ok2.cap
      have hnone : A2 = none → c2 = 0 := ok2.none
      have hlen : s.ev.length ≤ 1000000 := ok1.len
      clear hd
      cases A2 with
      | none =>
        obtain rfl : c2 = 0 := hnone rfl
        have l2 : s2.ev.length = 0 := by omega
        have l1 : s.ev.length = 0 := by omega
        have hee : s.ev = s2.ev := by rw [List.length_eq_zero_iff.1 l1, List.length_eq_zero_iff.1 l2]
        have x3 := x3.trans (show some (Value.slice A1 s.ev.length c1) = some (.slice A1 0 c1) by rw [l1])
        have y3 := y3.trans (show some (Value.slice none s2.ev.length 0) = some (.slice none 0 0) by rw [l2])
        have HEv := Lib.hid (fun W (h1 : (rn A1 c1 s).Ok W) (h2 : (rn none 0 s2).Ok W) => show Calls Try.prog 14 #[.slice A1 0 c1, .slice none 0 0] W fun e w' => e = .returned (.bool true) ∧ Below W.heap.size W w' from by
          have := ref_Events_any A1 c1 s.ev none 0 s2.ev W h1.row h2.row h1.len
          rw [decide_eq_true hee, l1, l2] at this
          exact this)
        have HL1 := Lib.hid l1
        clear k4 k6 hcap hlen hee hnone
        go_region_held3 (fun w' => w'.cell? ⟨w4.heap.size, 3, none⟩ = some (.slice A1 0 c1) ∧ w'.cell? ⟨w6.heap.size, 3, none⟩ = some (.slice none 0 0)) (first | (with_reducible exact ⟨x3, y3⟩) | exact ⟨x3, y3⟩ | fail) (first
          | (go_at_call 14; (with_reducible refine (HEv.out _ ok1d ok2d).mono ?_); rintro e w9 ⟨rfl, hb9⟩
             have hb9' := (Below.refl _ _).drew.trans hb9
             have ok1 := ok1.at hb9'
             have ok2 := ok2.at hb9'
             have bA9 := bA8.below hb9' bA8.lt
             have bB9 := bB.below hb9' bB.lt
             have hb9 := hb8.trans (hb9'.mono hb8.size)
             obtain ⟨x0, x1, x2, x3⟩ := blk4 bA9
             obtain ⟨y0, y1, y2, y3⟩ := blk4 bB9
             have x3 := x3.trans (show some (Value.slice A1 s.ev.length c1) = some (.slice A1 0 c1) by rw [l1])
             have y3 := y3.trans (show some (Value.slice none s2.ev.length 0) = some (.slice none 0 0) by rw [l2]))
          | fail)
        by_cases hk4 : s.kind = 4
        · have z1 : (s.kind != 4) = false := by simpa using hk4
          obtain ⟨o1, o2⟩ := HM.out.out hk4
          have z2 : ((s.steps : Int) == f) = true := by simpa using o1
          by_cases hm0 : m = 0
          · have z3 : (m == 0) = true := by simpa using hm0
            go_wp2_with fail
            go_ret
            exact ⟨by simp [hm0, o1], HB.out.trans (hb9.mono HB.out.size)⟩
          · have z3 : (m == 0) = false := by simpa using hm0
            have o3 : s.steps < s2.steps := o2.resolve_left hm0
            have z4 : (s.steps : Int) < (s2.steps : Int) := by omega
            have z5 : f < (s2.steps : Int) := by omega
            go_wp2_with fail
            go_ret
            exact ⟨by simp [hm0, o1, o3, z5], HB.out.trans (hb9.mono HB.out.size)⟩
        · have z1 : (s.kind != 4) = true := by simpa using hk4
          have hsame : (rn A1 c1 s).same (rn none 0 s2) = true := by
            obtain ⟨e1, e2, e3, e4⟩ := HM.out.same hk4
            exact Rn.same_iff.2 ⟨e4.symm, e1.symm, e2.symm, by show (s.steps : Int) = s2.steps; rw [e3]⟩
          have HSm := Lib.hid (fun W (h1 : (rn A1 c1 s).Ok W) (h2 : (rn none 0 s2).Ok W) => show Calls Try.prog 12 #[.agg #[.int .i64 s.kind, .int .i64 s.value, .int .i64 s.steps, .slice A1 0 c1], .agg #[.int .i64 s2.kind, .int .i64 s2.value, .int .i64 s2.steps, .slice none 0 0]] W fun e w' => e = .returned (.bool true) ∧ Below W.heap.size W w' from by
            have := ref_MSame_any _ _ W h1 h2
            rw [hsame] at this
            unfold Rn.val rn at this
            simp only [l1, l2] at this
            exact this)
          go_wp2_with (first
            | (go_at_call 12; (with_reducible refine (HSm.out _ ok1 ok2).mono ?_); rintro e w10 ⟨rfl, hb10⟩; have hb11 := hb9.trans (hb10.mono hb9.size))
            | fail)
          go_ret
          exact ⟨by simp, HB.out.trans (hb11.mono HB.out.size)⟩
      | some ad2 =>
        clear hnone
        have k7 : (s.ev.length : Int) ≤ (c2 : Int) := by omega
        have k8 : (0 : Int) ≤ (s.ev.length : Int) := by omega
        have HEv := Lib.hid (fun W (h1 : (rn A1 c1 s).Ok W) (h2 : (rn (some ad2) c2 s2).Ok W) => show Calls Try.prog 14 #[.slice A1 s.ev.length c1, .slice (some ad2) s.ev.length c2] W fun e w' => e = .returned (.bool true) ∧ Below W.heap.size W w' from by
          have h3 := h2.row.take s.ev.length
          have h4 : ERow W W.heap.size (some ad2) s.ev := by
            have e : (rn (some ad2) c2 s2).ev.take s.ev.length = s.ev := HM.out.pre
            rw [e] at h3; exact h3
          have := ref_Events_any A1 c1 s.ev (some ad2) c2 s.ev W h1.row h4 h1.len
          rw [decide_eq_true rfl] at this
          exact this)
        go_region_held3 (fun w' => w'.cell? ⟨w4.heap.size, 3, none⟩ = some (.slice A1 s.ev.length c1) ∧ w'.cell? ⟨w6.heap.size, 3, none⟩ = some (.slice (some ad2) s2.ev.length c2)) (first | (with_reducible exact ⟨x3, y3⟩) | exact ⟨x3, y3⟩ | fail) (first
          | (go_at_call 14; (with_reducible refine (HEv.out _ ok1d ok2d).mono ?_); rintro e w9 ⟨rfl, hb9⟩
             have hb9' := (Below.refl _ _).drew.trans hb9
             have ok1 := ok1.at hb9'
             have ok2 := ok2.at hb9'
             have bA9 := bA8.below hb9' bA8.lt
             have bB9 := bB.below hb9' bB.lt
             have hb9 := hb8.trans (hb9'.mono hb8.size)
             obtain ⟨x0, x1, x2, x3⟩ := blk4 bA9
             obtain ⟨y0, y1, y2, y3⟩ := blk4 bB9)
          | fail)
        by_cases hk4 : s.kind = 4
        · have z1 : (s.kind != 4) = false := by simpa using hk4
          obtain ⟨o1, o2⟩ := HM.out.out hk4
          have z2 : ((s.steps : Int) == f) = true := by simpa using o1
          by_cases hm0 : m = 0
          · have z3 : (m == 0) = true := by simpa using hm0
            go_wp2_with fail
            go_ret
            exact ⟨by simp [hm0, o1], HB.out.trans (hb9.mono HB.out.size)⟩
          · have z3 : (m == 0) = false := by simpa using hm0
            have o3 : s.steps < s2.steps := o2.resolve_left hm0
            have z4 : (s.steps : Int) < (s2.steps : Int) := by omega
            have z5 : f < (s2.steps : Int) := by omega
            go_wp2_with fail
            go_ret
            exact ⟨by simp [hm0, o1, o3, z5], HB.out.trans (hb9.mono HB.out.size)⟩
        · have z1 : (s.kind != 4) = true := by simpa using hk4
          have hsame : (rn A1 c1 s).same (rn (some ad2) c2 s2) = true := by
            obtain ⟨e1, e2, e3, e4⟩ := HM.out.same hk4
            exact Rn.same_iff.2 ⟨e4.symm, e1.symm, e2.symm, by show (s.steps : Int) = s2.steps; rw [e3]⟩
          have HSm := Lib.hid (fun W (h1 : (rn A1 c1 s).Ok W) (h2 : (rn (some ad2) c2 s2).Ok W) => show Calls Try.prog 12 #[.agg #[.int .i64 s.kind, .int .i64 s.value, .int .i64 s.steps, .slice A1 s.ev.length c1], .agg #[.int .i64 s2.kind, .int .i64 s2.value, .int .i64 s2.steps, .slice (some ad2) s2.ev.length c2]] W fun e w' => e = .returned (.bool true) ∧ Below W.heap.size W w' from by
            have := ref_MSame_any _ _ W h1 h2
            rw [hsame] at this
            exact this)
          go_wp2_with (first
            | (go_at_call 12; (with_reducible refine (HSm.out _ ok1 ok2).mono ?_); rintro e w10 ⟨rfl, hb10⟩; have hb11 := hb9.trans (hb10.mono hb9.size))
            | fail)
          go_ret
          exact ⟨by simp, HB.out.trans (hb11.mono HB.out.size)⟩
    · have e1 : (E != 0) = true := by simpa using hE
      have e2 : (E == 0) = false := by simpa using hE
      clear hMore hE
      go_enter Try.func4, Try.ntmps4
      go_wp2_with (first
        | (go_at_call 8; rw [HW1.out]; (with_reducible refine (HW.out _).mono ?_); rintro e w2 ⟨rfl, hb2⟩; obtain ⟨b0, b1, b2⟩ := HX.out _ hb2)
        | (go_at_call 9; (with_reducible refine (HF.out _).mono ?_); rintro e w3 ⟨rfl, hb3⟩; have hb3 := hb2.trans (hb3.mono hb2.size); obtain ⟨b0, b1, b2⟩ := HX.out _ hb3)
        | (go_at_call 10; first
            | ((with_reducible refine (HRun.out _ hb3).mono ?_); rintro e w4 ⟨hb4, A1, c1, rfl, ok1⟩
               have hb4 := hb3.trans (hb4.mono hb3.size)
               have hbA : Below w4.heap.size w4 (w4.alloc (.cells #[.int .i64 s.kind, .int .i64 s.value, .int .i64 s.steps, .slice A1 s.ev.length c1] 32)) := (Below.refl _ _).alloc (Nat.le_refl _) _
               have hb5 := hb4.trans (hbA.mono hb4.size)
               obtain ⟨b0, b1, b2⟩ := HX.out _ hb5)
            | ((with_reducible refine (HRun2.out _ hb5).mono ?_); rintro e w6 ⟨hb6, A2, c2, rfl, ok2⟩
               have hb7 := hb5.trans (hb6.mono hb5.size))
            | fail)
        | fail)
      go_ret
      exact ⟨rfl, HB.out.trans ((hb7.alloc hb7.size _).mono HB.out.size)⟩
  · cases hfe : mfew p args.length f with
    | false =>
      rw [hfe] at HF
      go_enter Try.func4, Try.ntmps4
      go_wp2_with (first
        | (go_at_call 8; rw [HW1.out]; (with_reducible refine (HW.out _).mono ?_); rintro e w2 ⟨rfl, hb2⟩; obtain ⟨b0, b1, b2⟩ := HX.out _ hb2)
        | (go_at_call 9; (with_reducible refine (HF.out _).mono ?_); rintro e w3 ⟨rfl, hb3⟩; have hb3 := hb2.trans (hb3.mono hb2.size); obtain ⟨b0, b1, b2⟩ := HX.out _ hb3)
        | fail)
      go_ret
      exact ⟨rfl, HB.out.trans (hb3.mono HB.out.size)⟩
    | true =>
      rw [hfe] at HF
      by_cases j1 : f < 0
      · go_enter Try.func4, Try.ntmps4
        go_wp2_with (first
          | (go_at_call 8; rw [HW1.out]; (with_reducible refine (HW.out _).mono ?_); rintro e w2 ⟨rfl, hb2⟩; obtain ⟨b0, b1, b2⟩ := HX.out _ hb2)
          | (go_at_call 9; (with_reducible refine (HF.out _).mono ?_); rintro e w3 ⟨rfl, hb3⟩; have hb3 := hb2.trans (hb3.mono hb2.size); obtain ⟨b0, b1, b2⟩ := HX.out _ hb3)
          | fail)
        go_ret
        exact ⟨rfl, HB.out.trans (hb3.mono HB.out.size)⟩
      by_cases j2 : m < 0
      · go_enter Try.func4, Try.ntmps4
        go_wp2_with (first
          | (go_at_call 8; rw [HW1.out]; (with_reducible refine (HW.out _).mono ?_); rintro e w2 ⟨rfl, hb2⟩; obtain ⟨b0, b1, b2⟩ := HX.out _ hb2)
          | (go_at_call 9; (with_reducible refine (HF.out _).mono ?_); rintro e w3 ⟨rfl, hb3⟩; have hb3 := hb2.trans (hb3.mono hb2.size); obtain ⟨b0, b1, b2⟩ := HX.out _ hb3)
          | fail)
        go_ret
        exact ⟨rfl, HB.out.trans (hb3.mono HB.out.size)⟩
      have j3 : 400 < m := by
        by_cases j3 : 400 < m
        · exact j3
        · exact absurd ⟨hfe, by omega, by omega, by omega⟩ hG
      go_enter Try.func4, Try.ntmps4
      go_wp2_with (first
        | (go_at_call 8; rw [HW1.out]; (with_reducible refine (HW.out _).mono ?_); rintro e w2 ⟨rfl, hb2⟩; obtain ⟨b0, b1, b2⟩ := HX.out _ hb2)
        | (go_at_call 9; (with_reducible refine (HF.out _).mono ?_); rintro e w3 ⟨rfl, hb3⟩; have hb3 := hb2.trans (hb3.mono hb2.size); obtain ⟨b0, b1, b2⟩ := HX.out _ hb3)
        | fail)
      go_ret
      exact ⟨rfl, HB.out.trans (hb3.mono HB.out.size)⟩

end Go.Proofs.Ytobndhiihcejaaa.Mach
