/-
  The laws of layer 16, walked on what the package's functions come to: a Skip at the beginning takes one unit of fuel.
-/
import Derived.Test.YtobndhiihcejaaaMachFirst2
import Derived.Test.YtobndhiihcejaaaMachLawD
import Derived.Deep.RegionHeld3
import Derived.Deep.DrawnRows
set_option linter.unusedVariables false
set_option linter.unusedSimpArgs false
namespace Go.Proofs.Ytobndhiihcejaaa.Mach
open Go.RowKit Mem _root_.Go.Proofs.Ytobndhiihcejaaa.Arena _root_.Go.Proofs.Ytobndhiihcejaaa.Kinds _root_.Go.Proofs.Ytobndhiihcejaaa.Path _root_.Go.Proofs.Ytobndhiihcejaaa.Cat _root_.Go.Proofs.Ytobndhiihcejaaa.Suite _root_.Go.Proofs.Ytobndhiihcejaaa.Delta
attribute [local go_sem ↓] Go.wp_at_zero Go.wp_at_succ

/-- The same program, with a Skip ahead. -/
def skipped (N : Int) (xs : List Nd) : List Nd := [(20, N + 1), (26, 0)] ++ xs.drop 1
structure Skips (p : Prg) (args : List Int) (f N : Int) (s s2 : St) (E2 : Int) : Prop where
  n0 : 0 ≤ N
  ok : E2 = 0
  kind : s2.kind = s.kind
  value : s2.value = s.value
  steps : s2.steps = s.steps + 1
  ev : s2.ev = s.ev
  few : (s.steps : Int) ≤ f
theorem skips_of {p : Prg} {args : List Int} {f N t : Int} {r : List Nd} (hxs : p.xs = (t, N) :: r) (h : mcheck p.ps p.vs p.xs args.length f = 0) (hf : 1 ≤ f) (hf2 : f ≤ 9999) (hN : N ≤ 60) :
    Skips p args f N (rrun p.ps p.vs p.xs args f) (rrun p.ps p.vs (skipped N p.xs) args (f + 1)) (mcheck p.ps p.vs (skipped N p.xs) args.length (f + 1)) := by
  have hr := mcheck_zero.1 h
  have h' : mcheck p.ps p.vs ((t, N) :: r) args.length f = 0 := by rw [← hxs]; exact h
  obtain ⟨-, a0, a1, a2, a3, a4, a5⟩ := first_of h' hf hf2 hN
  have hs : skipped N p.xs = (20, N + 1) :: (26, 0) :: r := by rw [hxs]; rfl
  have hfw : ((rrun p.ps p.vs p.xs args f).steps : Int) ≤ f := by
    rw [rrun_ok h]
    have := run_steps p.vs p.xs args f.toNat
    have := hr.f0
    omega
  rw [hs]
  rw [← hxs] at a2 a3 a4 a5
  exact ⟨a0, a1, a2, a3, a4, a5, hfw⟩
/-- A row of nodes that the call owns, as one letter each. -/
theorem own_sl {w : World} {base : Nat} {v : Value} {xs : List Nd} (h : w.ownsRow base 44 2 v xs.length (ncells xs)) :
    ∃ A c m, v = .slice A m c ∧ Hid (m = xs.length ∧ m ≤ c ∧ (A = none → c = 0) ∧ Nodes w w.heap.size A xs) := by
  obtain ⟨A, c, e, h1, h2, h3⟩ := own_nodes h
  exact ⟨A, c, xs.length, e, rfl, h1, h2, h3⟩
/-- The second run's end. -/
def SkipEnds (s : St) (w : World) (e : Ending) (w' : World) : Prop :=
  Below w.heap.size w w' ∧ ∃ A c, e = .returned (.tuple #[.agg #[.int .i64 s.kind, .int .i64 s.value, .int .i64 ((s.steps : Int) + 1), .slice A s.ev.length c], .int .i64 0]) ∧ ERow w' w'.heap.size A s.ev ∧ s.ev.length ≤ 1000000
theorem SkipEnds.of {p q : Prg} {args : List Int} {f N : Int} {s : St} {w : World} {e : Ending} {w' : World} (hs : Skips p args f N s (rrun q.ps q.vs q.xs args (f + 1)) (mcheck q.ps q.vs q.xs args.length (f + 1))) (h : RunEnds q args (f + 1) w e w') : SkipEnds s w e w' := by
  obtain ⟨hb, A, c, he, ok⟩ := h
  obtain ⟨-, h0, h1, h2, h3, h4, -⟩ := hs
  refine ⟨hb, A, c, ?_, ?_, ?_⟩
  · rw [he, h0, ← h1, ← h2, ← h4, ← (show ((rrun q.ps q.vs q.xs args (f + 1)).steps : Int) = (s.steps : Int) + 1 by rw [h3]; rfl)]
    rfl
  · have := ok.row
    rw [show (rn A c (rrun q.ps q.vs q.xs args (f + 1))).ev = s.ev from h4] at this
    exact this
  · have := ok.len
    rw [show (rn A c (rrun q.ps q.vs q.xs args (f + 1))).ev = s.ev from h4] at this
    exact this
set_option maxRecDepth 100000 in
set_option maxHeartbeats 8000000 in
theorem machineFirst_of (K : MPkg) (hw : Works) (p : Prg) (A : Option Addr) (c : Nat) (args : List Int) (hl : args.length ≤ c) (hA : A = none → c = 0) (f : Int) (hf : N64 f) (w : World) (hp : p.In w) (hR : IRow w w.heap.size A args) :
    Calls Try.prog 7 #[.agg #[.int .i64 p.ps, .slice p.A p.vs.length p.c, .slice p.B p.xs.length p.e], .slice A args.length c, .int .i64 f] w fun e w' => e = .returned (.bool true) ∧ Below w.heap.size w w' := by
  have hb0 : Below w.heap.size w (w.alloc (.cells #[.int .i64 p.ps, .slice p.A p.vs.length p.c, .slice p.B p.xs.length p.e] 25)) := (Below.refl _ _).alloc (Nat.le_refl _) _
  have bX := Blk.new w 25 #[.int .i64 p.ps, .slice p.A p.vs.length p.c, .slice p.B p.xs.length p.e]
  obtain ⟨w1, hw1⟩ : ∃ w1, w.alloc (.cells #[.int .i64 p.ps, .slice p.A p.vs.length p.c, .slice p.B p.xs.length p.e] 25) = w1 := ⟨_, rfl⟩
  rw [hw1] at hb0 bX
  have HP := Lib.hid (fun W (hb : Below w1.heap.size w1 W) => (hp.at hb0).at hb)
  have HR := Lib.hid (fun W (hb : Below w1.heap.size w1 W) => (hR.at hb0).at hb)
  have HX := Lib.hid (fun W (hb : Below w1.heap.size w1 W) => (bX.below hb bX.lt).three)
  have HW := Lib.hid (fun W => hw W)
  have HF := Lib.hid (fun W => few16_any p A c args.length f W)
  have HB := Lib.hid hb0
  have HW1 := Lib.hid hw1
  have hgl := bX.lt
  clear hp hR hb0 bX hw1 hw
  cases hfe : mfew p args.length f with
  | false =>
    rw [hfe] at HF
    go_enter Try.func7, Try.ntmps7
    go_wp2_with (first
      | (go_at_call 8; rw [HW1.out]; (with_reducible refine (HW.out _).mono ?_); rintro e w2 ⟨rfl, hb2⟩; obtain ⟨b0, b1, b2⟩ := HX.out _ hb2)
      | (go_at_call 9; (with_reducible refine (HF.out _).mono ?_); rintro e w3 ⟨rfl, hb3⟩; have hb3 := hb2.trans (hb3.mono hb2.size); obtain ⟨b0, b1, b2⟩ := HX.out _ hb3)
      | fail)
    go_ret
    exact ⟨rfl, HB.out.trans (hb3.mono HB.out.size)⟩
  | true =>
    rw [hfe] at HF
    obtain ⟨q1, q2, q3, q4⟩ := mfew_ok hfe
    by_cases f1 : f < 1
    · go_enter Try.func7, Try.ntmps7
      go_wp2_with (first
        | (go_at_call 8; rw [HW1.out]; (with_reducible refine (HW.out _).mono ?_); rintro e w2 ⟨rfl, hb2⟩; obtain ⟨b0, b1, b2⟩ := HX.out _ hb2)
        | (go_at_call 9; (with_reducible refine (HF.out _).mono ?_); rintro e w3 ⟨rfl, hb3⟩; have hb3 := hb2.trans (hb3.mono hb2.size); obtain ⟨b0, b1, b2⟩ := HX.out _ hb3)
        | fail)
      go_ret
      exact ⟨rfl, HB.out.trans (hb3.mono HB.out.size)⟩
    by_cases x0 : p.xs.length = 0
    · clear q1 q2 q3 q4 hfe
      rw [x0] at HX HF HW1
      go_enter Try.func7, Try.ntmps7
      go_wp2_with (first
        | (go_at_call 8; rw [HW1.out]; (with_reducible refine (HW.out _).mono ?_); rintro e w2 ⟨rfl, hb2⟩; obtain ⟨b0, b1, b2⟩ := HX.out _ hb2)
        | (go_at_call 9; (with_reducible refine (HF.out _).mono ?_); rintro e w3 ⟨rfl, hb3⟩; have hb3 := hb2.trans (hb3.mono hb2.size); obtain ⟨b0, b1, b2⟩ := HX.out _ hb3)
        | fail)
      go_ret
      exact ⟨rfl, HB.out.trans (hb3.mono HB.out.size)⟩
    obtain ⟨t, N, r, hxs⟩ : ∃ t N r, p.xs = (t, N) :: r := by
      cases h : p.xs with
      | nil => rw [h] at x0; exact absurd rfl x0
      | cons y r => exact ⟨y.1, y.2, r, rfl⟩
    obtain ⟨ad, hpB, -, -, -⟩ := (HP.out w1 (Below.refl _ _)).body 0 (t, N) (by rw [hxs]; rfl)
    have HPN := Lib.hid (fun W (hb : Below w1.heap.size w1 W) => show W.cell? ⟨ad.block, ad.off + 1, none⟩ = some (.int .i64 N) from by
      obtain ⟨ad', e, -, -, q⟩ := (HP.out W hb).body 0 (t, N) (by rw [hxs]; rfl)
      rw [hpB] at e; cases e
      simpa [Addr.add] using q)
    have l1 : (0 : Int) < (p.xs.length : Int) := by omega
    have l2 : 0 < p.xs.length := by omega
    have l3 : ¬ (p.xs.length : Int) = 0 := by omega
    have l4 : ((p.xs.length : Int) == 0) = false := by simpa using x0
    have HRun := Lib.hid (fun W (hb : Below w1.heap.size w1 W) => (K.run p A c args f W ((HP.out W hb).ok (by omega) (by omega)) (HR.out W hb) hl hA (by omega) hf).mono (RunEnds.open p args f W))
    rw [hpB] at HX HF HRun HW1
    have HXS := Lib.hid hxs
    clear hxs
    by_cases n1 : 60 < N
    · clear q1 q2 q3 q4 hfe HRun
      go_enter Try.func7, Try.ntmps7
      go_wp2_with (first
        | (go_at_call 8; rw [HW1.out]; (with_reducible refine (HW.out _).mono ?_); rintro e w2 ⟨rfl, hb2⟩; obtain ⟨b0, b1, b2⟩ := HX.out _ hb2)
        | (go_at_call 9; (with_reducible refine (HF.out _).mono ?_); rintro e w3 ⟨rfl, hb3⟩; have hb3 := hb2.trans (hb3.mono hb2.size); obtain ⟨b0, b1, b2⟩ := HX.out _ hb3; have pn := HPN.out _ hb3)
        | fail)
      go_ret
      exact ⟨rfl, HB.out.trans (hb3.mono HB.out.size)⟩
    have HL := Lib.hid (fun h hf2 => @skips_of p args f N t r HXS.out h (by omega) hf2 (by omega))
    generalize hE0 : mcheck p.ps p.vs p.xs args.length f = E at *
    generalize hs0 : rrun p.ps p.vs p.xs args f = s at *
    by_cases hE : E = 0
    · subst hE
      have hce := (HP.out w1 (Below.refl _ _)).ce
      have hf1 := (mcheck_zero.1 hE0).f1
      have hsk := HL.out rfl (by omega)
      have N0 := hsk.n0
      have L5 := hsk.few
      clear HL hE0 hs0
      have sw : IntKind.i64.wrap ((s.steps : Int) + 1) = (s.steps : Int) + 1 := IntWalk.i64_in _ (by omega)
      have HSk := Lib.hid hsk
      clear hsk
      have HRun2 := Lib.hid (fun A7 c7 m7 W (hb : Below w1.heap.size w1 W) (h7 : Hid (m7 = (skipped N p.xs).length ∧ m7 ≤ c7 ∧ (A7 = none → c7 = 0) ∧ Nodes W W.heap.size A7 (skipped N p.xs))) =>
        show Calls Try.prog 10 #[.agg #[.int .i64 p.ps, .slice p.A p.vs.length p.c, .slice A7 m7 c7], .slice A args.length c, .int .i64 (f + 1)] W (SkipEnds s W) from by
          obtain ⟨h0, h1, h2, h3⟩ := h7.out
          subst h0
          have hp := (HP.out W hb).ok (by omega) (by omega)
          exact (K.run ⟨p.ps, p.A, p.c, p.vs, A7, c7, skipped N p.xs⟩ A c args (f + 1) W ⟨hp.vars, h3, hp.lv, by simp [skipped]; omega, hp.cv, h1, hp.nv, h2⟩ (HR.out W hb) hl hA (by omega) ⟨by omega, by omega⟩).mono (fun e w' h => SkipEnds.of (p := p) (q := ⟨p.ps, p.A, p.c, p.vs, A7, c7, skipped N p.xs⟩) HSk.out h))
      have nw : IntKind.i64.wrap (N + 1) = N + 1 := IntWalk.i64_in _ (by omega)
      have fw : IntKind.i64.wrap (f + 1) = f + 1 := IntWalk.i64_in _ (by omega)
      have q5 : (1 : Int) ≤ (p.xs.length : Int) := by omega
      have q6 : (p.xs.length : Int) ≤ (p.e : Int) := by omega
      by_cases ce : p.e = 1
      · rw [ce] at HX HF HRun HW1
        have HEv := Lib.hid (fun A1 c1 A2 c2 W (h1 : ERow W W.heap.size A1 s.ev) (h2 : ERow W W.heap.size A2 s.ev) (hl : s.ev.length ≤ 1000000) => show Calls Try.prog 14 #[.slice A1 s.ev.length c1, .slice A2 s.ev.length c2] W fun e w' => e = .returned (.bool true) ∧ Below W.heap.size W w' from by
          have := ref_Events_any A1 c1 s.ev A2 c2 s.ev W h1 h2 hl
          simpa using this)
        have hxl : p.xs.length ≤ 60 := q2
        clear hfe
        go_enter Try.func7, Try.ntmps7
        go_wp2_with (first
          | (go_at_call 8; rw [HW1.out]; (with_reducible refine (HW.out _).mono ?_); rintro e w2 ⟨rfl, hb2⟩; obtain ⟨b0, b1, b2⟩ := HX.out _ hb2)
          | (go_at_call 9; (with_reducible refine (HF.out _).mono ?_); rintro e w3 ⟨rfl, hb3⟩; have hb3 := hb2.trans (hb3.mono hb2.size); obtain ⟨b0, b1, b2⟩ := HX.out _ hb3; have pn := HPN.out _ hb3)
          | (go_at_call 10; (with_reducible refine (HRun.out _ hb3).mono ?_); rintro e w4 ⟨hb4, A1, c1, rfl, ok1⟩
             have hb4 := hb3.trans (hb4.mono hb3.size)
             have bA := Blk.new w4 32 #[.int .i64 s.kind, .int .i64 s.value, .int .i64 s.steps, .slice A1 s.ev.length c1]
             have hbA : Below w4.heap.size w4 (w4.alloc (.cells #[.int .i64 s.kind, .int .i64 s.value, .int .i64 s.steps, .slice A1 s.ev.length c1] 32)) := (Below.refl _ _).alloc (Nat.le_refl _) _
             have ok1 := ok1.at hbA
             have hb5 := hb4.trans (hbA.mono hb4.size)
             obtain ⟨x0, x1, x2, x3⟩ := blk4 bA
             obtain ⟨b0, b1, b2⟩ := HX.out _ hb5
             have pn := HPN.out _ hb5)
          | fail)

        have hb6 := hb5.trans ((Below.refl w4.heap.size (w4.alloc (.cells #[.int .i64 s.kind, .int .i64 s.value, .int .i64 s.steps, .slice A1 s.ev.length c1] 32))).mono hb4.size)
        obtain ⟨W, hW⟩ : ∃ W, w4.alloc (.cells #[.int .i64 s.kind, .int .i64 s.value, .int .i64 s.steps, .slice A1 s.ev.length c1] 32) = W := ⟨_, rfl⟩
        rw [hW] at bA hbA ok1 hb5 x0 x1 x2 x3 b0 b1 b2 pn hb6 ⊢
        clear hW hb6
        have hbL : Below W.heap.size W (W.alloc (.cells #[.int .i64 20, .int .i64 (N + 1), .int .i64 26, .int .i64 0] 44)) := (Below.refl _ _).alloc (Nat.le_refl _) _
        have hb6 := hb5.trans (hbL.mono hb5.size)
        obtain ⟨d0, d1, d2⟩ := HX.out _ hb6
        have hO := World.ownsRow_lit (e := 44) (size := 2) (base := W.heap.size) W #[.int .i64 20, .int .i64 (N + 1), .int .i64 26, .int .i64 0] 2 (Nat.le_refl _) (by simp [maxLen]) (by simp)
        have hN1 := (HP.out _ hb6).body
        rw [hpB] at hN1
        have hN2 := hN1.back 1 p.e (by omega)
        rw [if_pos ce] at hN2
        go_region_law ((refine step_append_nds (by rfl) _ _ (by rfl) W.heap.size (by simp) (.slice (some ⟨W.heap.size, 0, none⟩) 2 2) [(20, N + 1), (26, 0)] (by rfl) hO _ ad 0 (p.xs.drop 1) (p.xs.length - 1) (by simp) (by rfl) hN2 (by simp; omega) ?_; intro v7 w7 hown hgr hat))
        all_goals
          have hb77 : Below W.heap.size W w7 := by first | exact hbL.grown hgr hbL.size (fun i e => (hO.lt i e).1) | exact hbL.drew.grown hgr hbL.drew.size (fun i e => (hO.lt i e).1)
          have hb7 := hb5.trans (hb77.mono hb5.size)
          obtain ⟨A7, c7, m7, rfl, h7⟩ := own_sl (xs := skipped N p.xs) hown
          have ok1 := ok1.at hb77
          have bA := bA.below hb77 bA.lt
          obtain ⟨x0, x1, x2, x3⟩ := blk4 bA
          obtain ⟨b0, b1, b2⟩ := HX.out _ hb7
          clear d0 d1 d2 hO hN1 hN2 hgr hat hown hb77 hbL hb6 pn hbA
          go_wp2_with (first
            | (go_at_call 10; (with_reducible refine (HRun2.out _ _ _ _ hb7 h7).mono ?_); rintro e w8 ⟨hb8, A2, c2, rfl, er2, el2⟩
               have ok1 := ok1.at hb8
               have bA8 := bA.below hb8 bA.lt
               have hb9 := hb7.trans (hb8.mono hb7.size)
               have bB := Blk.new w8 32 #[.int .i64 s.kind, .int .i64 s.value, .int .i64 ((s.steps : Int) + 1), .slice A2 s.ev.length c2]
               have hbB : Below w8.heap.size w8 (w8.alloc (.cells #[.int .i64 s.kind, .int .i64 s.value, .int .i64 ((s.steps : Int) + 1), .slice A2 s.ev.length c2] 32)) := (Below.refl _ _).alloc (Nat.le_refl _) _
               have ok1 := ok1.at hbB
               have er2 := er2.at hbB
               have hb10 := hb9.trans (hbB.mono hb9.size)
               have bA10 := bA8.below hbB bA8.lt
               obtain ⟨x0, x1, x2, x3⟩ := blk4 bA10
               obtain ⟨y0, y1, y2, y3⟩ := blk4 bB)
            | (go_at_call 14; (with_reducible refine (HEv.out _ _ _ _ _ ok1.row er2 el2).mono ?_); rintro e w11 ⟨rfl, hb11⟩
               have hb12 := hb10.trans (hb11.mono hb10.size)
               have bA11 := bA10.below hb11 bA10.lt
               have bB11 := bB.below hb11 bB.lt
               obtain ⟨x0, x1, x2, x3⟩ := blk4 bA11
               obtain ⟨y0, y1, y2, y3⟩ := blk4 bB11)
            | fail)
          go_ret
          exact ⟨by simp, HB.out.trans (hb12.mono HB.out.size)⟩
      have HEv := Lib.hid (fun A1 c1 A2 c2 W (h1 : ERow W W.heap.size A1 s.ev) (h2 : ERow W W.heap.size A2 s.ev) (hl : s.ev.length ≤ 1000000) => show Calls Try.prog 14 #[.slice A1 s.ev.length c1, .slice A2 s.ev.length c2] W fun e w' => e = .returned (.bool true) ∧ Below W.heap.size W w' from by
        have := ref_Events_any A1 c1 s.ev A2 c2 s.ev W h1 h2 hl
        simpa using this)
      have hxl : p.xs.length ≤ 60 := q2
      clear hfe
      go_enter Try.func7, Try.ntmps7
      go_wp2_with (first
        | (go_at_call 8; rw [HW1.out]; (with_reducible refine (HW.out _).mono ?_); rintro e w2 ⟨rfl, hb2⟩; obtain ⟨b0, b1, b2⟩ := HX.out _ hb2)
        | (go_at_call 9; (with_reducible refine (HF.out _).mono ?_); rintro e w3 ⟨rfl, hb3⟩; have hb3 := hb2.trans (hb3.mono hb2.size); obtain ⟨b0, b1, b2⟩ := HX.out _ hb3; have pn := HPN.out _ hb3)
        | (go_at_call 10; (with_reducible refine (HRun.out _ hb3).mono ?_); rintro e w4 ⟨hb4, A1, c1, rfl, ok1⟩
           have hb4 := hb3.trans (hb4.mono hb3.size)
           have bA := Blk.new w4 32 #[.int .i64 s.kind, .int .i64 s.value, .int .i64 s.steps, .slice A1 s.ev.length c1]
           have hbA : Below w4.heap.size w4 (w4.alloc (.cells #[.int .i64 s.kind, .int .i64 s.value, .int .i64 s.steps, .slice A1 s.ev.length c1] 32)) := (Below.refl _ _).alloc (Nat.le_refl _) _
           have ok1 := ok1.at hbA
           have hb5 := hb4.trans (hbA.mono hb4.size)
           obtain ⟨x0, x1, x2, x3⟩ := blk4 bA
           obtain ⟨b0, b1, b2⟩ := HX.out _ hb5
           have pn := HPN.out _ hb5)
        | fail)

      have hb6 := hb5.trans ((Below.refl w4.heap.size (w4.alloc (.cells #[.int .i64 s.kind, .int .i64 s.value, .int .i64 s.steps, .slice A1 s.ev.length c1] 32))).mono hb4.size)
      obtain ⟨W, hW⟩ : ∃ W, w4.alloc (.cells #[.int .i64 s.kind, .int .i64 s.value, .int .i64 s.steps, .slice A1 s.ev.length c1] 32) = W := ⟨_, rfl⟩
      rw [hW] at bA hbA ok1 hb5 x0 x1 x2 x3 b0 b1 b2 pn hb6 ⊢
      clear hW hb6
      have hbL : Below W.heap.size W (W.alloc (.cells #[.int .i64 20, .int .i64 (N + 1), .int .i64 26, .int .i64 0] 44)) := (Below.refl _ _).alloc (Nat.le_refl _) _
      have hb6 := hb5.trans (hbL.mono hb5.size)
      obtain ⟨d0, d1, d2⟩ := HX.out _ hb6
      have hO := World.ownsRow_lit (e := 44) (size := 2) (base := W.heap.size) W #[.int .i64 20, .int .i64 (N + 1), .int .i64 26, .int .i64 0] 2 (Nat.le_refl _) (by simp [maxLen]) (by simp)
      have hN1 := (HP.out _ hb6).body
      rw [hpB] at hN1
      have hN2 := hN1.back 1 p.e (by omega)
      rw [if_neg ce] at hN2
      go_region_law ((refine step_append_nds (by rfl) _ _ (by rfl) W.heap.size (by simp) (.slice (some ⟨W.heap.size, 0, none⟩) 2 2) [(20, N + 1), (26, 0)] (by rfl) hO _ (ad.add 2) (p.e - 1) (p.xs.drop 1) (p.xs.length - 1) (by simp) (by rfl) hN2 (by simp; omega) ?_; intro v7 w7 hown hgr hat))
      all_goals
        have hb77 : Below W.heap.size W w7 := by first | exact hbL.grown hgr hbL.size (fun i e => (hO.lt i e).1) | exact hbL.drew.grown hgr hbL.drew.size (fun i e => (hO.lt i e).1)
        have hb7 := hb5.trans (hb77.mono hb5.size)
        obtain ⟨A7, c7, m7, rfl, h7⟩ := own_sl (xs := skipped N p.xs) hown
        have ok1 := ok1.at hb77
        have bA := bA.below hb77 bA.lt
        obtain ⟨x0, x1, x2, x3⟩ := blk4 bA
        obtain ⟨b0, b1, b2⟩ := HX.out _ hb7
        clear d0 d1 d2 hO hN1 hN2 hgr hat hown hb77 hbL hb6 pn hbA
        go_wp2_with (first
          | (go_at_call 10; (with_reducible refine (HRun2.out _ _ _ _ hb7 h7).mono ?_); rintro e w8 ⟨hb8, A2, c2, rfl, er2, el2⟩
             have ok1 := ok1.at hb8
             have bA8 := bA.below hb8 bA.lt
             have hb9 := hb7.trans (hb8.mono hb7.size)
             have bB := Blk.new w8 32 #[.int .i64 s.kind, .int .i64 s.value, .int .i64 ((s.steps : Int) + 1), .slice A2 s.ev.length c2]
             have hbB : Below w8.heap.size w8 (w8.alloc (.cells #[.int .i64 s.kind, .int .i64 s.value, .int .i64 ((s.steps : Int) + 1), .slice A2 s.ev.length c2] 32)) := (Below.refl _ _).alloc (Nat.le_refl _) _
             have ok1 := ok1.at hbB
             have er2 := er2.at hbB
             have hb10 := hb9.trans (hbB.mono hb9.size)
             have bA10 := bA8.below hbB bA8.lt
             obtain ⟨x0, x1, x2, x3⟩ := blk4 bA10
             obtain ⟨y0, y1, y2, y3⟩ := blk4 bB)
          | (go_at_call 14; (with_reducible refine (HEv.out _ _ _ _ _ ok1.row er2 el2).mono ?_); rintro e w11 ⟨rfl, hb11⟩
             have hb12 := hb10.trans (hb11.mono hb10.size)
             have bA11 := bA10.below hb11 bA10.lt
             have bB11 := bB.below hb11 bB.lt
             obtain ⟨x0, x1, x2, x3⟩ := blk4 bA11
             obtain ⟨y0, y1, y2, y3⟩ := blk4 bB11)
          | fail)
        go_ret
        exact ⟨by simp, HB.out.trans (hb12.mono HB.out.size)⟩
    · have e1 : (E != 0) = true := by simpa using hE
      clear HL hE hE0 hs0 q4 hfe
      go_enter Try.func7, Try.ntmps7
      go_wp2_with (first
        | (go_at_call 8; rw [HW1.out]; (with_reducible refine (HW.out _).mono ?_); rintro e w2 ⟨rfl, hb2⟩; obtain ⟨b0, b1, b2⟩ := HX.out _ hb2)
        | (go_at_call 9; (with_reducible refine (HF.out _).mono ?_); rintro e w3 ⟨rfl, hb3⟩; have hb3 := hb2.trans (hb3.mono hb2.size); obtain ⟨b0, b1, b2⟩ := HX.out _ hb3; have pn := HPN.out _ hb3)
        | (go_at_call 10; (with_reducible refine (HRun.out _ hb3).mono ?_); rintro e w4 ⟨hb4, A1, c1, rfl, ok1⟩
           have hb4 := hb3.trans (hb4.mono hb3.size)
           have bA := Blk.new w4 32 #[.int .i64 s.kind, .int .i64 s.value, .int .i64 s.steps, .slice A1 s.ev.length c1]
           have hbA : Below w4.heap.size w4 (w4.alloc (.cells #[.int .i64 s.kind, .int .i64 s.value, .int .i64 s.steps, .slice A1 s.ev.length c1] 32)) := (Below.refl _ _).alloc (Nat.le_refl _) _
           have ok1 := ok1.at hbA
           have hb5 := hb4.trans (hbA.mono hb4.size)
           obtain ⟨x0, x1, x2, x3⟩ := blk4 bA
           obtain ⟨b0, b1, b2⟩ := HX.out _ hb5)
        | fail)
      go_ret
      exact ⟨rfl, HB.out.trans (hb5.mono HB.out.size)⟩

end Go.Proofs.Ytobndhiihcejaaa.Mach
