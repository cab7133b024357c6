/-
  Package direct, walked: a Block, a While.
-/
import Derived.Test.YtodejloonfkkmaaDirPDoB
import Derived.Test.YtodejloonfkkmaaMachG
set_option linter.unusedVariables false
set_option linter.unusedSimpArgs false
namespace Go.Proofs.Ytodejloonfkkmaa.Dir
open Go.RowKit Mem _root_.Go.Proofs.Ytodejloonfkkmaa.Arena _root_.Go.Proofs.Ytodejloonfkkmaa.Kinds _root_.Go.Proofs.Ytodejloonfkkmaa.Path _root_.Go.Proofs.Ytodejloonfkkmaa.Cat _root_.Go.Proofs.Ytodejloonfkkmaa.Suite _root_.Go.Proofs.Ytodejloonfkkmaa.Mach
attribute [local go_sem ↓] Go.wp_at_zero Go.wp_at_succ

section
variable {K : DK} {κ : Nat → Nat} {evv : Value} {Y : List ((Option Addr × Nat) × List Int)} {s : St} {pos : Int} {W W' : World}
set_option maxRecDepth 100000 in
set_option maxHeartbeats 2000000 in
theorem do_block {P : Nat → Int} {R : Nat → St} {n : Nat} (hn : n ≤ 1000000) (h : DM K κ evv Y (R 0) (P 0) W) (ho : (R 0).over = false) (hstep : ∀ j, j < n → (R j).over = false → ∃ v, NodeOk K (P j) (R j) (R (j + 1), v) (P (j + 1))) (hover : ∀ j, j ≤ n → (R j).over = true → R n = R j) :
    Calls Try.prog 108 #[.agg #[], .pointer (some ⟨K.g, 0, none⟩), .int .i64 n] W (DEnds K κ (R n, 0) (P n) W) := by
  have hb0 := (Below.refl W.heap.size W).alloc (Nat.le_refl _) (.cells #[] 99)
  have H0 := Lib.hid (h.below hb0)
  have HW0 := Lib.hid ((Went.refl κ W).below hb0)
  clear h hb0
  have HC0 := Lib.hid (show Came K κ (R 0) (P 0) W _ from ⟨_, _, _, H0.out, HW0.out⟩)
  have HST := Lib.hid hstep
  have HOV := Lib.hid hover
  clear H0 HW0 hstep hover
  go_enter Try.func108, Try.ntmps108
  go_wp2_with fail
  go_loopw [8] (fun i wr => ∃ j : Nat, j ≤ n ∧ i = .int .i64 j ∧ (R j).over = false ∧ Came K κ (R j) (P j) W wr) (fun i _ => n - (intOf i).toNat)
  case atStart => exact ⟨0, Nat.zero_le _, rfl, ho, HC0.out⟩
  case round =>
    obtain ⟨j, hj, rfl, hoj, κ0, evv0, Y0, h0, hw0⟩ := hrel
    by_cases hlt : j < n
    · obtain ⟨v, hv⟩ := HST.out j hlt hoj
      have H1 := Lib.hid hv
      have HM := Lib.hid h0
      have HW := Lib.hid hw0
      have j1 : (j : Int) < (n : Int) := by omega
      have v2 : IntKind.i64.wrap ((j : Int) + 1) = (j : Int) + 1 := IntWalk.i64_in _ (by omega)
      clear hv h0 hw0
      by_cases ho1 : (R (j + 1)).over = true
      · have HE := Lib.hid (HOV.out (j + 1) hlt ho1)
        go_wp2_with (first
          | (go_at_call 33; (with_reducible refine (H1.out _ _ _ _ HM.out).mono ?_); rintro e w1 hE; obtain ⟨rfl, κ1, evv1, Y1, pos1, h1, hw1⟩ := hE.to_over ho1)
          | fail)
        exact ⟨rfl, by rw [HE.out]; exact DEnds.over h1 (HW.out.trans hw1) ho1⟩
      have ho1 : (R (j + 1)).over = false := by simpa using ho1
      go_wp2_with (first
        | (go_at_call 33; (with_reducible refine (H1.out _ _ _ _ HM.out).mono ?_); rintro e w1 hE; obtain ⟨rfl, κ1, evv1, Y1, h1, hw1⟩ := hE.to_on ho1)
        | fail)
      go_roundw
      case rel => exact ⟨j + 1, hlt, by go_num, ho1, κ1, evv1, Y1, h1, HW.out.trans hw1⟩
      case measure => simp [intOf]; omega
    · obtain rfl : j = n := by omega
      have j1 : ¬ (j : Int) < (j : Int) := by omega
      have HM := Lib.hid h0
      have HW := Lib.hid hw0
      clear h0 hw0
      go_wp2_with fail
      go_ret
      exact DEnds.on HM.out HW.out hoj
/-- What a While does that was entered. -/
def againM (mc mb : Mach.Sem) : Mach.Sem := bindM mc fun a => if a = 1 then bindM mb fun _ => whileM mc mb else pureM 0
/-- The states in which a While's condition may be entered, and what its kids come to. -/
structure LoopOk (K : DK) (mc mb : Mach.Sem) (c q2 : Int) (q3 : Nat) (G : St → Prop) : Prop where
  nc : Nice mc
  nb : Nice mb
  on : ∀ s, G s → s.over = false ∧ s.steps + s.fuel = K.F
  top : K.F ≤ 10000
  tick : ∀ s, G s → s.fuel ≠ 0 → G s.tick
  cond : ∀ s, G s → NodeOk K c s (mc s) q2 ∧ ((mc s).1.over = false → G (mc s).1 ∧ ((mc s).2 = 0 ∨ (mc s).2 = 1) ∧ s.steps ≤ (mc s).1.steps)
  body : ∀ s, G s → NodeOk K q2 s (mb s) q3 ∧ ((mb s).1.over = false → G (mb s).1 ∧ s.steps ≤ (mb s).1.steps)
/-- How many units of fuel are left. -/
def leftD (K : DK) (w : World) : Nat := K.F - (match w.cell? ⟨K.g, 2, none⟩ with | some v => (intOf v).toNat | none => 0)
theorem DM.left (h : DM K κ evv Y s pos W) : leftD K W = K.F - s.steps := by
  have c2 : W.cell? ⟨K.g, 2, none⟩ = some (.int .i64 s.steps) := h.cell 2
  unfold leftD
  rw [c2]
  simp [intOf]
/-- A run at a While's condition. -/
def AtCond (K : DK) (κ : Nat → Nat) (c : Int) (G : St → Prop) (mc mb : Mach.Sem) (r : St × Int) (W wr : World) : Prop := ∃ s, G s ∧ againM mc mb s = r ∧ Came K κ s c W wr
set_option maxRecDepth 100000 in
set_option maxHeartbeats 2000000 in
theorem do_loop {c : Int} {q2 n : Nat} (N : Int) (h : DM K κ evv Y s c W) (hn : scan 1 (K.p.xs.drop q2) = some n) {G : St → Prop} {mc mb : Mach.Sem} (hL : LoopOk K mc mb c q2 (q2 + n) G) (hG : G s) :
    Calls Try.prog 113 #[.agg #[], .pointer (some ⟨K.g, 0, none⟩), .int .i64 N] W (DEnds K κ (againM mc mb s) ((q2 + n : Nat) : Int) W) := by
  have hb0 := (Below.refl W.heap.size W).alloc (Nat.le_refl _) (.cells #[] 103)
  have H0 := Lib.hid (h.below hb0)
  have HW0 := Lib.hid ((Went.refl κ W).below hb0)
  clear h hb0
  generalize hr : againM mc mb s = r
  have HC0 := Lib.hid (show AtCond K κ c G mc mb r W _ from ⟨s, hG, hr, _, _, _, H0.out, HW0.out⟩)
  have c5 : (W.alloc (.cells #[] 103)).cell? ⟨K.g, 5, none⟩ = some (.int .i64 c) := H0.out.cell 5
  have HN := Lib.hid hn
  have HL := Lib.hid hL
  clear H0 HW0 hn hL hG hr
  go_enter Try.func113, Try.ntmps113
  go_wp2_with fail
  go_loopw [] (fun wr => AtCond K κ c G mc mb r W wr) (fun wr => leftD K wr)
  case atStart => exact HC0.out
  case round =>
    clear c5 HC0
    obtain ⟨s0, hG, hr, κ0, evv0, Y0, h0, hw0⟩ := hrel
    have hmu := h0.left
    obtain ⟨hc, hc2⟩ := HL.out.cond s0 hG
    obtain ⟨s1, a, hr1⟩ : ∃ s1 a, mc s0 = (s1, a) := ⟨_, _, rfl⟩
    rw [hr1] at hc hc2
    simp only at hc2
    have HM := Lib.hid h0
    have HW := Lib.hid hw0
    have H1 := Lib.hid hc
    have HMU := Lib.hid hmu
    have ho0 := (HL.out.on s0 hG).1
    clear hc h0 hw0 hmu
    by_cases ho1 : s1.over = true
    · have HR := Lib.hid (show r = (s1, 0) by rw [← hr]; unfold againM; rw [bind_over (by rw [hr1]; exact ho1), hr1])
      clear hr hr1 hc2 hG
      go_wp2_with (first
        | (go_at_call 33; (with_reducible refine (H1.out _ _ _ _ HM.out).mono ?_); rintro e w1 hE; obtain ⟨rfl, κ1, evv1, Y1, pos1, h1, hw1⟩ := hE.to_over ho1)
        | fail)
      exact ⟨rfl, by rw [HR.out]; exact DEnds.over h1 (HW.out.trans hw1) ho1⟩
    have ho1 : s1.over = false := by simpa using ho1
    obtain ⟨hG1, ha, hst1⟩ := hc2 ho1
    rcases ha with rfl | rfl
    · have HR := Lib.hid (show r = (s1, 0) by rw [← hr]; unfold againM; rw [bind_on (by rw [hr1]; exact ho1), hr1]; rfl)
      clear hr hr1 hc2 hG hG1
      go_wp2_with (first
        | (go_at_call 33; (with_reducible refine (H1.out _ _ _ _ HM.out).mono ?_); rintro e w1 hE; obtain ⟨rfl, κ1, evv1, Y1, h1, hw1⟩ := hE.to_on ho1)
        | (go_at_call 86; (with_reducible refine (pass_any h1 HN.out).mono ?_); rintro e w4 ⟨rfl, h4, hw4⟩)
        | fail)
      go_ret
      rw [HR.out]
      exact DEnds.on h4 ((HW.out.trans hw1).trans hw4) ho1
    obtain ⟨hb, hb2⟩ := HL.out.body s1 hG1
    obtain ⟨s2, b, hr2⟩ : ∃ s2 b, mb s1 = (s2, b) := ⟨_, _, rfl⟩
    rw [hr2] at hb hb2
    simp only at hb2
    have H2 := Lib.hid hb
    clear hb
    have hr' : r = bindM mb (fun _ => whileM mc mb) s1 := by rw [← hr]; unfold againM; rw [bind_on (by rw [hr1]; exact ho1), hr1]; rfl
    clear hr hr1 hc2 hG
    by_cases ho2 : s2.over = true
    · have HR := Lib.hid (show r = (s2, 0) by rw [hr', bind_over (by rw [hr2]; exact ho2), hr2])
      clear hr' hr2 hb2 hG1
      go_wp2_with (first
        | (go_at_call 33; (with_reducible refine (H1.out _ _ _ _ HM.out).mono ?_); rintro e w1 hE; obtain ⟨rfl, κ1, evv1, Y1, h1, hw1⟩ := hE.to_on ho1)
        | (go_at_call 33; (with_reducible refine (H2.out _ _ _ _ h1).mono ?_); rintro e w2 hE; obtain ⟨rfl, κ2, evv2, Y2, pos2, h2, hw2⟩ := hE.to_over ho2)
        | fail)
      exact ⟨rfl, by rw [HR.out]; exact DEnds.over h2 ((HW.out.trans hw1).trans hw2) ho2⟩
    have ho2 : s2.over = false := by simpa using ho2
    obtain ⟨hG2, hst2⟩ := hb2 ho2
    have hr3 : r = enterM (againM mc mb) s2 := by rw [hr', bind_on (by rw [hr2]; exact ho2), hr2]; exact while_is HL.out.nc HL.out.nb s2
    obtain ⟨-, hsum⟩ := HL.out.on s2 hG2
    have htop := HL.out.top
    clear hr' hr2 hb2 hG1
    by_cases hf : s2.fuel = 0
    · have HR := Lib.hid (show r = (s2.stop 4 0, 0) by rw [hr3]; unfold enterM; rw [if_neg (by rw [ho2]; decide), if_pos hf])
      have HF := Lib.hid (show s2.steps = K.F by omega)
      clear hr3 hsum hG2
      go_wp2_with (first
        | (go_at_call 33; (with_reducible refine (H1.out _ _ _ _ HM.out).mono ?_); rintro e w1 hE; obtain ⟨rfl, κ1, evv1, Y1, h1, hw1⟩ := hE.to_on ho1)
        | (go_at_call 33; (with_reducible refine (H2.out _ _ _ _ h1).mono ?_); rintro e w2 hE; obtain ⟨rfl, κ2, evv2, Y2, h2, hw2⟩ := hE.to_on ho2)
        | (go_at_call 45; (with_reducible refine (take_out h2 HF.out).mono ?_); rintro e w3 ⟨rfl, h3, hw3⟩)
        | fail)
      exact ⟨rfl, by rw [HR.out]; exact DEnds.stopped h3 (((HW.out.trans hw1).trans hw2).trans hw3) ho2 4 0⟩
    have HR := Lib.hid (show againM mc mb s2.tick = r by rw [hr3, Mach.enter_on ho2 hf])
    have HF := Lib.hid (show s2.steps ≠ K.F by omega)
    have HLE := Lib.hid (show s2.steps ≤ 10000 by omega)
    have HGT := Lib.hid (HL.out.tick s2 hG2 hf)
    have HST := Lib.hid (show s0.steps < s2.tick.steps ∧ s2.tick.steps ≤ K.F by show s0.steps < s2.steps + 1 ∧ s2.steps + 1 ≤ K.F; omega)
    clear hr3 hsum hG2 hf htop hst1 hst2
    generalize hq3 : ((q2 + n : Nat) : Int) = q3 at *
    go_wp2_with (first
      | (go_at_call 33; (with_reducible refine (H1.out _ _ _ _ HM.out).mono ?_); rintro e w1 hE; obtain ⟨rfl, κ1, evv1, Y1, h1, hw1⟩ := hE.to_on ho1)
      | (go_at_call 33; (with_reducible refine (H2.out _ _ _ _ h1).mono ?_); rintro e w2 hE; obtain ⟨rfl, κ2, evv2, Y2, h2, hw2⟩ := hE.to_on ho2)
      | (go_at_call 45; (with_reducible refine (take_on h2 HF.out HLE.out).mono ?_); rintro e w3 ⟨rfl, h3, hw3⟩; have c5 : w3.cell? ⟨K.g, 5, none⟩ = some (.int .i64 q3) := h3.cell 5; have f5 := h3.blk.frozen 5)
      | fail)
    have h5 := h3.goto c
    have hw5 := hw3.setCell (a := ⟨K.g, 5, none⟩) (.inl (by rw [h2.lab.g]; decide)) (.int .i64 c)
    go_roundw
    case rel => exact ⟨s2.tick, HGT.out, HR.out, κ2, evv2, Y2, h5, ((HW.out.trans hw1).trans hw2).trans hw5⟩
    case measure =>
      rw [HMU.out, h5.left]
      have := HST.out
      omega
end
end Go.Proofs.Ytodejloonfkkmaa.Dir
