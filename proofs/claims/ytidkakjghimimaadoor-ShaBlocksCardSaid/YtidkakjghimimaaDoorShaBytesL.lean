/-
  The statement ShaBytes, walked: unlike states have unlike bytes.
-/
import Derived.Test.YtidkakjghimimaaDoorShaStepsL
import Derived.Test.YtidkakjghimimaaDoorShaArgs
import Derived.Deep.RegionHeld3
import Derived.Deep.DeepCutAuto
import Derived.Deep.CutRange
import Derived.Deep.DrawnRows
namespace Go.Proofs.YtidkakjghimimaaDoor.Sha
open Go.RowKit

theorem wpStill_loadRow {P : Program} {ops : Array Oper} {rest : List Oper} {op : Oper} {a : Act} {w : World} {Q : Act → Prop} (hgd : op.guard = none) (ty : TypeId) (x : Operand) (ho : op.op = .load ty x)
    (g : Nat) (hx : a.eval x = .pointer (some ⟨g, 0, none⟩)) {t : TypeId} {cs : Array Value} (hr : Row w g t cs) {d : TypeDesc}
    (hu : P.underlying ty = some d) (hd : d.isRow = true) (hi : (P.info? ty).map (·.size) = some cs.size)
    (h : wpStill P ops w Q rest (a.put op.dst (.agg cs))) : wpStill P ops w Q (op :: rest) a := by
  refine wpStill_step fun K hK => ?_
  rw [if_pos (by simp [Region.wanted, hgd])]
  unfold Oper.still execOp
  simp only [ho, hx, Sem.run_bind, hr.load d hu hd hi, Result.andThen_ok, Sem.run_pure]
  exact ⟨rfl, hK _ h⟩

theorem eight {α : Type} {l : List α} (h : l.length = 8) : ∃ a b c d e f g i, l = [a, b, c, d, e, f, g, i] := by
  match l, h with
  | [a, b, c, d, e, f, g, i], _ => exact ⟨a, b, c, d, e, f, g, i, rfl⟩
theorem u32s_eight (a b c d e f g i : Nat) : u32s [a, b, c, d, e, f, g, i] = #[.int .u32 a, .int .u32 b, .int .u32 c, .int .u32 d, .int .u32 e, .int .u32 f, .int .u32 g, .int .u32 i] := rfl
/-- The cells of a row of eight words. -/
theorem Row.cells8 {w : World} {n : Nat} {t : TypeId} {a b c d e f g i : Nat} (h : Row w n t (u32s [a, b, c, d, e, f, g, i])) :
    w.cell? ⟨n, 0, none⟩ = some (.int .u32 a) ∧ w.cell? ⟨n, 1, none⟩ = some (.int .u32 b) ∧ w.cell? ⟨n, 2, none⟩ = some (.int .u32 c) ∧ w.cell? ⟨n, 3, none⟩ = some (.int .u32 d) ∧
    w.cell? ⟨n, 4, none⟩ = some (.int .u32 e) ∧ w.cell? ⟨n, 5, none⟩ = some (.int .u32 f) ∧ w.cell? ⟨n, 6, none⟩ = some (.int .u32 g) ∧ w.cell? ⟨n, 7, none⟩ = some (.int .u32 i) := by
  refine ⟨h.cell 0, h.cell 1, h.cell 2, h.cell 3, h.cell 4, h.cell 5, h.cell 6, h.cell 7⟩

set_option maxHeartbeats 1000000 in
/-- Two arrays of eight words, compared. -/
theorem eql8 {P : Program} (W : World) (t e : TypeId) (ht : P.underlying t = some (.array 8 e)) (he : P.underlying e = some (.int .u32)) (hsz : ∀ w, (sizeOf e).run P w = .ok 1 w)
    (xs ys : List Nat) (hx : xs.length = 8) (hy : ys.length = 8) :
    (Op.equalIn 10000 t (.agg (u32s xs)) (.agg (u32s ys))).run P W = .ok (xs == ys) W := by
  obtain ⟨a0, a1, a2, a3, a4, a5, a6, a7, rfl⟩ := eight hx
  obtain ⟨b0, b1, b2, b3, b4, b5, b6, b7, rfl⟩ := eight hy
  have hp : ∀ l : List Nat, l.length = 8 → ∀ i, i < 8 → (Go.part e (u32s l) i).run P W = .ok (.int .u32 ((l.getD i 0 : Nat) : Int)) W := fun l hl i hi => by
    have h := u32s_at l i (by omega)
    simp [Go.part, isAgg, run_underlying he, h]
  have hc : ∀ x y : Nat, (Op.equalIn 9999 e (.int .u32 (x : Int)) (.int .u32 (y : Int))).run P W = .ok (decide (x = y)) W := fun x y => by
    rw [show (9999 : Nat) = 9998 + 1 from rfl, run_equalIn_int W 9998 e .u32 .u32 _ _ he, Bool.beq_eq_decide_eq]
    simp [Int.ofNat_inj]
  rw [show (10000 : Nat) = 9999 + 1 from rfl, Op.equalIn]
  have hr : (List.range' 0 8 1) = [0, 1, 2, 3, 4, 5, 6, 7] := rfl
  simp only [Sem.run_bind, run_underlying ht, Result.andThen_ok, hsz, Std.Legacy.Range.forIn_eq_forIn_range', Std.Legacy.Range.size, Nat.sub_zero, Nat.add_sub_cancel, Nat.div_one, hr, List.forIn_cons]
  by_cases h0 : a0 = b0
  case neg => simp [hp, hc, h0]
  by_cases h1 : a1 = b1
  case neg => simp [hp, hc, h0, h1]
  by_cases h2 : a2 = b2
  case neg => simp [hp, hc, h0, h1, h2]
  by_cases h3 : a3 = b3
  case neg => simp [hp, hc, h0, h1, h2, h3]
  by_cases h4 : a4 = b4
  case neg => simp [hp, hc, h0, h1, h2, h3, h4]
  by_cases h5 : a5 = b5
  case neg => simp [hp, hc, h0, h1, h2, h3, h4, h5]
  by_cases h6 : a6 = b6
  case neg => simp [hp, hc, h0, h1, h2, h3, h4, h5, h6]
  by_cases h7 : a7 = b7
  case neg => simp [hp, hc, h0, h1, h2, h3, h4, h5, h6, h7]
  simp [hp, hc, h0, h1, h2, h3, h4, h5, h6, h7]

/-- The four rows that the law's end reads. -/
def Four (w : World) (n0 g6 g7 : Nat) (x y : Array Value) : Prop := Row w n0 26 x ∧ Row w (n0 + 1) 26 y ∧ Row w g6 29 x ∧ Row w g7 29 y
theorem Four.below {w w' : World} {n0 g6 g7 : Nat} {x y : Array Value} (hb : Below w.heap.size w w') (h : Four w n0 g6 g7 x y) : Four w' n0 g6 g7 x y :=
  ⟨h.1.below hb h.1.lt, h.2.1.below hb h.2.1.lt, h.2.2.1.below hb h.2.2.1.lt, h.2.2.2.below hb h.2.2.2.lt⟩

attribute [local go_sem ↓] Go.wp_at_zero Go.wp_at_succ

set_option maxRecDepth 100000 in
set_option maxHeartbeats 2000000 in
theorem shaBytes_walk (h : List Nat) (hh : h.length = 8) (hw : Words h) (k : List Nat) (hk : k.length = 8) (kw : Words k) (w : World) (hG : Cubes w) :
    Calls Tryd.prog 8 #[.agg (u32s h), .agg (u32s k)] w fun e w' => e = .returned (.bool true) ∧ Below w.heap.size w w' := by
  have hz : ∀ W : World, (zeroValue 29).run Tryd.prog W = .ok (.agg #[.int .u32 0, .int .u32 0, .int .u32 0, .int .u32 0, .int .u32 0, .int .u32 0, .int .u32 0, .int .u32 0]) W := fun W => zero29 W
  obtain ⟨a0, a1, a2, a3, a4, a5, a6, a7, hA⟩ := eight hh
  obtain ⟨b0, b1, b2, b3, b4, b5, b6, b7, hB⟩ := eight hk
  have HA := Lib.hid hA
  have HB := Lib.hid hB
  have HH := Lib.hid hh
  have HK := Lib.hid hk
  have HW := Lib.hid hw
  have KW := Lib.hid kw
  clear hA hB hh hk hw kw
  go_enter Tryd.func8, Tryd.ntmps8
  have hG0 : Cubes ((w.alloc (.cells (u32s h) 26)).alloc (.cells (u32s k) 26)) := (hG.alloc _).alloc _
  have hR0 : Row ((w.alloc (.cells (u32s h) 26)).alloc (.cells (u32s k) 26)) w.heap.size 26 (u32s h) := (Row.new _ _ _).alloc _
  have hS0 : Row ((w.alloc (.cells (u32s h) 26)).alloc (.cells (u32s k) 26)) (w.heap.size + 1) 26 (u32s k) := by have := Row.new (w.alloc (.cells (u32s h) 26)) 26 (u32s k); simpa using this
  have hb0 : Below w.heap.size w ((w.alloc (.cells (u32s h) 26)).alloc (.cells (u32s k) 26)) := ((Below.refl _ w).alloc (Nat.le_refl _) _).alloc (by simp) _
  go_upto_region 4 with (go_at_call 9; refine (works_any _ hG0).mono ?_; rintro e w1 ⟨rfl, hb1⟩)
  have hR1 := hR0.below hb1 (by simp; omega)
  have hS1 := hS0.below hb1 (by simp)
  have hB1 := below2 hb0 hb1
  have hG1 := hG0.below hb1
  have hsz : w.heap.size + 2 ≤ w1.heap.size := by have := hb1.size; simpa using this
  clear hb1 hG0 hR0 hS0 hb0
  generalize hn0 : w.heap.size = n0 at *
  rw [HA.out] at hR1
  rw [HB.out] at hS1
  obtain ⟨r0, r1, r2, r3, r4, r5, r6, r7⟩ := hR1.cells8
  obtain ⟨s0, s1, s2, s3, s4, s5, s6, s7⟩ := hS1.cells8
  have m0 : w1.heap.size ≠ n0 := by omega
  have m1 : w1.heap.size ≠ n0 + 1 := by omega
  have m2 : w1.heap.size + 1 ≠ n0 := by omega
  have m3 : w1.heap.size + 1 ≠ n0 + 1 := by omega
  go_cut [6, 7] from 11 to 14 (fun s6 s7 wx => ∃ g6 g7 : Nat, s6 = .pointer (some ⟨g6, 0, none⟩) ∧ s7 = .pointer (some ⟨g7, 0, none⟩) ∧ Below n0 w wx ∧ Cubes wx ∧ Row wx n0 26 (u32s h) ∧ Row wx (n0 + 1) 26 (u32s k) ∧ Row wx g6 29 (u32s h) ∧ Row wx g7 29 (u32s k) ∧ n0 + 2 ≤ wx.heap.size)
  case first =>
   go_region_held3 (fun w' => w'.cell? ⟨n0, 0, none⟩ = some (.int .u32 a0) ∧ w'.cell? ⟨n0, 1, none⟩ = some (.int .u32 a1) ∧ w'.cell? ⟨n0, 2, none⟩ = some (.int .u32 a2) ∧ w'.cell? ⟨n0, 3, none⟩ = some (.int .u32 a3) ∧ w'.cell? ⟨n0, 4, none⟩ = some (.int .u32 a4) ∧ w'.cell? ⟨n0, 5, none⟩ = some (.int .u32 a5) ∧ w'.cell? ⟨n0, 6, none⟩ = some (.int .u32 a6) ∧ w'.cell? ⟨n0, 7, none⟩ = some (.int .u32 a7)
    ∧ w'.cell? ⟨n0 + 1, 0, none⟩ = some (.int .u32 b0) ∧ w'.cell? ⟨n0 + 1, 1, none⟩ = some (.int .u32 b1) ∧ w'.cell? ⟨n0 + 1, 2, none⟩ = some (.int .u32 b2) ∧ w'.cell? ⟨n0 + 1, 3, none⟩ = some (.int .u32 b3) ∧ w'.cell? ⟨n0 + 1, 4, none⟩ = some (.int .u32 b4) ∧ w'.cell? ⟨n0 + 1, 5, none⟩ = some (.int .u32 b5) ∧ w'.cell? ⟨n0 + 1, 6, none⟩ = some (.int .u32 b6) ∧ w'.cell? ⟨n0 + 1, 7, none⟩ = some (.int .u32 b7)) (go_keep) (fail)
   all_goals (go_wp2_with fail; go_meet; rw [HA.out, HB.out]; have hn : n0 ≤ w1.heap.size := by omega)
   · exact ⟨_, _, rfl, rfl, ((hB1.alloc hn _).alloc (by simp; omega) _).drew, ((hG1.alloc _).alloc _).drew, ((hR1.alloc _).alloc _).drew, ((hS1.alloc _).alloc _).drew, ((Row.new _ _ _).alloc _).drew, (by have := Row.new (w1.alloc (.cells (u32s [a0, a1, a2, a3, a4, a5, a6, a7]) 29)) 29 (u32s [b0, b1, b2, b3, b4, b5, b6, b7]); simpa [u32s_eight] using this.drew), by simp; omega⟩
   · exact ⟨_, _, rfl, rfl, ((hB1.alloc hn _).alloc (by simp; omega) _).drew, ((hG1.alloc _).alloc _).drew, ((hR1.alloc _).alloc _).drew, ((hS1.alloc _).alloc _).drew, (by have := Row.new (w1.alloc (.cells (u32s [b0, b1, b2, b3, b4, b5, b6, b7]) 29)) 29 (u32s [a0, a1, a2, a3, a4, a5, a6, a7]); simpa [u32s_eight] using this.drew), ((Row.new _ _ _).alloc _).drew, by simp; omega⟩
  case rest =>
    clear r0 r1 r2 r3 r4 r5 r6 r7 s0 s1 s2 s3 s4 s5 s6 s7 m0 m1 m2 m3 hR1 hS1 hB1 hG1 hsz hz
    obtain ⟨g6, g7, rfl, rfl, hB2, hG2, hR2, hS2, hR6, hR7, hsz⟩ := hcut
    have hF : Four wc n0 g6 g7 (u32s h) (u32s k) := ⟨hR2, hS2, hR6, hR7⟩
    clear hR2 hS2 hR6 hR7 hG2 hG
    obtain ⟨Sh, hSh⟩ : ∃ A : ByteArray, A = ⟨(bytes h).toArray⟩ := ⟨_, rfl⟩
    obtain ⟨Sk, hSk⟩ : ∃ A : ByteArray, A = ⟨(bytes k).toArray⟩ := ⟨_, rfl⟩
    have hby := fun W => Bytes_any h HH.out HW.out W
    have kby := fun W => Bytes_any k HK.out KW.out W
    have h32 : (Sh.size : Int) = 32 := by rw [hSh]; have := bytes_len h; rw [HH.out] at this; simp [ByteArray.size, this]
    have hee : ∀ W : World, (Op.equalIn 10000 26 (.agg (u32s h)) (.agg (u32s k))).run Tryd.prog W = .ok (h == k) W := fun W => eql8 (P := Tryd.prog) W 26 25 (by kernel_rfl) (by kernel_rfl) (fun w => by kernel_rfl) h k HH.out HK.out
    have hqq : Tryd.prog.eqGuardType Tryd.prog.depth 26 = false := by kernel_rfl
    have hend : ((Sh.toList == Sk.toList) == (h == k)) = true := by
      rw [hSh, hSk, ByteArray.toList_eq, ByteArray.toList_eq]
      show ((bytes h == bytes k) == (h == k)) = true
      rw [beq_iff_eq, Bool.eq_iff_iff, beq_iff_eq, beq_iff_eq]
      exact ⟨bytes_inj h k HW.out KW.out, fun he => by rw [he]⟩
    rw [← hSh] at hby
    rw [← hSk] at kby
    have hA := HA.out
    have hB := HB.out
    generalize hbb : (h == k) = same at *
    clear hbb hSh hSk
    rw [hA] at hby
    rw [hB] at kby
    rw [hA, hB] at hee
    rw [hA, hB] at hF
    rw [hA, hB]
    simp only [u32s_eight] at hby kby hee
    have HBY := Lib.hid hby
    have KBY := Lib.hid kby
    clear hA hB hby kby
    have hk0 := hF.1.cells8
    have hk1 := hF.2.1.cells8
    have hk2 := hF.2.2.1.cells8
    have hk3 := hF.2.2.2.cells8
    go_upto_region 5 with (fail)
    have hB2 := hB2.drew
    have hsz : n0 ≤ wc.drew.heap.size := Nat.le_trans (Nat.le_add_right n0 2) hsz
    have hF : Four wc.drew n0 g6 g7 _ _ := hF
    go_region_held3 (fun w' => (w'.cell? ⟨n0, 0, none⟩ = some (.int .u32 a0) ∧ w'.cell? ⟨n0, 1, none⟩ = some (.int .u32 a1) ∧ w'.cell? ⟨n0, 2, none⟩ = some (.int .u32 a2) ∧ w'.cell? ⟨n0, 3, none⟩ = some (.int .u32 a3) ∧ w'.cell? ⟨n0, 4, none⟩ = some (.int .u32 a4) ∧ w'.cell? ⟨n0, 5, none⟩ = some (.int .u32 a5) ∧ w'.cell? ⟨n0, 6, none⟩ = some (.int .u32 a6) ∧ w'.cell? ⟨n0, 7, none⟩ = some (.int .u32 a7))∧(w'.cell? ⟨n0 + 1, 0, none⟩ = some (.int .u32 b0) ∧ w'.cell? ⟨n0 + 1, 1, none⟩ = some (.int .u32 b1) ∧ w'.cell? ⟨n0 + 1, 2, none⟩ = some (.int .u32 b2) ∧ w'.cell? ⟨n0 + 1, 3, none⟩ = some (.int .u32 b3) ∧ w'.cell? ⟨n0 + 1, 4, none⟩ = some (.int .u32 b4) ∧ w'.cell? ⟨n0 + 1, 5, none⟩ = some (.int .u32 b5) ∧ w'.cell? ⟨n0 + 1, 6, none⟩ = some (.int .u32 b6) ∧ w'.cell? ⟨n0 + 1, 7, none⟩ = some (.int .u32 b7))∧(w'.cell? ⟨g6, 0, none⟩ = some (.int .u32 a0) ∧ w'.cell? ⟨g6, 1, none⟩ = some (.int .u32 a1) ∧ w'.cell? ⟨g6, 2, none⟩ = some (.int .u32 a2) ∧ w'.cell? ⟨g6, 3, none⟩ = some (.int .u32 a3) ∧ w'.cell? ⟨g6, 4, none⟩ = some (.int .u32 a4) ∧ w'.cell? ⟨g6, 5, none⟩ = some (.int .u32 a5) ∧ w'.cell? ⟨g6, 6, none⟩ = some (.int .u32 a6) ∧ w'.cell? ⟨g6, 7, none⟩ = some (.int .u32 a7))∧(w'.cell? ⟨g7, 0, none⟩ = some (.int .u32 b0) ∧ w'.cell? ⟨g7, 1, none⟩ = some (.int .u32 b1) ∧ w'.cell? ⟨g7, 2, none⟩ = some (.int .u32 b2) ∧ w'.cell? ⟨g7, 3, none⟩ = some (.int .u32 b3) ∧ w'.cell? ⟨g7, 4, none⟩ = some (.int .u32 b4) ∧ w'.cell? ⟨g7, 5, none⟩ = some (.int .u32 b5) ∧ w'.cell? ⟨g7, 6, none⟩ = some (.int .u32 b6) ∧ w'.cell? ⟨g7, 7, none⟩ = some (.int .u32 b7))) (first | exact ⟨hk0, hk1, hk2, hk3⟩ | go_keep)
      (first | (go_at_call 16; (first | (with_reducible refine (HBY.out _).mono ?_) | (with_reducible refine (KBY.out _).mono ?_)); rintro e w4 ⟨rfl, hb4⟩; have hF : Four w4 n0 g6 g7 _ _ := Four.below hb4 hF; have hB2 := hB2.trans (hb4.mono hsz); have hsz := Nat.le_trans hsz hb4.size; have hk0 := hF.1.cells8; have hk1 := hF.2.1.cells8; have hk2 := hF.2.2.1.cells8; have hk3 := hF.2.2.2.cells8))
    go_wp2_with fail
    go_ret
    refine ⟨?_, by rw [hn0]; exact hB2⟩
    dsimp only
    simp

end Go.Proofs.YtidkakjghimimaaDoor.Sha
