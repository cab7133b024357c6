/-
  The statement ShaBytes, walked: unlike states have unlike bytes.
-/
import Derived.Test.YtidkakjghimimaaDoorShaStepsL
import Derived.Test.YtidkakjghimimaaDoorShaArgs
import Derived.Deep.RegionHeld3
import Derived.Deep.DeepCutAuto
import Derived.Deep.CutRange
import Derived.Deep.DrawnRows
namespace Go.Proofs.YtidkakjghimimaaDoor.Sha
open Go.RowKit

theorem wpStill_loadRow {P : Program} {ops : Array Oper} {rest : List Oper} {op : Oper} {a : Act} {w : World} {Q : Act → Prop} (hgd : op.guard = none) (ty : TypeId) (x : Operand) (ho : op.op = .load ty x)
    (g : Nat) (hx : a.eval x = .pointer (some ⟨g, 0, none⟩)) {t : TypeId} {cs : Array Value} (hr : Row w g t cs) {d : TypeDesc}
    (hu : P.underlying ty = some d) (hd : d.isRow = true) (hi : (P.info? ty).map (·.size) = some cs.size)
    (h : wpStill P ops w Q rest (a.put op.dst (.agg cs))) : wpStill P ops w Q (op :: rest) a := by
  refine wpStill_step fun K hK => ?_
  rw [if_pos (by simp [Region.wanted, hgd])]
  unfold Oper.still execOp
  simp only [ho, hx, Sem.run_bind, hr.load d hu hd hi, Result.andThen_ok, Sem.run_pure]
  exact ⟨rfl, hK _ h⟩

theorem eight {α : Type} {l : List α} (h : l.length = 8) : ∃ a b c d e f g i, l = [a, b, c, d, e, f, g, i] := by
  match l, h with
  | [a, b, c, d, e, f, g, i], _ => exact ⟨a, b, c, d, e, f, g, i, rfl⟩
theorem u32s_eight (a b c d e f g i : Nat) : u32s [a, b, c, d, e, f, g, i] = #[.int .u32 a, .int .u32 b, .int .u32 c, .int .u32 d, .int .u32 e, .int .u32 f, .int .u32 g, .int .u32 i] := rfl
/-- The cells of a row of eight words. -/
theorem Row.cells8 {w : World} {n : Nat} {t : TypeId} {a b c d e f g i : Nat} (h : Row w n t (u32s [a, b, c, d, e, f, g, i])) :
    w.cell? ⟨n, 0, none⟩ = some (.int .u32 a) ∧ w.cell? ⟨n, 1, none⟩ = some (.int .u32 b) ∧ w.cell? ⟨n, 2, none⟩ = some (.int .u32 c) ∧ w.cell? ⟨n, 3, none⟩ = some (.int .u32 d) ∧
    w.cell? ⟨n, 4, none⟩ = some (.int .u32 e) ∧ w.cell? ⟨n, 5, none⟩ = some (.int .u32 f) ∧ w.cell? ⟨n, 6, none⟩ = some (.int .u32 g) ∧ w.cell? ⟨n, 7, none⟩ = some (.int .u32 i) := by
  refine ⟨h.cell 0, h.cell 1, h.cell 2, h.cell 3, h.cell 4, h.cell 5, h.cell 6, h.cell 7⟩

theorem all_range_same : ∀ (xs ys : List Nat), xs.length = ys.length → ((List.range xs.length).all fun i => xs.getD i 0 == ys.getD i 0) = (xs == ys) := by
  intro xs
  induction xs with
  | nil => intro ys h; cases ys with
    | nil => rfl
    | cons y ys => simp at h
  | cons x xs ih => intro ys h; cases ys with
    | nil => simp at h
    | cons y ys =>
      have := ih ys (by simpa using h)
      rw [List.length_cons, List.range_succ_eq_map, List.all_cons, List.all_map]
      simp only [List.getD_cons_zero, Function.comp_def, List.getD_cons_succ, this]
      simp [List.cons_beq_cons]

/-- Two arrays of words, compared. -/
theorem equalIn_words {P : Program} (w : World) (d : Nat) (t e : TypeId) (n : Nat) (ht : P.underlying t = some (.array n e)) (he : P.underlying e = some (.int .u32)) (hsz : ∀ w, (sizeOf e).run P w = .ok 1 w)
    (xs ys : List Nat) (hx : xs.length = n) (hy : ys.length = n) :
    (Op.equalIn (d + 2) t (.agg (u32s xs)) (.agg (u32s ys))).run P w = .ok (xs == ys) w := by
  rw [← all_range_same xs ys (hx.trans hy.symm), hx, List.range_eq_range', Op.equalIn]
  simp only [Sem.run_bind, run_underlying ht, Result.andThen_ok, hsz, Std.Legacy.Range.forIn_eq_forIn_range', Std.Legacy.Range.size, Nat.sub_zero, Nat.add_sub_cancel, Nat.div_one]
  have hl : ∀ i ∈ List.range' 0 n 1, i < n := fun i hi => by simpa using (List.mem_range'_1.1 hi).2
  generalize List.range' 0 n 1 = l at hl ⊢
  induction l with
  | nil => simp
  | cons i l ih =>
    have hi : i < n := hl i (by simp)
    have at8 : ∀ zs : List Nat, zs.length = n → (Go.part e (u32s zs) (i * 1)).run P w = .ok (.int .u32 ((zs.getD i 0 : Nat) : Int)) w := fun zs hz => by
      have := u32s_at zs i (by omega)
      simp [Go.part, isAgg, run_underlying he, this]
    have pe : (Op.equalIn (d + 1) e (.int .u32 ((xs.getD i 0 : Nat) : Int)) (.int .u32 ((ys.getD i 0 : Nat) : Int))).run P w = .ok (xs.getD i 0 == ys.getD i 0) w := by
      rw [run_equalIn_int w d e .u32 .u32 _ _ he]
      congr 1
      rw [Bool.eq_iff_iff]
      simp
      omega
    simp only [List.forIn_cons, Sem.run_bind, at8 xs hx, at8 ys hy, pe, Result.andThen_ok, List.all_cons]
    cases hb : (xs.getD i 0 == ys.getD i 0)
    · simp
    · simp only [Bool.not_true, Bool.false_eq_true, if_false, Sem.run_pure, Result.andThen_ok, Bool.true_and]
      exact ih fun j hj => hl j (by simp [hj])

/-- The four rows that the law's end reads. -/
def Four (w : World) (n0 g6 g7 : Nat) (x y : Array Value) : Prop := Row w n0 26 x ∧ Row w (n0 + 1) 26 y ∧ Row w g6 29 x ∧ Row w g7 29 y
theorem Four.below {w w' : World} {n0 g6 g7 : Nat} {x y : Array Value} (hb : Below w.heap.size w w') (h : Four w n0 g6 g7 x y) : Four w' n0 g6 g7 x y :=
  ⟨h.1.below hb h.1.lt, h.2.1.below hb h.2.1.lt, h.2.2.1.below hb h.2.2.1.lt, h.2.2.2.below hb h.2.2.2.lt⟩

attribute [local go_sem ↓] Go.wp_at_zero Go.wp_at_succ

set_option maxRecDepth 100000 in
set_option maxHeartbeats 2000000 in
theorem shaBytes_walk (h : List Nat) (hh : h.length = 8) (hw : Words h) (k : List Nat) (hk : k.length = 8) (kw : Words k) (w : World) (hG : Cubes w) :
    Calls Tryd.prog 8 #[.agg (u32s h), .agg (u32s k)] w fun e w' => e = .returned (.bool true) ∧ Below w.heap.size w w' := by
  have hz : ∀ W : World, (zeroValue 29).run Tryd.prog W = .ok (.agg #[.int .u32 0, .int .u32 0, .int .u32 0, .int .u32 0, .int .u32 0, .int .u32 0, .int .u32 0, .int .u32 0]) W := fun W => zero29 W
  obtain ⟨a0, a1, a2, a3, a4, a5, a6, a7, hA⟩ := eight hh
  obtain ⟨b0, b1, b2, b3, b4, b5, b6, b7, hB⟩ := eight hk
  have HA := Lib.hid hA
  have HB := Lib.hid hB
  have HH := Lib.hid hh
  have HK := Lib.hid hk
  have HW := Lib.hid hw
  have KW := Lib.hid kw
  clear hA hB hh hk hw kw
  go_enter Tryd.func8, Tryd.ntmps8
  have hG0 : Cubes ((w.alloc (.cells (u32s h) 26)).alloc (.cells (u32s k) 26)) := (hG.alloc _).alloc _
  have hR0 : Row ((w.alloc (.cells (u32s h) 26)).alloc (.cells (u32s k) 26)) w.heap.size 26 (u32s h) := (Row.new _ _ _).alloc _
  have hS0 : Row ((w.alloc (.cells (u32s h) 26)).alloc (.cells (u32s k) 26)) (w.heap.size + 1) 26 (u32s k) := by have := Row.new (w.alloc (.cells (u32s h) 26)) 26 (u32s k); simpa using this
  have hb0 : Below w.heap.size w ((w.alloc (.cells (u32s h) 26)).alloc (.cells (u32s k) 26)) := ((Below.refl _ w).alloc (Nat.le_refl _) _).alloc (by simp) _
  go_upto_region 4 with (go_at_call 9; refine (works_any _ hG0).mono ?_; rintro e w1 ⟨rfl, hb1⟩)
  have hR1 := hR0.below hb1 (by simp; omega)
  have hS1 := hS0.below hb1 (by simp)
  have hB1 := below2 hb0 hb1
  have hG1 := hG0.below hb1
  have hsz : w.heap.size + 2 ≤ w1.heap.size := by have := hb1.size; simpa using this
  clear hb1 hG0 hR0 hS0 hb0
  generalize hn0 : w.heap.size = n0 at *
  rw [HA.out] at hR1
  rw [HB.out] at hS1
  obtain ⟨r0, r1, r2, r3, r4, r5, r6, r7⟩ := hR1.cells8
  obtain ⟨s0, s1, s2, s3, s4, s5, s6, s7⟩ := hS1.cells8
  have m0 : w1.heap.size ≠ n0 := by omega
  have m1 : w1.heap.size ≠ n0 + 1 := by omega
  have m2 : w1.heap.size + 1 ≠ n0 := by omega
  have m3 : w1.heap.size + 1 ≠ n0 + 1 := by omega
  go_cut [6, 7] from 11 to 14 (fun s6 s7 wx => ∃ g6 g7 : Nat, s6 = .pointer (some ⟨g6, 0, none⟩) ∧ s7 = .pointer (some ⟨g7, 0, none⟩) ∧ Below n0 w wx ∧ Cubes wx ∧ Row wx n0 26 (u32s h) ∧ Row wx (n0 + 1) 26 (u32s k) ∧ Row wx g6 29 (u32s h) ∧ Row wx g7 29 (u32s k) ∧ n0 + 2 ≤ wx.heap.size)
  case first =>
   go_region_held3 (fun w' => w'.cell? ⟨n0, 0, none⟩ = some (.int .u32 a0) ∧ w'.cell? ⟨n0, 1, none⟩ = some (.int .u32 a1) ∧ w'.cell? ⟨n0, 2, none⟩ = some (.int .u32 a2) ∧ w'.cell? ⟨n0, 3, none⟩ = some (.int .u32 a3) ∧ w'.cell? ⟨n0, 4, none⟩ = some (.int .u32 a4) ∧ w'.cell? ⟨n0, 5, none⟩ = some (.int .u32 a5) ∧ w'.cell? ⟨n0, 6, none⟩ = some (.int .u32 a6) ∧ w'.cell? ⟨n0, 7, none⟩ = some (.int .u32 a7)
    ∧ w'.cell? ⟨n0 + 1, 0, none⟩ = some (.int .u32 b0) ∧ w'.cell? ⟨n0 + 1, 1, none⟩ = some (.int .u32 b1) ∧ w'.cell? ⟨n0 + 1, 2, none⟩ = some (.int .u32 b2) ∧ w'.cell? ⟨n0 + 1, 3, none⟩ = some (.int .u32 b3) ∧ w'.cell? ⟨n0 + 1, 4, none⟩ = some (.int .u32 b4) ∧ w'.cell? ⟨n0 + 1, 5, none⟩ = some (.int .u32 b5) ∧ w'.cell? ⟨n0 + 1, 6, none⟩ = some (.int .u32 b6) ∧ w'.cell? ⟨n0 + 1, 7, none⟩ = some (.int .u32 b7)) (go_keep) (fail)
   all_goals (go_wp2_with fail; go_meet; rw [HA.out, HB.out]; have hn : n0 ≤ w1.heap.size := by omega)
   · exact ⟨_, _, rfl, rfl, ((hB1.alloc hn _).alloc (by simp; omega) _).drew, ((hG1.alloc _).alloc _).drew, ((hR1.alloc _).alloc _).drew, ((hS1.alloc _).alloc _).drew, ((Row.new _ _ _).alloc _).drew, (by have := Row.new (w1.alloc (.cells (u32s [a0, a1, a2, a3, a4, a5, a6, a7]) 29)) 29 (u32s [b0, b1, b2, b3, b4, b5, b6, b7]); simpa [u32s_eight] using this.drew), by simp; omega⟩
   · exact ⟨_, _, rfl, rfl, ((hB1.alloc hn _).alloc (by simp; omega) _).drew, ((hG1.alloc _).alloc _).drew, ((hR1.alloc _).alloc _).drew, ((hS1.alloc _).alloc _).drew, (by have := Row.new (w1.alloc (.cells (u32s [b0, b1, b2, b3, b4, b5, b6, b7]) 29)) 29 (u32s [a0, a1, a2, a3, a4, a5, a6, a7]); simpa [u32s_eight] using this.drew), ((Row.new _ _ _).alloc _).drew, by simp; omega⟩
  case rest =>
    clear r0 r1 r2 r3 r4 r5 r6 r7 s0 s1 s2 s3 s4 s5 s6 s7 m0 m1 m2 m3 hR1 hS1 hB1 hG1 hsz hz
    obtain ⟨g6, g7, rfl, rfl, hB2, hG2, hR2, hS2, hR6, hR7, hsz⟩ := hcut
    have hF : Four wc n0 g6 g7 (u32s h) (u32s k) := ⟨hR2, hS2, hR6, hR7⟩
    clear hR2 hS2 hR6 hR7 hG2 hG
    obtain ⟨Sh, hSh⟩ : ∃ A : ByteArray, A = ⟨(bytes h).toArray⟩ := ⟨_, rfl⟩
    obtain ⟨Sk, hSk⟩ : ∃ A : ByteArray, A = ⟨(bytes k).toArray⟩ := ⟨_, rfl⟩
    have hby := fun W => Bytes_any h HH.out HW.out W
    have kby := fun W => Bytes_any k HK.out KW.out W
    have h32 : (Sh.size : Int) = 32 := by rw [hSh]; have := bytes_len h; rw [HH.out] at this; simp [ByteArray.size, this]
    have hee : ∀ W : World, (Op.equalIn 10000 26 (.agg (u32s h)) (.agg (u32s k))).run Tryd.prog W = .ok (h == k) W := fun W => equalIn_words (P := Tryd.prog) W 9998 26 25 8 (by kernel_rfl) (by kernel_rfl) (fun w => by kernel_rfl) h k HH.out HK.out
    have hqq : Tryd.prog.eqGuardType Tryd.prog.depth 26 = false := by kernel_rfl
    have hend : ((Sh.toList == Sk.toList) == (h == k)) = true := by
      rw [hSh, hSk, ByteArray.toList_eq, ByteArray.toList_eq]
      show ((bytes h == bytes k) == (h == k)) = true
      rw [beq_iff_eq, Bool.eq_iff_iff, beq_iff_eq, beq_iff_eq]
      exact ⟨bytes_inj h k HW.out KW.out, fun he => by rw [he]⟩
    rw [← hSh] at hby
    rw [← hSk] at kby
    have hA := HA.out
    have hB := HB.out
    generalize hbb : (h == k) = same at *
    clear hbb hSh hSk
    rw [hA] at hby
    rw [hB] at kby
    rw [hA, hB] at hee
    rw [hA, hB] at hF
    rw [hA, hB]
    simp only [u32s_eight] at hby kby hee
    have HBY := Lib.hid hby
    have KBY := Lib.hid kby
    clear hA hB hby kby
    have hk0 := hF.1.cells8
    have hk1 := hF.2.1.cells8
    have hk2 := hF.2.2.1.cells8
    have hk3 := hF.2.2.2.cells8
    go_upto_region 5 with (fail)
    have hB2 := hB2.drew
    have hsz : n0 ≤ wc.drew.heap.size := Nat.le_trans (Nat.le_add_right n0 2) hsz
    have hF : Four wc.drew n0 g6 g7 _ _ := hF
    go_region_held3 (fun w' => (w'.cell? ⟨n0, 0, none⟩ = some (.int .u32 a0) ∧ w'.cell? ⟨n0, 1, none⟩ = some (.int .u32 a1) ∧ w'.cell? ⟨n0, 2, none⟩ = some (.int .u32 a2) ∧ w'.cell? ⟨n0, 3, none⟩ = some (.int .u32 a3) ∧ w'.cell? ⟨n0, 4, none⟩ = some (.int .u32 a4) ∧ w'.cell? ⟨n0, 5, none⟩ = some (.int .u32 a5) ∧ w'.cell? ⟨n0, 6, none⟩ = some (.int .u32 a6) ∧ w'.cell? ⟨n0, 7, none⟩ = some (.int .u32 a7))∧(w'.cell? ⟨n0 + 1, 0, none⟩ = some (.int .u32 b0) ∧ w'.cell? ⟨n0 + 1, 1, none⟩ = some (.int .u32 b1) ∧ w'.cell? ⟨n0 + 1, 2, none⟩ = some (.int .u32 b2) ∧ w'.cell? ⟨n0 + 1, 3, none⟩ = some (.int .u32 b3) ∧ w'.cell? ⟨n0 + 1, 4, none⟩ = some (.int .u32 b4) ∧ w'.cell? ⟨n0 + 1, 5, none⟩ = some (.int .u32 b5) ∧ w'.cell? ⟨n0 + 1, 6, none⟩ = some (.int .u32 b6) ∧ w'.cell? ⟨n0 + 1, 7, none⟩ = some (.int .u32 b7))∧(w'.cell? ⟨g6, 0, none⟩ = some (.int .u32 a0) ∧ w'.cell? ⟨g6, 1, none⟩ = some (.int .u32 a1) ∧ w'.cell? ⟨g6, 2, none⟩ = some (.int .u32 a2) ∧ w'.cell? ⟨g6, 3, none⟩ = some (.int .u32 a3) ∧ w'.cell? ⟨g6, 4, none⟩ = some (.int .u32 a4) ∧ w'.cell? ⟨g6, 5, none⟩ = some (.int .u32 a5) ∧ w'.cell? ⟨g6, 6, none⟩ = some (.int .u32 a6) ∧ w'.cell? ⟨g6, 7, none⟩ = some (.int .u32 a7))∧(w'.cell? ⟨g7, 0, none⟩ = some (.int .u32 b0) ∧ w'.cell? ⟨g7, 1, none⟩ = some (.int .u32 b1) ∧ w'.cell? ⟨g7, 2, none⟩ = some (.int .u32 b2) ∧ w'.cell? ⟨g7, 3, none⟩ = some (.int .u32 b3) ∧ w'.cell? ⟨g7, 4, none⟩ = some (.int .u32 b4) ∧ w'.cell? ⟨g7, 5, none⟩ = some (.int .u32 b5) ∧ w'.cell? ⟨g7, 6, none⟩ = some (.int .u32 b6) ∧ w'.cell? ⟨g7, 7, none⟩ = some (.int .u32 b7))) (first | exact ⟨hk0, hk1, hk2, hk3⟩ | go_keep)
      (first | (go_at_call 16; (first | (with_reducible refine (HBY.out _).mono ?_) | (with_reducible refine (KBY.out _).mono ?_)); rintro e w4 ⟨rfl, hb4⟩; have hF : Four w4 n0 g6 g7 _ _ := Four.below hb4 hF; have hB2 := hB2.trans (hb4.mono hsz); have hsz := Nat.le_trans hsz hb4.size; have hk0 := hF.1.cells8; have hk1 := hF.2.1.cells8; have hk2 := hF.2.2.1.cells8; have hk3 := hF.2.2.2.cells8))
    go_wp2_with fail
    go_ret
    refine ⟨?_, by rw [hn0]; exact hB2⟩
    dsimp only
    simp

end Go.Proofs.YtidkakjghimimaaDoor.Sha
