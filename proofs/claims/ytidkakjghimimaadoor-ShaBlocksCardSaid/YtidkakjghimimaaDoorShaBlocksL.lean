/-
  The statement ShaBlocks, walked: the state behind a block, and its bytes.
-/
import Derived.Test.YtidkakjghimimaaDoorShaBytesL
import Derived.Deep.MidRow
import Derived.Deep.RegionHeld3
namespace Go.Proofs.YtidkakjghimimaaDoor.Sha
open Go.RowKit

theorem Row.range {w : World} {g : Nat} {t : TypeId} {cs : List Value} (h : Row w g t cs.toArray) : w.rangeAt g 0 cs := fun j v hv => by
  rw [Nat.zero_add, h.cell]; simpa using hv

/-- The three rows that the law's end reads. -/
def Three (w : World) (n0 g : Nat) (x y : Array Value) : Prop := Row w n0 26 x ∧ Row w (n0 + 1) 27 y ∧ Row w g 29 x
theorem Three.below {w w' : World} {n0 g : Nat} {x y : Array Value} (hb : Below w.heap.size w w') (h : Three w n0 g x y) : Three w' n0 g x y :=
  ⟨h.1.below hb h.1.lt, h.2.1.below hb h.2.1.lt, h.2.2.below hb h.2.2.lt⟩
theorem eqSame {P : Program} (t e : TypeId) (ht : P.underlying t = some (.array 8 e)) (he : P.underlying e = some (.int .u32)) (hsz : ∀ w, (sizeOf e).run P w = .ok 1 w) (xs : List Nat) (hx : xs.length = 8) (W : World) :
    (Op.equalIn 10000 t (.agg (u32s xs)) (.agg (u32s xs))).run P W = .ok true W := by
  have h := eql8 (P := P) W t e ht he hsz xs xs hx hx
  rw [beq_self_eq_true] at h
  exact h
theorem field_of (xs : List Nat) (hx : xs.length = 8) (W : World) : (Instr.field 29 (.agg (u32s xs)) 0).run Tryd.prog W = .ok (.agg (u32s xs)) W := by
  obtain ⟨a, b, c, d, e, f, g, i, rfl⟩ := eight hx
  kernel_rfl

attribute [local go_sem ↓] Go.wp_at_zero Go.wp_at_succ

set_option maxRecDepth 100000 in
set_option maxHeartbeats 2000000 in
theorem shaBlocks_walk (h : List Nat) (hh : h.length = 8) (hw : Words h) (b : List UInt8) (hb : b.length = 64) (w : World) (hG : Cubes w) :
    Calls Tryd.prog 4 #[.agg (u32s h), .agg (u8s b)] w fun e w' => e = .returned (.bool true) ∧ Below w.heap.size w w' := by
  have hz : ∀ W : World, (zeroValue 29).run Tryd.prog W = .ok (.agg #[.int .u32 0, .int .u32 0, .int .u32 0, .int .u32 0, .int .u32 0, .int .u32 0, .int .u32 0, .int .u32 0]) W := fun W => zero29 W
  obtain ⟨a0, a1, a2, a3, a4, a5, a6, a7, hA⟩ := eight hh
  have HA := Lib.hid hA
  have HH := Lib.hid hh
  have HB := Lib.hid hb
  have HW := Lib.hid hw
  clear hA hh hb hw
  go_enter Tryd.func4, Tryd.ntmps4
  have hG0 : Cubes ((w.alloc (.cells (u32s h) 26)).alloc (.cells (u8s b) 27)) := (hG.alloc _).alloc _
  have hR0 : Row ((w.alloc (.cells (u32s h) 26)).alloc (.cells (u8s b) 27)) w.heap.size 26 (u32s h) := (Row.new _ _ _).alloc _
  have hS0 : Row ((w.alloc (.cells (u32s h) 26)).alloc (.cells (u8s b) 27)) (w.heap.size + 1) 27 (u8s b) := by have := Row.new (w.alloc (.cells (u32s h) 26)) 27 (u8s b); simpa using this
  have hb0 : Below w.heap.size w ((w.alloc (.cells (u32s h) 26)).alloc (.cells (u8s b) 27)) := ((Below.refl _ w).alloc (Nat.le_refl _) _).alloc (by simp) _
  go_upto_region 4 with (go_at_call 9; refine (works_any _ hG0).mono ?_; rintro e w1 ⟨rfl, hb1⟩)
  have hR1 := hR0.below hb1 (by simp; omega)
  have hS1 := hS0.below hb1 (by simp)
  have hB1 := below2 hb0 hb1
  have hG1 := hG0.below hb1
  have hsz : w.heap.size + 2 ≤ w1.heap.size := by have := hb1.size; simpa using this
  clear hb1 hG0 hR0 hS0 hb0
  generalize hn0 : w.heap.size = n0 at *
  rw [HA.out] at hR1
  obtain ⟨r0, r1, r2, r3, r4, r5, r6, r7⟩ := hR1.cells8
  have m0 : w1.heap.size ≠ n0 := by omega
  go_upto_region 5 with (fail)
  have hF0 : Three (w1.alloc (.cells (u32s [a0, a1, a2, a3, a4, a5, a6, a7]) 29)) n0 w1.heap.size (u32s [a0, a1, a2, a3, a4, a5, a6, a7]) (u8s b) := ⟨hR1.alloc _, hS1.alloc _, Row.new _ _ _⟩
  have hB2 := hB1.alloc (show n0 ≤ w1.heap.size by omega) (.cells (u32s [a0, a1, a2, a3, a4, a5, a6, a7]) 29)
  have hG2 := hG1.alloc (.cells (u32s [a0, a1, a2, a3, a4, a5, a6, a7]) 29)
  have hsz2 : n0 ≤ (w1.alloc (.cells (u32s [a0, a1, a2, a3, a4, a5, a6, a7]) 29)).heap.size := by simp; omega
  simp only [u32s_eight] at hF0 hB2 hG2 hsz2
  clear r0 r1 r2 r3 r4 r5 r6 r7 m0 hR1 hS1 hB1 hG1 hsz hz hG
  generalize w1.alloc (.cells #[.int .u32 a0, .int .u32 a1, .int .u32 a2, .int .u32 a3, .int .u32 a4, .int .u32 a5, .int .u32 a6, .int .u32 a7] 29) = wc at *
  generalize w1.heap.size = g6 at *
  obtain ⟨cs, hcs⟩ : ∃ cs : List Value, u8s b = cs.toArray := ⟨_, rfl⟩
  have hcl : cs.length = 64 := by have := congrArg Array.size hcs; rw [u8s_size, HB.out] at this; simpa using this.symm
  have hi27 : (Tryd.prog.info? 27).map (·.size) = some cs.length := by rw [hcl, size27]
  have hu27 := Tryd.underlying27
  obtain ⟨X, hX⟩ : ∃ X, X = u32s (block h b) := ⟨_, rfl⟩
  obtain ⟨Y, hY⟩ : ∃ Y, Y = u32s start := ⟨_, rfl⟩
  obtain ⟨Sh, hSh⟩ : ∃ A : ByteArray, A = ⟨(bytes h).toArray⟩ := ⟨_, rfl⟩
  have hbl := fun W hW => Block_any h b HH.out HW.out HB.out W hW
  have hrb := fun W => ref_Block_any h b HH.out HW.out HB.out W
  have hby := fun W => Bytes_any h HH.out HW.out W
  have hry := fun W => ref_Bytes_any h HH.out HW.out W
  have hst := fun W => Start_any W
  have hrs := fun W => ref_Start_any W
  have he1 := fun W => eqSame (P := Tryd.prog) 26 25 (by kernel_rfl) (by kernel_rfl) (fun w => by kernel_rfl) (block h b) (by rw [block_len, HH.out]) W
  have he2 := fun W => eqSame (P := Tryd.prog) 26 25 (by kernel_rfl) (by kernel_rfl) (fun w => by kernel_rfl) start start_len W
  have hf1 := fun W => field_of (block h b) (by rw [block_len, HH.out]) W
  have hf2 := fun W => field_of start start_len W
  rw [← hX] at hbl hrb he1 hf1
  rw [← hY] at hst hrs he2 hf2
  rw [← hSh] at hby hry
  rw [hcs] at hbl hrb hF0
  have hA := HA.out
  rw [hA] at hbl hrb hby hry
  simp only [u32s_eight] at hbl hrb hby hry
  have hqq : Tryd.prog.eqGuardType Tryd.prog.depth 26 = false := by kernel_rfl
  have HBL := Lib.hid hbl
  have HRB := Lib.hid hrb
  have HBY := Lib.hid hby
  have HRY := Lib.hid hry
  have HST := Lib.hid hst
  have HRS := Lib.hid hrs
  rw [hA, hcs]
  clear hA hbl hrb hby hry hst hrs hX hY hSh hcs hcl
  have hF : Three wc.drew n0 g6 (u32s [a0, a1, a2, a3, a4, a5, a6, a7]) cs.toArray := hF0
  have hG2 := hG2.drew
  have hB2 := hB2.drew
  have hsz : n0 ≤ wc.drew.heap.size := hsz2
  have hk0 := hF.1.cells8
  have hk1 := hF.2.1.range
  have hk2 := hF.2.2.cells8
  refine wp_region_noPanic ?_
  refine wp_region_held_drew (S := fun w' => (w'.cell? ⟨n0, 0, none⟩ = some (.int .u32 a0) ∧ w'.cell? ⟨n0, 1, none⟩ = some (.int .u32 a1) ∧ w'.cell? ⟨n0, 2, none⟩ = some (.int .u32 a2) ∧ w'.cell? ⟨n0, 3, none⟩ = some (.int .u32 a3) ∧ w'.cell? ⟨n0, 4, none⟩ = some (.int .u32 a4) ∧ w'.cell? ⟨n0, 5, none⟩ = some (.int .u32 a5) ∧ w'.cell? ⟨n0, 6, none⟩ = some (.int .u32 a6) ∧ w'.cell? ⟨n0, 7, none⟩ = some (.int .u32 a7)) ∧ w'.rangeAt (n0 + 1) 0 cs ∧ (w'.cell? ⟨g6, 0, none⟩ = some (.int .u32 a0) ∧ w'.cell? ⟨g6, 1, none⟩ = some (.int .u32 a1) ∧ w'.cell? ⟨g6, 2, none⟩ = some (.int .u32 a2) ∧ w'.cell? ⟨g6, 3, none⟩ = some (.int .u32 a3) ∧ w'.cell? ⟨g6, 4, none⟩ = some (.int .u32 a4) ∧ w'.cell? ⟨g6, 5, none⟩ = some (.int .u32 a5) ∧ w'.cell? ⟨g6, 6, none⟩ = some (.int .u32 a6) ∧ w'.cell? ⟨g6, 7, none⟩ = some (.int .u32 a7))) (by kernel_rfl) ⟨hk0, hk1, hk2⟩ (fun hHeld => ?_)
  refine wpAnyH_take (i := 0) (oi := ⟨some 12, _, _, _, _, none⟩) (v := ?_) rfl (by kernel_rfl) (by kernel_rfl) (by kernel_rfl) (fun _ _ _ h => h) (Or.inl ⟨by rfl, ?_⟩) (by assumption) ?_
  rotate_left
  · intro w hSw; (try dsimp only at hSw); go_simp; try with_reducible rfl
  try simp only [Act.put, List.setIfInBounds_toArray, List.set_cons_zero, List.set_cons_succ]
  refine wpAnyH_take (i := 1) (oi := ⟨some 13, _, _, _, _, none⟩) (v := ?_) rfl (by kernel_rfl) (by kernel_rfl) (by kernel_rfl) (fun _ _ _ h => h) (Or.inl ⟨by rfl, ?_⟩) (by assumption) ?_
  rotate_left
  · intro w hSw; (try dsimp only at hSw); go_simp; try with_reducible rfl
  try simp only [Act.put, List.setIfInBounds_toArray, List.set_cons_zero, List.set_cons_succ]
  refine wpAnyH_take (i := 2) (oi := ⟨some 14, _, _, _, _, some (1, true)⟩) (v := ?_) rfl (by kernel_rfl) (by kernel_rfl) (by kernel_rfl) (fun _ _ _ h => h) (Or.inl ⟨by rfl, ?_⟩) (by assumption) ?_
  rotate_left
  · intro w hSw; (try dsimp only at hSw); go_simp; try with_reducible rfl
  try simp only [Act.put, List.setIfInBounds_toArray, List.set_cons_zero, List.set_cons_succ]
  refine wpAnyH_take (i := 3) (oi := ⟨some 15, _, _, _, _, some (1, true)⟩) (v := .agg cs.toArray) rfl (by kernel_rfl) (by kernel_rfl) (by kernel_rfl) (fun _ _ _ h => h) (yieldsIf_load_mid (by rfl) _ _ rfl (n0 + 1) 0 rfl cs _ (fun w hS => hS.2.1) hu27 rfl hi27) (by assumption) ?_
  try simp only [Act.put, List.setIfInBounds_toArray, List.set_cons_zero, List.set_cons_succ]
  refine wpAnyH_take (i := 6) (oi := ⟨some 18, _, _, _, _, some (1, true)⟩) (v := ?_) rfl (by kernel_rfl) (by kernel_rfl) (by kernel_rfl) (fun _ _ _ h => h) (Or.inl ⟨by rfl, ?_⟩) (by assumption) ?_
  rotate_left
  · intro w hSw; (try dsimp only at hSw); go_simp; try with_reducible rfl
  try simp only [Act.put, List.setIfInBounds_toArray, List.set_cons_zero, List.set_cons_succ]
  refine wpAnyH_take (i := 7) (oi := ⟨some 19, _, _, _, _, some (1, true)⟩) (v := .agg cs.toArray) rfl (by kernel_rfl) (by kernel_rfl) (by kernel_rfl) (fun _ _ _ h => h) (yieldsIf_load_mid (by rfl) _ _ rfl (n0 + 1) 0 rfl cs _ (fun w hS => hS.2.1) hu27 rfl hi27) (by assumption) ?_
  try simp only [Act.put, List.setIfInBounds_toArray, List.set_cons_zero, List.set_cons_succ]
  refine wpAnyH_ready (rs := [4]) (by kernel_rfl) (by simp) ?_
  refine AllReadyH.cons (o := ⟨some 16, _, _, _, _, some (1, true)⟩) rfl (fun K hK => ?_) AllReadyH.nil
  go_simp
  go_at_call 14
  with_reducible refine (HBL.out _ hG2).mono ?_
  rintro e w4 ⟨rfl, hb4⟩
  have hF : Three w4 n0 g6 _ _ := Three.below hb4 hF
  have hG2 := hG2.below hb4
  have hB2 := hB2.trans (hb4.mono hsz)
  have hsz := Nat.le_trans hsz hb4.size
  have hk0 := hF.1.cells8
  have hk1 := hF.2.1.range
  have hk2 := hF.2.2.cells8
  go_wp2_with fail
  refine hK.out _ _ ⟨hk0, hk1, hk2⟩ (fun hHeld => ?_)
  clear hK K
  try simp only [Act.put, List.setIfInBounds_toArray, List.set_cons_zero, List.set_cons_succ]
  refine wpAnyH_take (i := 5) (oi := ⟨some 17, _, _, _, _, some (1, true)⟩) (v := ?_) rfl (by kernel_rfl) (by kernel_rfl) (by kernel_rfl) (fun _ _ _ h => h) (Or.inl ⟨by rfl, ?_⟩) (by assumption) ?_
  rotate_left
  · intro w hSw; (try dsimp only at hSw); go_simp; try with_reducible rfl
  try simp only [Act.put, List.setIfInBounds_toArray, List.set_cons_zero, List.set_cons_succ]
  refine wpAnyH_ready (rs := [8]) (by kernel_rfl) (by simp) ?_
  refine AllReadyH.cons (o := ⟨some 20, _, _, _, _, some (1, true)⟩) rfl (fun K hK => ?_) AllReadyH.nil
  go_simp
  go_at_call 15
  with_reducible refine (HRB.out _).mono ?_
  rintro e w4 ⟨rfl, hb4⟩
  have hF : Three w4 n0 g6 _ _ := Three.below hb4 hF
  have hG2 := hG2.below hb4
  have hB2 := hB2.trans (hb4.mono hsz)
  have hsz := Nat.le_trans hsz hb4.size
  have hk0 := hF.1.cells8
  have hk1 := hF.2.1.range
  have hk2 := hF.2.2.cells8
  go_wp2_with fail
  refine hK.out _ _ ⟨hk0, hk1, hk2⟩ (fun hHeld => ?_)
  clear hK K
  try simp only [Act.put, List.setIfInBounds_toArray, List.set_cons_zero, List.set_cons_succ]
  refine wpAnyH_take (i := 9) (oi := ⟨some 21, _, _, _, _, some (1, true)⟩) (v := ?_) rfl (by kernel_rfl) (by kernel_rfl) (by kernel_rfl) (fun _ _ _ h => h) (Or.inl ⟨by rfl, ?_⟩) (by assumption) ?_
  rotate_left
  · intro w hSw; (try dsimp only at hSw); go_simp; try with_reducible rfl
  try simp only [Act.put, List.setIfInBounds_toArray, List.set_cons_zero, List.set_cons_succ]
  refine wpAnyH_take (i := 10) (oi := ⟨some 22, _, _, _, _, none⟩) (v := ?_) rfl (by kernel_rfl) (by kernel_rfl) (by kernel_rfl) (fun _ _ _ h => h) (Or.inl ⟨by rfl, ?_⟩) (by assumption) ?_
  rotate_left
  · intro w hSw; (try dsimp only at hSw); go_simp; try with_reducible rfl
  try simp only [Act.put, List.setIfInBounds_toArray, List.set_cons_zero, List.set_cons_succ]
  refine wpAnyH_take (i := 11) (oi := ⟨some 23, _, _, _, _, none⟩) (v := ?_) rfl (by kernel_rfl) (by kernel_rfl) (by kernel_rfl) (fun _ _ _ h => h) (Or.inl ⟨by rfl, ?_⟩) (by assumption) ?_
  rotate_left
  · intro w hSw; (try dsimp only at hSw); go_simp; try with_reducible rfl
  try simp only [Act.put, List.setIfInBounds_toArray, List.set_cons_zero, List.set_cons_succ]
  refine wpAnyH_take (i := 12) (oi := ⟨some 24, _, _, _, _, some (11, true)⟩) (v := ?_) rfl (by kernel_rfl) (by kernel_rfl) (by kernel_rfl) (fun _ _ _ h => h) (Or.inl ⟨by rfl, ?_⟩) (by assumption) ?_
  rotate_left
  · intro w hSw; (try dsimp only at hSw); go_simp; try with_reducible rfl
  try simp only [Act.put, List.setIfInBounds_toArray, List.set_cons_zero, List.set_cons_succ]
  refine wpAnyH_take (i := 14) (oi := ⟨some 26, _, _, _, _, some (11, true)⟩) (v := ?_) rfl (by kernel_rfl) (by kernel_rfl) (by kernel_rfl) (fun _ _ _ h => h) (Or.inl ⟨by rfl, ?_⟩) (by assumption) ?_
  rotate_left
  · intro w hSw; (try dsimp only at hSw); go_simp; try with_reducible rfl
  try simp only [Act.put, List.setIfInBounds_toArray, List.set_cons_zero, List.set_cons_succ]
  refine wpAnyH_ready (rs := [13]) (by kernel_rfl) (by simp) ?_
  refine AllReadyH.cons (o := ⟨some 25, _, _, _, _, some (11, true)⟩) rfl (fun K hK => ?_) AllReadyH.nil
  go_simp
  go_at_call 16
  with_reducible refine (HBY.out _).mono ?_
  rintro e w4 ⟨rfl, hb4⟩
  have hF : Three w4 n0 g6 _ _ := Three.below hb4 hF
  have hG2 := hG2.below hb4
  have hB2 := hB2.trans (hb4.mono hsz)
  have hsz := Nat.le_trans hsz hb4.size
  have hk0 := hF.1.cells8
  have hk1 := hF.2.1.range
  have hk2 := hF.2.2.cells8
  go_wp2_with fail
  refine hK.out _ _ ⟨hk0, hk1, hk2⟩ (fun hHeld => ?_)
  clear hK K
  try simp only [Act.put, List.setIfInBounds_toArray, List.set_cons_zero, List.set_cons_succ]
  refine wpAnyH_ready (rs := [15]) (by kernel_rfl) (by simp) ?_
  refine AllReadyH.cons (o := ⟨some 27, _, _, _, _, some (11, true)⟩) rfl (fun K hK => ?_) AllReadyH.nil
  go_simp
  go_at_call 17
  with_reducible refine (HRY.out _).mono ?_
  rintro e w4 ⟨rfl, hb4⟩
  have hF : Three w4 n0 g6 _ _ := Three.below hb4 hF
  have hG2 := hG2.below hb4
  have hB2 := hB2.trans (hb4.mono hsz)
  have hsz := Nat.le_trans hsz hb4.size
  have hk0 := hF.1.cells8
  have hk1 := hF.2.1.range
  have hk2 := hF.2.2.cells8
  go_wp2_with fail
  refine hK.out _ _ ⟨hk0, hk1, hk2⟩ (fun hHeld => ?_)
  clear hK K
  try simp only [Act.put, List.setIfInBounds_toArray, List.set_cons_zero, List.set_cons_succ]
  refine wpAnyH_take (i := 16) (oi := ⟨some 28, _, _, _, _, some (11, true)⟩) (v := ?_) rfl (by kernel_rfl) (by kernel_rfl) (by kernel_rfl) (fun _ _ _ h => h) (Or.inl ⟨by rfl, ?_⟩) (by assumption) ?_
  rotate_left
  · intro w hSw; (try dsimp only at hSw); go_simp; try with_reducible rfl
  try simp only [Act.put, List.setIfInBounds_toArray, List.set_cons_zero, List.set_cons_succ]
  refine wpAnyH_take (i := 17) (oi := ⟨some 29, _, _, _, _, none⟩) (v := ?_) rfl (by kernel_rfl) (by kernel_rfl) (by kernel_rfl) (fun _ _ _ h => h) (Or.inl ⟨by rfl, ?_⟩) (by assumption) ?_
  rotate_left
  · intro w hSw; (try dsimp only at hSw); go_simp; try with_reducible rfl
  try simp only [Act.put, List.setIfInBounds_toArray, List.set_cons_zero, List.set_cons_succ]
  refine wpAnyH_take (i := 18) (oi := ⟨some 30, _, _, _, _, none⟩) (v := ?_) rfl (by kernel_rfl) (by kernel_rfl) (by kernel_rfl) (fun _ _ _ h => h) (Or.inl ⟨by rfl, ?_⟩) (by assumption) ?_
  rotate_left
  · intro w hSw; (try dsimp only at hSw); go_simp; try with_reducible rfl
  try simp only [Act.put, List.setIfInBounds_toArray, List.set_cons_zero, List.set_cons_succ]
  refine wpAnyH_ready (rs := [19]) (by kernel_rfl) (by simp) ?_
  refine AllReadyH.cons (o := ⟨some 31, _, _, _, _, some (18, true)⟩) rfl (fun K hK => ?_) AllReadyH.nil
  go_simp
  go_at_call 18
  with_reducible refine (HST.out _).mono ?_
  rintro e w4 ⟨rfl, hb4⟩
  have hF : Three w4 n0 g6 _ _ := Three.below hb4 hF
  have hG2 := hG2.below hb4
  have hB2 := hB2.trans (hb4.mono hsz)
  have hsz := Nat.le_trans hsz hb4.size
  have hk0 := hF.1.cells8
  have hk1 := hF.2.1.range
  have hk2 := hF.2.2.cells8
  go_wp2_with fail
  refine hK.out _ _ ⟨hk0, hk1, hk2⟩ (fun hHeld => ?_)
  clear hK K
  try simp only [Act.put, List.setIfInBounds_toArray, List.set_cons_zero, List.set_cons_succ]
  refine wpAnyH_take (i := 20) (oi := ⟨some 32, _, _, _, _, some (18, true)⟩) (v := ?_) rfl (by kernel_rfl) (by kernel_rfl) (by kernel_rfl) (fun _ _ _ h => h) (Or.inl ⟨by rfl, ?_⟩) (by assumption) ?_
  rotate_left
  · intro w hSw; (try dsimp only at hSw); go_simp; try with_reducible rfl
  try simp only [Act.put, List.setIfInBounds_toArray, List.set_cons_zero, List.set_cons_succ]
  refine wpAnyH_ready (rs := [21]) (by kernel_rfl) (by simp) ?_
  refine AllReadyH.cons (o := ⟨some 33, _, _, _, _, some (18, true)⟩) rfl (fun K hK => ?_) AllReadyH.nil
  go_simp
  go_at_call 19
  with_reducible refine (HRS.out _).mono ?_
  rintro e w4 ⟨rfl, hb4⟩
  have hF : Three w4 n0 g6 _ _ := Three.below hb4 hF
  have hG2 := hG2.below hb4
  have hB2 := hB2.trans (hb4.mono hsz)
  have hsz := Nat.le_trans hsz hb4.size
  have hk0 := hF.1.cells8
  have hk1 := hF.2.1.range
  have hk2 := hF.2.2.cells8
  go_wp2_with fail
  refine hK.out _ _ ⟨hk0, hk1, hk2⟩ (fun hHeld => ?_)
  clear hK K
  try simp only [Act.put, List.setIfInBounds_toArray, List.set_cons_zero, List.set_cons_succ]
  refine wpAnyH_take (i := 22) (oi := ⟨some 34, _, _, _, _, some (18, true)⟩) (v := ?_) rfl (by kernel_rfl) (by kernel_rfl) (by kernel_rfl) (fun _ _ _ h => h) (Or.inl ⟨by rfl, ?_⟩) (by assumption) ?_
  rotate_left
  · intro w hSw; (try dsimp only at hSw); go_simp; try with_reducible rfl
  try simp only [Act.put, List.setIfInBounds_toArray, List.set_cons_zero, List.set_cons_succ]
  refine wpAnyH_take (i := 23) (oi := ⟨some 35, _, _, _, _, none⟩) (v := ?_) rfl (by kernel_rfl) (by kernel_rfl) (by kernel_rfl) (fun _ _ _ h => h) (Or.inl ⟨by rfl, ?_⟩) (by assumption) ?_
  rotate_left
  · intro w hSw; (try dsimp only at hSw); go_simp; try with_reducible rfl
  try simp only [Act.put, List.setIfInBounds_toArray, List.set_cons_zero, List.set_cons_succ]
  refine wpAnyH_take (i := 24) (oi := ⟨some 4, _, _, _, _, none⟩) (v := ?_) rfl (by kernel_rfl) (by kernel_rfl) (by kernel_rfl) (fun _ _ _ h => h) (Or.inl ⟨by rfl, ?_⟩) (by assumption) ?_
  rotate_left
  · intro w hSw; (try dsimp only at hSw); go_simp; try with_reducible rfl
  try simp only [Act.put, List.setIfInBounds_toArray, List.set_cons_zero, List.set_cons_succ]
  refine wpAnyH_done (by kernel_rfl) ?_ _
  refine NoPanic.normal ?_
  go_wp2_with fail
  go_ret
  refine ⟨?_, by rw [hn0]; exact hB2⟩
  dsimp only
  simp

end Go.Proofs.YtidkakjghimimaaDoor.Sha
