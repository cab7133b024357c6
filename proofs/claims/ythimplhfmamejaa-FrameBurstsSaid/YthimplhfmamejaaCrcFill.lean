/-
  The Go text of package crc, walked: a bit's step; the table's steps, filled in.
-/
import Derived.WalkKit
import Derived.OwnWalkIn
import Derived.LoopTactic
import Derived.Laws.BitsAllLaws
import Derived.Outline
import Derived.Test.YthimplhfmamejaaRows
import Derived.Test.YthimplhfmamejaaCrcMath
namespace Go.Proofs.Ythimplhfmamejaa.Crc
open Go.RowKit

attribute [local go_sem] Oper.semAt_some

theorem ret_u32 {a b : Int} (h : a = b) : Ending.returned (.int .u32 a) = .returned (.int .u32 b) := by rw [h]
theorem int_u32 {a b : Int} (h : a = b) : Value.int .u32 a = .int .u32 b := by rw [h]

theorem and_1 (c : Nat) (h : c < 4294967296) : bits .and .u32 (c : Int) 1 = ((c % 2 : Nat) : Int) := by
  have := u32_and_nat c 1 h (by omega)
  rw [Nat.and_one_is_mod] at this
  exact this
theorem xor_poly (c : Nat) (h : c < 4294967296) : bits .xor .u32 ((c : Int) / 2) 3988292384 = ((c / 2 ^^^ 3988292384 : Nat) : Int) := u32_xor_nat (c / 2) 3988292384 (by omega) (by omega)

theorem step_any (c : Nat) (hc : c < 4294967296) (w : World) :
    Calls Try.prog 63 #[.int .u32 (c : Int)] w fun e w' => e = .returned (.int .u32 (step c : Int)) ∧ w = w' := by
  have ha := and_1 c hc
  by_cases h : c % 2 = 1
  · have hb : (bits .and .u32 (c : Int) 1 == 1) = true := by rw [ha, h]; rfl
    have HX := Lib.hid (xor_poly c hc)
    have HS := Lib.hid (step_odd h)
    clear ha h
    go_enter Try.func63, Try.ntmps63
    go_wp2
    go_ret
    exact ⟨ret_u32 (by rw [HX.out, HS.out]), rfl⟩
  · have hb : (bits .and .u32 (c : Int) 1 == 1) = false := by rw [ha, show c % 2 = 0 by omega]; rfl
    have HS := Lib.hid (step_even h)
    clear ha h
    go_enter Try.func63, Try.ntmps63
    go_wp2
    go_ret
    exact ⟨ret_u32 (by rw [HS.out]; rfl), rfl⟩

/-- What was there stays, but for the cells of one block; that one's marks stay. -/
structure Only (g : Nat) (w w' : World) : Prop where
  os : w'.os = w.os
  tape : w'.tape = w.tape
  output : w'.output = w.output
  size : w.heap.size ≤ w'.heap.size
  block : ∀ k, k < w.heap.size → k ≠ g → w'.heap[k]? = w.heap[k]?
  froz : ∀ j, w'.frozen? ⟨g, j, none⟩ = w.frozen? ⟨g, j, none⟩

theorem Only.refl (g : Nat) (w : World) : Only g w w := ⟨rfl, rfl, rfl, Nat.le_refl _, fun _ _ _ => rfl, fun _ => rfl⟩
theorem Only.trans {g : Nat} {a b c : World} (h : Only g a b) (k : Only g b c) : Only g a c :=
  ⟨k.os.trans h.os, k.tape.trans h.tape, k.output.trans h.output, Nat.le_trans h.size k.size, fun i hi hg => (k.block i (Nat.lt_of_lt_of_le hi h.size) hg).trans (h.block i hi hg), fun j => (k.froz j).trans (h.froz j)⟩
theorem Only.setCell {g : Nat} {a w : World} (h : Only g a w) (o : Nat) (v : Value) : Only g a (w.setCell ⟨g, o, none⟩ v) :=
  h.trans ⟨rfl, rfl, rfl, by simp, fun k _ hg => Below.heap_setCell _ _ _ _ hg, fun j => by first | rfl | simp⟩
theorem Only.drew {g : Nat} {a w : World} (h : Only g a w) : Only g a w.drew := ⟨h.os, h.tape, h.output, h.size, h.block, h.froz⟩
theorem Only.below {g : Nat} {w w' : World} (h : Only g w w') {B : Nat} (hB : B ≤ g) (hs : B ≤ w.heap.size) : Below B w w' :=
  ⟨h.os, h.tape, h.output, h.size, fun k hk => h.block k (by omega) (by omega)⟩
theorem Only.cell {g : Nat} {w w' : World} (h : Only g w w') {k j : Nat} (hk : k < w.heap.size) (hg : k ≠ g) : w'.cell? ⟨k, j, none⟩ = w.cell? ⟨k, j, none⟩ := World.cell?_of_block (w := w) (a := ⟨k, j, none⟩) (h.block k hk hg)
theorem Only.frozen {g : Nat} {w w' : World} (h : Only g w w') {k j : Nat} (hk : k < w.heap.size) (hg : k ≠ g) : w'.frozen? ⟨k, j, none⟩ = w.frozen? ⟨k, j, none⟩ := World.frozen?_of_block (w := w) (a := ⟨k, j, none⟩) (h.block k hk hg)

/-- A table's first steps, as they must be; the others are there. -/
def Filled (w : World) (g n : Nat) : Prop := ∀ i, i < 256 → ∃ x : Value, w.cell? ⟨g, 3 + i, none⟩ = some x ∧ (i < n → x = .int .u32 (tab i : Nat))

theorem Filled.more {w : World} {g n : Nat} (h : Filled w g n) (hn : n < 256) : Filled (w.setCell ⟨g, 3 + n, none⟩ (.int .u32 (tab n : Nat))) g (n + 1) := by
  intro i hi
  obtain ⟨x, hx, hv⟩ := h i hi
  by_cases e : i = n
  · subst e
    exact ⟨_, World.cell?_setCell_same _ _ _ hx, fun _ => rfl⟩
  · exact ⟨x, (World.cell?_setCell_other _ _ _ _ (fun h => by have := congrArg Addr.off h; simp at this; omega)).trans hx, fun hlt => hv (by omega)⟩

def FillEnds (g : Nat) (w : World) (e : Ending) (w' : World) : Prop :=
  e = .returned (.tuple #[]) ∧ Only g w w' ∧ Filled w' g 256 ∧ ∀ j, j < 3 → w'.cell? ⟨g, j, none⟩ = w.cell? ⟨g, j, none⟩

set_option maxRecDepth 100000 in
set_option maxHeartbeats 1000000 in
theorem fill_any (g : Nat) (w : World) (hr : Filled w g 0) (hz : ∀ j, w.frozen? ⟨g, j, none⟩ = false) :
    Calls Try.prog 59 #[.pointer (some ⟨g, 0, none⟩)] w (FillEnds g w) := by
  have HZ := Lib.hid hz
  clear hz
  go_enter Try.func59, Try.ntmps59
  go_wp2_with fail
  go_loopw [4] (fun i wr => ∃ n : Nat, n ≤ 256 ∧ i = .int .i64 n ∧ Only g w wr ∧ Filled wr g n ∧ Hid (∀ j, j < 3 → wr.cell? ⟨g, j, none⟩ = w.cell? ⟨g, j, none⟩)) (fun i _ => 256 - (intOf i).toNat)
  case atStart => exact ⟨0, by omega, rfl, Only.refl _ _, hr, Lib.hid fun _ _ => rfl⟩
  case round =>
    obtain ⟨n, hn, rfl, ho, hf, hj⟩ := hrel
    by_cases hlt : n < 256
    · have hm := hf.more hlt
      obtain ⟨x, hx, -⟩ := hf n hlt
      have hz1 : wr.frozen? ⟨g, 3 + n, none⟩ = false := (ho.froz _).trans (HZ.out _)
      have hd : decide ((n : Int) < 256) = true := by simp; omega
      have hn0 : (n : Int) < 256 := by omega
      go_wp2_with fail
      go_loop [3, 9] (fun c k => ∃ m : Nat, m ≤ 8 ∧ k = .int .i64 m ∧ c = .int .u32 (steps m n : Nat)) (fun _ k => 8 - (intOf k).toNat)
      case atStart => exact ⟨0, by omega, rfl, rfl⟩
      case round =>
        obtain ⟨m, hm8, rfl, rfl⟩ := hrel
        by_cases hml : m < 8
        · have hs := steps_lt m (c := n) (by omega)
          have HS := Lib.hid (steps_succ m n)
          go_wp2_with (go_at_call 63; refine (step_any (steps m n) hs _).mono ?_; rintro e w' ⟨rfl, rfl⟩)
          go_round
          case rel => exact ⟨m + 1, by omega, by go_num, by rw [HS.out]⟩
          case measure => simp [intOf]; omega
        · have hm9 : m = 8 := by omega
          subst hm9
          go_wp2_with fail
          go_roundw
          case rel =>
            refine ⟨n + 1, by omega, by go_num, ho.setCell _ _, hm, Lib.hid fun j hj3 => ?_⟩
            exact (World.cell?_setCell_other _ _ _ _ (fun h => by have := congrArg Addr.off h; simp at this; omega)).trans (hj.out j hj3)
          case measure => simp [intOf]; omega
    · have hn9 : n = 256 := by omega
      subst hn9
      go_wp2_with fail
      go_end0
      exact ⟨rfl, ho, hf, hj.out⟩

end Go.Proofs.Ythimplhfmamejaa.Crc
