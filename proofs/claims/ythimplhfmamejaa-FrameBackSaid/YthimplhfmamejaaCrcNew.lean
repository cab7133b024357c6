/-
  The Go text of package crc, walked: a new table; the sum of a text; and the reference's.
-/
import Derived.Laws.Tables
import Derived.Laws.NewBlocks
import Derived.Test.YthimplhfmamejaaCrcOnce
namespace Go.Proofs.Ythimplhfmamejaa.Crc
open Go.RowKit

/-- A new table's cells. -/
def zcells : Array Value := #[.int .u32 0, .int .i32 0, .int .u32 0] ++ Array.replicate 256 (.int .u32 0)

theorem zero_tab (W : World) : (zeroValue 96).run Try.prog W = .ok (.agg zcells) W := by kernel_rfl
theorem build_tab (W : World) : (Instr.build 96 #[]).run Try.prog W = .ok (.agg zcells) W := run_build W 96 #[] zcells (by kernel_rfl)
theorem box_tab (W : World) : (Instr.box 96 (.agg zcells)).run Try.prog W = .ok (.pointer (some ⟨W.heap.size, 0, none⟩)) (W.alloc (.cells zcells 96)) := by kernel_rfl

theorem zcells_steps (i : Nat) (h : i < 256) : zcells[3 + i]? = some (.int .u32 0) := by
  unfold zcells
  rw [Array.getElem?_append_right (by simp)]
  simp [h]
theorem zcells_0 : zcells[0]? = some (.int .u32 0) := by unfold zcells; rw [Array.getElem?_append_left (by simp)]; rfl
theorem zcells_1 : zcells[1]? = some (.int .i32 0) := by unfold zcells; rw [Array.getElem?_append_left (by simp)]; rfl

theorem fresh_new (w : World) : Fresh (w.alloc (.cells zcells 96)) w.heap.size where
  done := by rw [World.cell?_alloc_at _ _ _ _ rfl]; exact zcells_0
  lock := by rw [World.cell?_alloc_at _ _ _ _ rfl]; exact zcells_1
  steps := fun i hi => ⟨.int .u32 0, by rw [World.cell?_alloc_at _ _ _ _ rfl]; exact zcells_steps i hi, fun h => by omega⟩
  froz := fun j => World.frozen?_alloc_at _ _ _ _ rfl

theorem New_any (w : World) : Calls Try.prog 44 #[] w fun e w' => e = .returned (.pointer (some ⟨w.heap.size, 0, none⟩)) ∧ Below w.heap.size w w' ∧ w'.heap.size = w.heap.size + 1 ∧ Fresh w' w.heap.size := by
  have hb := zero_tab
  have hx := box_tab
  go_enter Try.func44, Try.ntmps44
  go_wp2_with fail
  go_ret
  exact ⟨rfl, (Below.refl _ _).alloc (Nat.le_refl _) _, by simp, fresh_new w⟩

theorem take_snoc (s : ByteArray) (k : Nat) (h : k < s.size) : s.data.toList.take (k + 1) = s.data.toList.take k ++ [s[k]] := by
  rw [List.take_succ_eq_append_getElem (by simpa using h)]; rfl

theorem reg_take (s : ByteArray) (k : Nat) (h : k < s.size) (c : Nat) : reg c (s.data.toList.take (k + 1)) = next (reg c (s.data.toList.take k)) s[k].toNat := by
  rw [take_snoc s k h, reg_snoc]

theorem take_all (s : ByteArray) : s.data.toList.take s.size = s.data.toList := List.take_of_length_le (by simp)

def SumEnds (g : Nat) (s : ByteArray) (w : World) (e : Ending) (w' : World) : Prop := e = .returned (.int .u32 (sum s.data.toList : Nat)) ∧ Only g w w' ∧ Tabl w' g

theorem xor_sum (l : List UInt8) : bits .xor .u32 ((reg 4294967295 l : Nat) : Int) 4294967295 = ((sum l : Nat) : Int) := u32_xor_nat _ 4294967295 (reg_lt l (by omega)) (by omega)

set_option maxRecDepth 100000 in
set_option maxHeartbeats 1000000 in
theorem TSum_any (g : Nat) (s : ByteArray) (hs : s.size ≤ 1073741824) (w : World) (hT : Tabl w g) :
    Calls Try.prog 45 #[.pointer (some ⟨g, 0, none⟩), .string s] w (SumEnds g s w) := by
  have HS := Lib.hid (xor_sum s.data.toList)
  go_enter Try.func45, Try.ntmps45
  go_wp2_with fail
  go_loopw [5, 9] (fun c i wr => ∃ k : Nat, k ≤ s.size ∧ i = .int .i64 k ∧ c = .int .u32 (reg 4294967295 (s.data.toList.take k) : Nat) ∧ Only g w wr ∧ Tabl wr g) (fun _ i _ => s.size - (intOf i).toNat)
  case atStart => exact ⟨0, by omega, rfl, rfl, Only.refl _ _, hT⟩
  case round =>
    obtain ⟨k, hk, rfl, rfl, ho, hTr⟩ := hrel
    by_cases hlt : k < s.size
    · have hd : decide ((k : Int) < (s.size : Int)) = true := by simp; omega
      have hreg := reg_lt (s.data.toList.take k) (c := 4294967295) (by omega)
      have HR := Lib.hid (reg_take s k hlt 4294967295)
      have hby := byte_lt s[k]
      go_wp2_with (go_at_call 56; refine (Next_any g _ _ hreg hby _ hTr).mono ?_; intro e w' hq; obtain ⟨rfl, ho2, hm⟩ := hq)
      go_roundw
      case rel => exact ⟨k + 1, by omega, by go_num, by rw [HR.out], ho.trans ho2, .inr hm⟩
      case measure => simp [intOf]; omega
    · have hk9 : k = s.size := by omega
      subst hk9
      rw [take_all]
      go_wp2_with fail
      go_ret
      exact ⟨ret_u32 HS.out, ho, hTr⟩

theorem Sum_any (s : ByteArray) (hs : s.size ≤ 1073741824) (w : World) :
    Calls Try.prog 35 #[.string s] w fun e w' => e = .returned (.int .u32 (sum s.data.toList : Nat)) ∧ Below w.heap.size w w' := by
  go_enter Try.func35, Try.ntmps35
  go_wp2_with (first | (go_at_call 44; refine (New_any _).mono ?_; rintro e w1 ⟨rfl, hb1, hz1, hf1⟩) | (go_at_call 45; refine (TSum_any _ s hs _ (.inl hf1)).mono ?_; intro e w2 hq; obtain ⟨rfl, ho, ht⟩ := hq))
  go_ret
  exact ⟨rfl, hb1.trans (ho.below (Nat.le_refl _) (by omega))⟩

set_option maxRecDepth 100000 in
set_option maxHeartbeats 1000000 in
theorem ref_Next_any (c b : Nat) (hc : c < 4294967296) (hb : b < 256) (w : World) :
    Calls Try.prog 46 #[.int .u32 (c : Int), .int .u8 (b : Int)] w fun e w' => e = .returned (.int .u32 (next c b : Nat)) ∧ w = w' := by
  have hx : bits .xor .u32 (c : Int) (b : Int) = ((c ^^^ b : Nat) : Int) := u32_xor_nat c b hc (by omega)
  have hlt := xor_lt hc (show b < 4294967296 by omega)
  have hn : next c b = steps 8 (c ^^^ b) := rfl
  generalize c ^^^ b = x at hx hlt hn
  have HN := Lib.hid hn
  clear hn
  go_enter Try.func46, Try.ntmps46
  go_wp2_with fail
  go_loop [0, 5] (fun c i => ∃ m : Nat, m ≤ 8 ∧ i = .int .i64 m ∧ c = .int .u32 (steps m x : Nat)) (fun _ i => 8 - (intOf i).toNat)
  case atStart => exact ⟨0, by omega, rfl, rfl⟩
  case round =>
    obtain ⟨m, hm, rfl, rfl⟩ := hrel
    have hs := steps_lt m hlt
    have HS := Lib.hid (steps_succ m x)
    by_cases hml : m < 8
    · have hd : decide ((m : Int) < 8) = true := by simp; omega
      by_cases ho : steps m x % 2 = 1
      · have HX := Lib.hid (xor_poly _ hs)
        have hb1 : (((steps m x : Nat) : Int) % 2 == 1) = true := by rw [beq_iff_eq]; omega
        have HO := Lib.hid (step_odd ho)
        clear ho
        go_wp2_with fail
        go_round
        case rel => exact ⟨m + 1, by omega, by go_num, int_u32 (by rw [HX.out, HS.out, HO.out])⟩
        case measure => simp [intOf]; omega
      · have hb1 : (((steps m x : Nat) : Int) % 2 == 1) = false := by rw [beq_eq_false_iff_ne]; omega
        have HO := Lib.hid (step_even ho)
        clear ho
        go_wp2_with fail
        go_round
        case rel => exact ⟨m + 1, by omega, by go_num, int_u32 (by rw [HS.out, HO.out]; rfl)⟩
        case measure => simp [intOf]; omega
    · have hm9 : m = 8 := by omega
      subst hm9
      go_wp2_with fail
      go_ret
      exact ⟨ret_u32 (by rw [HN.out]), rfl⟩

theorem sub_sum (l : List UInt8) : (4294967295 : Int) - ((reg 4294967295 l : Nat) : Int) = ((sum l : Nat) : Int) := by
  have h := reg_lt l (c := 4294967295) (by omega)
  rw [sum, xor_all _ h]
  omega

set_option maxRecDepth 100000 in
set_option maxHeartbeats 1000000 in
theorem ref_Sum_any (s : ByteArray) (hs : s.size ≤ 1073741824) (w : World) :
    Calls Try.prog 36 #[.string s] w fun e w' => e = .returned (.int .u32 (sum s.data.toList : Nat)) ∧ w = w' := by
  have HS := Lib.hid (sub_sum s.data.toList)
  go_enter Try.func36, Try.ntmps36
  go_wp2_with fail
  go_loop [3, 4] (fun c i => ∃ k : Nat, k ≤ s.size ∧ i = .int .i64 k ∧ c = .int .u32 (reg 4294967295 (s.data.toList.take k) : Nat)) (fun _ i => s.size - (intOf i).toNat)
  case atStart => exact ⟨0, by omega, rfl, rfl⟩
  case round =>
    obtain ⟨k, hk, rfl, rfl⟩ := hrel
    have hreg := reg_lt (s.data.toList.take k) (c := 4294967295) (by omega)
    by_cases hlt : k < s.size
    · have hd : decide ((k : Int) < (s.size : Int)) = true := by simp; omega
      have HR := Lib.hid (reg_take s k hlt 4294967295)
      have hby := byte_lt s[k]
      go_wp2_with (go_at_call 46; refine (ref_Next_any _ _ hreg hby _).mono ?_; rintro e w' ⟨rfl, rfl⟩)
      go_round
      case rel => exact ⟨k + 1, by omega, by go_num, by rw [HR.out]⟩
      case measure => simp [intOf]; omega
    · have hk9 : k = s.size := by omega
      subst hk9
      rw [take_all] at *
      go_wp2_with fail
      go_ret
      exact ⟨ret_u32 HS.out, rfl⟩

end Go.Proofs.Ythimplhfmamejaa.Crc
