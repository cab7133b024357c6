/-
  The Go text of package crc, walked: a text's tail, and whether it ends with it.
-/
import Derived.Laws.BytesArg
import Derived.Test.YthimplhfmamejaaBytes
import Derived.Deep.RegionHeld3
import Derived.Lib.Strings
import Derived.BigQuiet
import Derived.Deep.QuietTactic
import Derived.Test.YthimplhfmamejaaCrcNew
namespace Go.Proofs.Ythimplhfmamejaa.Crc
open Go.RowKit

def z4 : Array Value := #[.int .u8 0, .int .u8 0, .int .u8 0, .int .u8 0]
theorem make4 (w : World) : (Instr.makeSlice 42 (.int .i64 4) (.int .i64 4)).run Try.prog w = .ok (.slice (some ⟨w.heap.size, 0, none⟩) 4 4) (w.alloc (.cells z4 5)) := by kernel_rfl

/-- The bytes that stand there behind k rounds. -/
def part (c k j : Nat) : Nat := if j < k then c / 256 ^ j % 256 else 0

/-- A row of four bytes. -/
def Row4 (w : World) (h : Nat) (f : Nat → Nat) : Prop := ∀ j, j < 4 → w.cell? ⟨h, j, none⟩ = some (.int .u8 (f j : Nat)) ∧ w.frozen? ⟨h, j, none⟩ = false

theorem Row4.new (w : World) (c : Nat) : Row4 (w.alloc (.cells z4 5)) w.heap.size (part c 0) := by
  intro j hj
  refine ⟨?_, by rw [World.frozen?_alloc_at _ _ _ _ rfl]⟩
  rw [World.cell?_alloc_at _ _ _ _ rfl]
  have : part c 0 j = 0 := by simp [part]
  rw [this]
  rcases (show j = 0 ∨ j = 1 ∨ j = 2 ∨ j = 3 by omega) with rfl | rfl | rfl | rfl <;> rfl

theorem Row4.more {w : World} {h c k : Nat} (hr : Row4 w h (part c k)) (hk : k < 4) : Row4 (w.setCell ⟨h, k, none⟩ (.int .u8 ((c / 256 ^ k % 256 : Nat) : Int))) h (part c (k + 1)) := by
  intro j hj
  refine ⟨?_, by rw [World.frozen?_setCell]; exact (hr j hj).2⟩
  by_cases e : j = k
  · subst e
    rw [World.cell?_setCell_same _ _ _ (hr j hj).1]
    simp [part]
  · rw [World.cell?_setCell_other _ _ _ _ (fun h => by have := congrArg Addr.off h; simp at this; omega), (hr j hj).1]
    have : part c (k + 1) j = part c k j := by unfold part; split <;> split <;> first | rfl | omega
    rw [this]

theorem conv_tail (W : World) (h c : Nat) (hr : Row4 W h (part c 4)) :
    (convert 42 9 (.slice (some ⟨h, 0, none⟩) 4 4)).run Try.prog W = .ok (.string ⟨(four c).toArray⟩) W := by
  rw [run_convert_bytes_arg W _ _ Try.underlying42 Try.underlying5 h 0 4 4 [((c % 256 : Nat) : Int), ((c / 256 % 256 : Nat) : Int), ((c / 65536 % 256 : Nat) : Int), ((c / 16777216 % 256 : Nat) : Int)] rfl ?_ _ Try.underlying9]
  · rfl
  · intro i hi
    rw [Nat.zero_add, (hr i hi).1]
    rcases (show i = 0 ∨ i = 1 ∨ i = 2 ∨ i = 3 by omega) with rfl | rfl | rfl | rfl <;> simp [part]

theorem cut_byte (c k : Nat) : (c : Int) / 2 ^ (8 * k) % 256 = ((c / 256 ^ k % 256 : Nat) : Int) := by
  have h : (2 : Int) ^ (8 * k) = ((256 ^ k : Nat) : Int) := by rw [show (256 : Nat) = 2 ^ 8 from rfl, ← Nat.pow_mul]; simp
  rw [h]
  omega

theorem ret_string {a b : ByteArray} (h : a = b) : Ending.returned (.string a) = .returned (.string b) := by rw [h]

set_option maxRecDepth 100000 in
set_option maxHeartbeats 1000000 in
theorem Tail_any (s : ByteArray) (hs : s.size ≤ 1073741824) (w : World) :
    Calls Try.prog 21 #[.string s] w fun e w' => e = .returned (.string ⟨(tail s.data.toList).toArray⟩) ∧ Below w.heap.size w w' := by
  have hmk := make4
  unfold tail
  have hc := sum_lt s.data.toList
  have hsm := fun W => Sum_any s hs W
  generalize sum s.data.toList = c at hc hsm
  have HS := Lib.hid hsm
  clear hsm
  go_enter Try.func21, Try.ntmps21
  go_wp2_with (go_at_call 35; refine (HS.out _).mono ?_; rintro e w1 ⟨rfl, hb1⟩)
  go_loopw [11] (fun i wr => ∃ k : Nat, k ≤ 4 ∧ i = .int .i64 k ∧ Below w.heap.size w wr ∧ Row4 wr w1.heap.size (part c k)) (fun i _ => 4 - (intOf i).toNat)
  case atStart => exact ⟨0, by omega, rfl, hb1.alloc hb1.size _, Row4.new w1 c⟩
  case round =>
    obtain ⟨k, hk, rfl, hb, hr⟩ := hrel
    by_cases hlt : k < 4
    · have hd : decide ((k : Int) < 4) = true := by simp; omega
      have hm := hr.more hlt
      have hcell := (hr k hlt).1
      have hz := (hr k hlt).2
      go_wp2_with fail
      go_roundw
      case rel =>
        refine ⟨k + 1, by omega, by go_num, hb.setCell hb1.size _, ?_⟩
        rw [cut_byte]
        exact hm
      case measure => simp [intOf]; omega
    · have hk9 : k = 4 := by omega
      subst hk9
      have hcv := conv_tail _ _ _ hr
      go_wp2_with fail
      go_ret
      exact ⟨rfl, hb⟩

/-- The first k of the four bytes. -/
def upto (c k : Nat) : List UInt8 := (four c).take k
theorem upto_more (c k : Nat) (hk : k < 4) : upto c (k + 1) = upto c k ++ [UInt8.ofNat (c / 256 ^ k % 256)] := by
  rcases (show k = 0 ∨ k = 1 ∨ k = 2 ∨ k = 3 by omega) with rfl | rfl | rfl | rfl <;> simp [upto, four]
theorem upto_len (c k : Nat) (hk : k ≤ 4) : (upto c k).length = k := by simp [upto, four_len]; omega

theorem upto_cells {w1 : World} {base : Nat} {v' : Value} {c k : Nat} (hk : k < 4) (h : w1.ownsRow base 5 1 v' (k + 1) (Bytes.bcells (upto c k) ++ [.int .u8 (((c / 256 ^ k : Nat) : Int) % 256)])) : w1.ownsRow base 5 1 v' (k + 1) (Bytes.bcells (upto c (k + 1))) := by
  rw [upto_more c k hk, Bytes.bcells_snoc, ofNat_byte (by omega)]
  exact h

set_option maxRecDepth 100000 in
set_option maxHeartbeats 1000000 in
theorem ref_Tail_any (s : ByteArray) (hs : s.size ≤ 1073741824) (w : World) :
    Calls Try.prog 22 #[.string s] w fun e w' => e = .returned (.string ⟨(tail s.data.toList).toArray⟩) ∧ Below w.heap.size w w' := by
  obtain ⟨i0, hi, hz0, hz1, hz2⟩ := info_parts Bytes.info_u8
  unfold tail
  have hc := sum_lt s.data.toList
  have hsm := fun W => ref_Sum_any s hs W
  generalize sum s.data.toList = c at hc hsm
  have HS := Lib.hid hsm
  clear hsm
  go_enter Try.func22, Try.ntmps22
  go_wp2_with (go_at_call 36; refine (HS.out _).mono ?_; rintro e w1 ⟨rfl, rfl⟩)
  go_loopw [3, 4, 5] (fun n v i wr => ∃ k : Nat, k ≤ 4 ∧ i = .int .i64 k ∧ n = .int .u32 ((c / 256 ^ k : Nat) : Int) ∧ Below w.heap.size w wr ∧ wr.ownsRow w.heap.size 5 1 v k (Bytes.bcells (upto c k))) (fun _ _ i _ => 4 - (intOf i).toNat)
  case atStart => exact ⟨0, by omega, rfl, by simp, Below.refl _ _, World.ownsRow_nil _ _ _ _⟩
  case round =>
    obtain ⟨k, hk, rfl, rfl, hb, hown⟩ := hrel
    by_cases hlt : k < 4
    · have hd : decide ((k : Int) < 4) = true := by simp; omega
      have hdiv : c / 256 ^ (k + 1) = c / 256 ^ k / 256 := by rw [Nat.pow_succ, Nat.div_div_eq_div_mul]
      have hle : c / 256 ^ k ≤ c := Nat.div_le_self _ _
      have hsz := hb.size
      have HD := Lib.hid hdiv
      have HU := Lib.hid (fun w1 v' => upto_cells (w1 := w1) (base := w.heap.size) (v' := v') (c := c) hlt)
      clear hdiv
      generalize c / 256 ^ k = d at *
      go_wp2_with (at_builtin; refine wpList_append_own _ rfl _ _ 42 rfl w.heap.size 5 i0 (.int .u8 0) 1 1 Try.underlying42 hi hz0 hz1 hz2 rfl (by decide) _ _ _ rfl (hown.alloc _) ⟨wr.heap.size, 0, none⟩ 1 1 [.int .u8 ((d : Int) % 256)] rfl rfl (cell_one_new _ _ _) (by simp [Value.oneCell']) (by simp only [maxLen]; omega) (by omega) (by simp; omega) ?_; intro v' w1 hown' hgrow _; have hb2 : Below w.heap.size w w1 := (hb.alloc hsz _).grown hgrow (by simp; omega) (fun k e => (hown.lt k e).1))
      go_roundw
      case rel => exact ⟨k + 1, by omega, by go_num, int_u32 (by rw [HD.out]; rfl), hb2, HU.out _ _ hown'⟩
      case measure => simp [intOf]; omega
    · have hk9 : k = 4 := by omega
      subst hk9
      have hcv := Bytes.conv_owned _ _ _ _ hown
      go_wp2_with fail
      go_ret
      exact ⟨rfl, hb⟩

theorem below_drewN {B : Nat} {a w : World} (h : Below B a w) (n : Nat) : Below B a (w.drewN n) := h.trans ⟨rfl, rfl, rfl, Nat.le_refl _, fun _ _ => rfl⟩

theorem good_short {l : List UInt8} (h : ¬ 4 ≤ l.length) : good l = false := by simp [good, h]
theorem good_long {l : List UInt8} (h : 4 ≤ l.length) : good l = (l.drop (l.length - 4) == tail (l.take (l.length - 4))) := by simp [good, h]

theorem good_cut (s : ByteArray) (m : Nat) (hm : s.size = m + 4) : good s.data.toList = ((s.extract m s.size).toList == tail (List.take m s.data.toList)) := by
  have hl : s.data.toList.length = m + 4 := hm
  have hd : List.take (s.size - m) (List.drop m s.data.toList) = List.drop m s.data.toList := List.take_of_length_le (by rw [List.length_drop, hl, hm]; omega)
  rw [good_long (by omega), ByteArray.toList_eq, Lib.extract_data, hl, Nat.add_sub_cancel, hd]

theorem beq_swap (a b : List UInt8) : (a == b) = (b == a) := by rw [Bool.eq_iff_iff, beq_iff_eq, beq_iff_eq]; exact ⟨Eq.symm, Eq.symm⟩

theorem ret_bool {p q : Bool} (h : p = q) : Ending.returned (.bool p) = .returned (.bool q) := by rw [h]

set_option maxRecDepth 100000 in
set_option maxHeartbeats 1000000 in
theorem Good_any (s : ByteArray) (hs : s.size ≤ 1073741824) (w : World) :
    Calls Try.prog 31 #[.string s] w fun e w' => e = .returned (.bool (good s.data.toList)) ∧ Below w.heap.size w w' := by
  by_cases h : 4 ≤ s.size
  · have hg := good_long (l := s.data.toList) (by simpa using h)
    have HG := Lib.hid hg
    clear hg
    obtain ⟨m, hm⟩ : ∃ m, s.size = m + 4 := ⟨s.size - 4, by omega⟩
    have hd : (s.size : Int) - 4 = (m : Int) := by omega
    have h0 : 0 ≤ (m : Int) := by omega
    have h1 : (m : Int) ≤ s.size := by omega
    have HM := Lib.hid hm
    have HX := Lib.hid (show (s.extract 0 m).size ≤ 1073741824 by simp; omega)
    clear hm
    go_enter Try.func31, Try.ntmps31
    go_wp2_with fail
    go_region_held3 (fun _ => True) (trivial) (first | (go_at_call 21; refine (Tail_any _ HX.out _).mono ?_; rintro e w1 ⟨rfl, hb1⟩))
    go_wp2
    go_ret
    refine ⟨ret_bool ?_, (Below.drew (Below.refl _ _)).trans hb1⟩
    exact (good_cut s m HM.out).symm
  · have hg := good_short (l := s.data.toList) (by simpa using h)
    have HG := Lib.hid hg
    clear hg
    have hd : decide (4 ≤ (s.size : Int)) = false := by simp; omega
    go_enter Try.func31, Try.ntmps31
    go_wp2_with fail
    go_quiet (fail)
    go_wp2_with fail
    go_ret
    exact ⟨ret_bool HG.out.symm, below_drewN (Below.refl _ _) _⟩

end Go.Proofs.Ythimplhfmamejaa.Crc