/-
  What is put behind a text, walked: by the program and by the reference.
-/
import Derived.Test.YtidkakjghimimaaDoorShaBytes
namespace Go.Proofs.YtidkakjghimimaaDoor.Sha
open Go.RowKit

set_option maxRecDepth 100000 in
set_option maxHeartbeats 1000000 in
theorem Pad_neg (n : Int) (hn : n < 0) (w : World) :
    Calls Tryd.prog 20 #[.int .i64 n] w fun e w' => e = .returned (.string ByteArray.empty) ∧ w = w' := by
  go_enter Tryd.func20, Tryd.ntmps20
  go_wp2_with fail
  go_ret
  exact ⟨rfl, rfl⟩
theorem ref_Pad_neg (n : Int) (hn : n < 0) (w : World) :
    Calls Tryd.prog 21 #[.int .i64 n] w fun e w' => e = .returned (.string ByteArray.empty) ∧ w = w' := by
  go_enter Tryd.func21, Tryd.ntmps21
  go_wp2_with fail
  go_ret
  exact ⟨rfl, rfl⟩

set_option maxRecDepth 100000 in
set_option maxHeartbeats 1000000 in
theorem Pad_any (n : Nat) (hn : n ≤ 9223372036854775807) (w : World) :
    Calls Tryd.prog 20 #[.int .i64 (n : Int)] w fun e w' => e = .returned (.string ⟨(pad n).toArray⟩) ∧ Below w.heap.size w w' := by
  have h0 : decide ((n : Int) < 0) = false := by simp
  obtain ⟨r, hr⟩ : ∃ r, r = n % 64 := ⟨_, rfl⟩
  obtain ⟨m, hm⟩ : ∃ m, m = (119 - r) % 64 := ⟨_, rfl⟩
  have hp : pad n = (128 :: List.replicate m 0) ++ four (8 * n / 4294967296 % 4294967296) ++ four (8 * n % 4294967296) := by
    rw [hm, hr]; simp [pad, List.append_assoc]
  have HP := Lib.hid hp
  clear hp
  have a0 : (n : Int) % 64 = (r : Int) := by omega
  have a1 : (119 - (r : Int)) % 64 = (m : Int) := by omega
  have hm64 : m < 64 := by omega
  have hr64 : r < 64 := by omega
  clear hm hr
  obtain ⟨k1, hk1⟩ : ∃ k, k = m + 1 := ⟨_, rfl⟩
  obtain ⟨k9, hk9⟩ : ∃ k, k = m + 9 := ⟨_, rfl⟩
  have a2 : 1 + (m : Int) = (k1 : Int) := by omega
  have a3 : (k1 : Int) + 8 = (k9 : Int) := by omega
  obtain ⟨i0, hi, hz0, hz1, hz2⟩ := info_parts Bytes.info_u8
  have hmk : ∀ W, (Instr.makeSlice 44 (.int .i64 (k1 : Int)) (.int .i64 (k9 : Int))).run Tryd.prog W = .ok (.slice (some ⟨W.heap.size, 0, none⟩) k1 k9) (W.alloc (.cells (madeCells #[.int .u8 0] k9) 5)) := fun W => by
    have h := run_make (P := Tryd.prog) W 44 5 i0 (.int .u8 0) Tryd.underlying44 hi hz0 .i64 .i64 (k1 : Int) (k9 : Int) (by omega) (by omega) (by rw [hz2]; omega) (by omega)
    simpa [hz1, Value.cells] using h
  have hO : ∀ W : World, Owns (W.alloc (.cells ((madeCells #[.int .u8 0] k9).setIfInBounds 0 (.int .u8 128)) 5)) W.heap.size (.slice (some ⟨W.heap.size, 0, none⟩) k1 k9) (128 :: List.replicate m 0) := fun W => by
    have h : (W.alloc (.cells (madeCells #[.int .u8 0] k9) 5)).ownsRow W.heap.size 5 1 (.slice (some ⟨W.heap.size, 0, none⟩) k1 k9) k1 (List.replicate k1 (.int .u8 0)) :=
      ⟨by simp, .inr ⟨W.heap.size, k9, madeCells #[.int .u8 0] k9, rfl, Nat.le_refl _, heap_alloc_new W _, by omega, by simp only [maxLen]; omega, by rw [size_madeCells]; omega, by rw [toList_madeCells_one, Nat.mul_one, List.take_replicate, Nat.min_eq_left (by omega)]⟩⟩
    have h2 := (h.stored 0 (.int .u8 128)).1
    rw [World.setCell_alloc_at _ _ _ _ _ rfl] at h2
    unfold Owns
    have e1 : (128 :: List.replicate m (0 : UInt8)).length = k1 := by simp [hk1]
    have e2 : Bytes.bcells (128 :: List.replicate m (0 : UInt8)) = (List.replicate k1 (Value.int .u8 0)).set 0 (.int .u8 128) := by
      rw [hk1, List.replicate_succ, List.set_cons_zero]; simp [Bytes.bcells, Bytes.nums]
    rw [e1, e2]
    exact h2
  have hcell : ∀ W : World, (W.alloc (.cells (madeCells #[.int .u8 0] k9) 5)).cell? ⟨W.heap.size, 0, none⟩ = some (.int .u8 0) := fun W => by
    rw [cell_of_row _ _ 0 _ _ _ (heap_alloc_new W _)]
    have := toList_madeCells_one (.int .u8 0) k9
    rw [← Array.getElem?_toList, this, List.getElem?_replicate, if_pos (by omega)]
  have hlen : (128 :: List.replicate m (0 : UInt8)).length ≤ 100 := by simp; omega
  have b0 : (0 : Int) < (k1 : Int) := by omega
  obtain ⟨c, hc⟩ : ∃ c, c = 8 * n % 18446744073709551616 := ⟨_, rfl⟩
  obtain ⟨d1, hd1⟩ : ∃ d, d = 8 * n / 4294967296 % 4294967296 := ⟨_, rfl⟩
  obtain ⟨d2, hd2⟩ : ∃ d, d = 8 * n % 4294967296 := ⟨_, rfl⟩
  rw [← hd1, ← hd2] at HP
  have g0 : IntKind.u64.wrap (8 * (n : Int)) = (c : Int) := by rw [IntKind.wrap_u64]; omega
  have g3 : (d1 : Int) % 4294967296 = (d1 : Int) := by omega
  have g1 : (c : Int) / 4294967296 = (d1 : Int) := by omega
  have g2 : (c : Int) % 4294967296 = (d2 : Int) := by omega
  have l1 : d1 < 4294967296 := by omega
  have l2 : d2 < 4294967296 := by omega
  have lc : c ≤ 18446744073709551615 := by omega
  generalize 128 :: List.replicate m (0 : UInt8) = l at *
  clear hk1 hk9 hc hd1 hd2
  go_enter Tryd.func20, Tryd.ntmps20
  go_wp2_with (go_at_call 28; (with_reducible refine (put_any w.heap.size _ l (by omega) d1 l1 _ (by simp) (hO w)).mono ?_); rintro e w2 ⟨v2, rfl, hO2, hB2⟩)
  go_wp2_with (go_at_call 28; (with_reducible refine (put_any w.heap.size _ (l ++ four d1) (by rw [List.length_append, four_len]; omega) d2 l2 _ (by have := hB2.size; simp at this; omega) hO2).mono ?_); rintro e w3 ⟨v3, rfl, hO3, hB3⟩; have hcv := Bytes.conv_owned _ _ _ _ hO3)
  go_ret
  exact ⟨ret_str (by rw [HP.out, List.append_assoc]), (((Below.refl _ w).alloc (Nat.le_refl _) _).trans hB2).trans hB3⟩

/-- The low bytes of a number, the highest first. -/
def lows (c : Nat) : Nat → List UInt8
  | 0 => []
  | i + 1 => UInt8.ofNat (c / 256 ^ i % 256) :: lows c i
theorem lows_len (c : Nat) : ∀ i, (lows c i).length = i
  | 0 => rfl
  | i + 1 => by rw [lows, List.length_cons, lows_len c i]
theorem ofNat_mod (a : Nat) : UInt8.ofNat (a % 256) = UInt8.ofNat a := by
  apply UInt8.toNat_inj.1; simp
theorem ofNat_eq {a b : Nat} (h : a % 256 = b % 256) : UInt8.ofNat a = UInt8.ofNat b := by
  apply UInt8.toNat_inj.1; simpa using h
theorem lows_eight (c : Nat) : lows c 8 = four (c / 4294967296 % 4294967296) ++ four (c % 4294967296) := by
  simp only [lows, four, List.cons_append, List.nil_append, ofNat_mod]
  rw [show (256 : Nat) ^ 7 = 72057594037927936 from rfl, show (256 : Nat) ^ 6 = 281474976710656 from rfl, show (256 : Nat) ^ 5 = 1099511627776 from rfl, show (256 : Nat) ^ 4 = 4294967296 from rfl, show (256 : Nat) ^ 3 = 16777216 from rfl, show (256 : Nat) ^ 2 = 65536 from rfl, show (256 : Nat) ^ 1 = 256 from rfl, show (256 : Nat) ^ 0 = 1 from rfl]
  congr 1
  · exact ofNat_eq (by omega)
  congr 1
  · exact ofNat_eq (by omega)
  congr 1
  · exact ofNat_eq (by omega)
  congr 1
  · exact ofNat_eq (by omega)
  congr 1
  · exact ofNat_eq (by omega)
  congr 1
  · exact ofNat_eq (by omega)
  congr 1
  · exact ofNat_eq (by omega)
  congr 1
  exact ofNat_eq (by omega)

theorem conv_byte (W : World) (g : Nat) (y : Nat) (hy : y < 256) (hr : Row W g 5 #[.int .u8 (y : Int)]) :
    (convert 44 9 (.slice (some ⟨g, 0, none⟩) 1 1)).run Tryd.prog W = .ok (.string ⟨#[UInt8.ofNat y]⟩) W := by
  rw [run_convert_bytes_arg W _ _ Tryd.underlying44 Tryd.underlying5 g 0 1 1 [(y : Int)] rfl ?_ _ Tryd.underlying9]
  · have h := Bytes.str_nums [UInt8.ofNat y]
    have e : Bytes.nums [UInt8.ofNat y] = [(y : Int)] := by simp [Bytes.nums]; omega
    rw [e] at h
    rw [h]
  · intro i hi
    have : i = 0 := by omega
    subst this
    rw [Nat.zero_add, hr.cell]; rfl

theorem size_list (l : List UInt8) : (⟨l.toArray⟩ : ByteArray).size = l.length := by simp [ByteArray.size]
theorem append_list (a b : List UInt8) : (⟨a.toArray⟩ ++ ⟨b.toArray⟩ : ByteArray) = ⟨(a ++ b).toArray⟩ := by apply ByteArray.ext; simp

set_option maxRecDepth 100000 in
set_option maxHeartbeats 1000000 in
theorem ref_Pad_any (n : Nat) (hn : n ≤ 9223372036854775807) (w : World) :
    Calls Tryd.prog 21 #[.int .i64 (n : Int)] w fun e w' => e = .returned (.string ⟨(pad n).toArray⟩) ∧ Below w.heap.size w w' := by
  have h0 : decide ((n : Int) < 0) = false := by simp
  obtain ⟨r, hr⟩ : ∃ r, r = n % 64 := ⟨_, rfl⟩
  obtain ⟨m, hm⟩ : ∃ m, m = (119 - r) % 64 := ⟨_, rfl⟩
  have hp : pad n = (128 :: List.replicate m 0) ++ lows (8 * n % 18446744073709551616) 8 := by
    rw [hm, hr, lows_eight, show 8 * n % 18446744073709551616 / 4294967296 % 4294967296 = 8 * n / 4294967296 % 4294967296 by omega, show 8 * n % 18446744073709551616 % 4294967296 = 8 * n % 4294967296 by omega]; simp [pad]
  have HP := Lib.hid hp
  clear hp
  have a0 : (n : Int) % 64 = (r : Int) := by omega
  have hm64 : m < 64 := by omega
  have hr64 : r < 64 := by omega
  have HR := Lib.hid hr
  have HMm := Lib.hid hm
  clear hr hm
  go_enter Tryd.func21, Tryd.ntmps21
  go_wp2_with fail
  go_loop [3] (fun s => ∃ k : Nat, k ≤ m ∧ s = .string ⟨(128 :: List.replicate k (0 : UInt8)).toArray⟩) (fun s => m + 1 - (match s with | .string b => b.size | _ => 0))
  case atStart => exact ⟨0, by omega, rfl⟩
  case round =>
    obtain ⟨k, hk, hs⟩ := hrel
    obtain ⟨S, hS⟩ : ∃ S : ByteArray, S = ⟨(128 :: List.replicate k (0 : UInt8)).toArray⟩ := ⟨_, rfl⟩
    rw [← hS] at hs
    subst hs
    have hz : S.size = k + 1 := by rw [hS, size_list]; simp
    have HZ := Lib.hid hz
    have hz1 : S.size ≤ 100 := by omega
    have hr := HR.out
    have hm := HMm.out
    obtain ⟨q, hq⟩ : ∃ q, q = r + S.size := ⟨_, rfl⟩
    have q1 : IntKind.i64.wrap ((n : Int) % 64 + (S.size : Int)) = (q : Int) := by rw [IntKind.wrap_i64]; omega
    have q2 : IntKind.i64.wrap ((r : Int) + (S.size : Int)) = (q : Int) := by rw [IntKind.wrap_i64]; omega
    have q3 : (r : Int) + (S.size : Int) = (q : Int) := by omega
    by_cases hlt : k < m
    · have ht : ((q : Int) % 64 != 56) = true := by rw [bne_iff_ne]; omega
      have hj : S ++ ⟨#[0]⟩ = ⟨(128 :: List.replicate (k + 1) (0 : UInt8)).toArray⟩ := by
        rw [hS, show (⟨#[0]⟩ : ByteArray) = ⟨[(0 : UInt8)].toArray⟩ from rfl, append_list, List.cons_append, ← List.replicate_succ']
      have HJ := Lib.hid hj
      clear hj
      clear hS hz hq hr hm
      go_wp2_with fail
      go_round
      case rel => exact ⟨k + 1, by omega, by rw [HJ.out]⟩
      case measure =>
        show m + 1 - (S ++ (⟨#[0]⟩ : ByteArray)).size < m + 1 - S.size
        rw [ByteArray.size_append, show (⟨#[0]⟩ : ByteArray).size = 1 from rfl, HZ.out]
        omega
    · have hk9 : k = m := by omega
      subst hk9
      have ht : ((q : Int) % 64 != 56) = false := by rw [bne_eq_false_iff_eq]; omega
      have HS := Lib.hid hS
      obtain ⟨c, hc⟩ : ∃ c, c = 8 * n % 18446744073709551616 := ⟨_, rfl⟩
      rw [← hc] at HP
      have g0 : IntKind.u64.wrap ((n : Int) * 8) = (c : Int) := by rw [IntKind.wrap_u64]; omega
      have hcl : c < 18446744073709551616 := by omega
      clear hS hz hq hr hm hc
      go_wp2_with fail
      go_loopw [4, 5, 6] (fun u s i wr => ∃ j : Nat, j ≤ 8 ∧ i = .int .i64 j ∧ u = .int .u64 ((c / 256 ^ j : Nat) : Int) ∧ s = .string ⟨(lows c j).toArray⟩ ∧ Below w.heap.size w wr) (fun _ _ i _ => 8 - (intOf i).toNat)
      case atStart => exact ⟨0, by omega, rfl, by simp, rfl, Below.refl _ _⟩
      case round =>
        obtain ⟨j, hj, rfl, rfl, hs, hB⟩ := hrel
        obtain ⟨S2, hS2⟩ : ∃ S : ByteArray, S = ⟨(lows c j).toArray⟩ := ⟨_, rfl⟩
        rw [← hS2] at hs
        subst hs
        have hz2 : S2.size = j := by rw [hS2, size_list, lows_len]
        have hle : S2.size ≤ 8 := by omega
        by_cases hlt : j < 8
        · have hd : decide ((j : Int) < 8) = true := by simp; omega
          have hd1 : c / 256 ^ (j + 1) = c / 256 ^ j / 256 := by rw [Nat.pow_succ, Nat.div_div_eq_div_mul]
          have HD := Lib.hid hd1
          have hdl : c / 256 ^ j < 18446744073709551616 := Nat.lt_of_le_of_lt (Nat.div_le_self _ _) hcl
          have hj2 : (⟨#[UInt8.ofNat (c / 256 ^ j % 256)]⟩ : ByteArray) ++ S2 = ⟨(lows c (j + 1)).toArray⟩ := by
            rw [hS2, show (⟨#[UInt8.ofNat (c / 256 ^ j % 256)]⟩ : ByteArray) = ⟨[UInt8.ofNat (c / 256 ^ j % 256)].toArray⟩ from rfl, append_list]; rfl
          generalize c / 256 ^ j = d at *
          obtain ⟨y, hy⟩ : ∃ y, y = d % 256 := ⟨_, rfl⟩
          rw [← hy] at hj2
          have y1 : (d : Int) % 256 = (y : Int) := by omega
          have y2 : (y : Int) % 256 = (y : Int) := by omega
          have hy6 : y < 256 := by omega
          have hcv := conv_byte (wr.alloc (.cells #[.int .u8 (y : Int)] 5)) wr.heap.size y hy6 (Row.new _ _ _)
          obtain ⟨S3, hS3⟩ : ∃ S : ByteArray, S = ⟨#[UInt8.ofNat y]⟩ := ⟨_, rfl⟩
          rw [← hS3] at hj2 hcv
          have hz3 : S3.size ≤ 1 := by rw [hS3]; exact Nat.le_refl 1
          have HJ := Lib.hid hj2
          clear hj2 hS3 hy hS2 hd1 hz2 hcl
          go_wp2_with fail
          go_roundw
          case rel => exact ⟨j + 1, by omega, by go_num, by rw [HD.out]; simp, by rw [HJ.out], hB.alloc hB.size _⟩
          case measure => simp [intOf]; omega
        · have hj9 : j = 8 := by omega
          subst hj9
          have hz1' : S.size + S2.size ≤ 9223372036854775807 := by omega
          have HJ : Hid (pad n = (128 :: List.replicate k 0) ++ lows c 8) := HP
          have hcat : S ++ S2 = ⟨(pad n).toArray⟩ := by rw [HS.out, hS2, append_list, HP.out]
          have HC := Lib.hid hcat
          clear hcat hS2 hz2
          go_wp2_with fail
          go_ret
          exact ⟨ret_str HC.out, hB⟩

end Go.Proofs.YtidkakjghimimaaDoor.Sha
