/-
  The digest of a text, walked: by the reference.
-/
import Derived.Test.YtidkakjghimimaaDoorShaSum
namespace Go.Proofs.YtidkakjghimimaaDoor.Sha
open Go.RowKit

/-- A block in the making. -/
def part (b : List UInt8) (i : Nat) : List UInt8 := b.take i ++ List.replicate (64 - i) 0
theorem part_zero (b : List UInt8) : part b 0 = b64 := by simp [part, b64]
theorem part_all {b : List UInt8} (h : b.length = 64) : part b 64 = b := by simp [part]; exact List.take_of_length_le (by omega)
theorem part_len {b : List UInt8} (h : b.length = 64) (i : Nat) (hi : i ≤ 64) : (part b i).length = 64 := by
  rw [part, List.length_append, List.length_take, List.length_replicate]; omega
theorem part_succ {b : List UInt8} (h : b.length = 64) (i : Nat) (hi : i < 64) : (part b i).set i (b.getD i 0) = part b (i + 1) := by
  unfold part
  rw [List.set_append_right _ _ (by rw [List.length_take]; omega), List.length_take, Nat.min_eq_left (by omega), Nat.sub_self, show 64 - i = (64 - (i + 1)) + 1 by omega, List.replicate_succ, List.set_cons_zero,
    List.take_succ_eq_append_getElem (by omega), List.append_assoc, List.getD_eq_getElem?_getD, List.getElem?_eq_getElem (by omega)]
  rfl
theorem blk_at (all : List UInt8) (n i : Nat) (hi : i < 64) : (blk all n).getD i 0 = all.getD (64 * n + i) 0 := by
  simp only [List.getD_eq_getElem?_getD]
  rw [blk, List.getElem?_take_of_lt hi, List.getElem?_drop]

set_option maxRecDepth 100000 in
set_option maxHeartbeats 1000000 in
theorem ref_Sum_any (s : ByteArray) (hs : s.size ≤ 1073741824) (w : World) :
    Calls Tryd.prog 11 #[.string s] w fun e w' => e = .returned (.string ⟨(sum s.data.toList).toArray⟩) ∧ Below w.heap.size w w' := by
  have hz := zero26
  have hz2 := zero27
  obtain ⟨P, hP⟩ : ∃ A : ByteArray, A = ⟨(pad s.size).toArray⟩ := ⟨_, rfl⟩
  have hPs : P.size ≤ 73 := by rw [hP, size_list, pad_len]; omega
  have hpad := fun W => ref_Pad_any s.size (by omega) W
  rw [← hP] at hpad
  have HPAD := Lib.hid hpad
  obtain ⟨A, hA⟩ : ∃ A, A = s ++ P := ⟨_, rfl⟩
  have hcat : s ++ P = A := hA.symm
  have hAd : A.data.toList = full s := by rw [hA, hP, full, ByteArray.data_append, Array.toList_append]
  have hAl : A.size = (full s).length := by rw [← hAd]; rfl
  have hAs : A.size ≤ 1073741900 := by rw [hA, ByteArray.size_append]; omega
  have h64 := full_len s
  obtain ⟨m, hm⟩ : ∃ m, m = (full s).length / 64 := ⟨_, rfl⟩
  have HM : Hid (A.size = 64 * m) := Lib.hid (by omega)
  have HS := Lib.hid (sum_full s)
  rw [← hm] at HS
  have HAD := Lib.hid hAd
  clear hpad hP hA hAd hAl h64 hm
  have HI : Hid ((Tryd.prog.info? 26).map (·.size) = some (u32s start).size) := Lib.hid (by rw [size26, u32s_size, start_len])
  have HO : Hid ((u32s z8).size = (u32s start).size) := Lib.hid (by rw [u32s_size, u32s_size]; rfl)
  have H1 : Hid ((u32s start).all (·.oneCell') = true) := Lib.hid (u32s_one start)
  go_enter Tryd.func11, Tryd.ntmps11
  go_upto_region 2 with (first | ((with_reducible refine (ref_Start_any _).mono ?_); rintro e w1 ⟨rfl, hb1⟩; have hR1 := Row.new w1 26 (u32s z8)) | ((with_reducible refine wpList_storeRow (op := ⟨none, .store 26 (.tmp 3) (.tmp 7), _, _, _, none⟩) rfl 26 (.tmp 3) (.tmp 7) rfl w1.heap.size ?_ (cs := u32s start) ?_ hR1 HI.out HO.out H1.out ?_); (rfl; rfl)))
  have hR2 := hR1.put (u32s start)
  have hB2 : Below w.heap.size w ((w1.alloc (.cells (u32s z8) 26)).setRow w1.heap.size (u32s start)) := below_setRow (hb1.alloc hb1.size _) hb1.size _
  have hn1 : w.heap.size ≤ w1.heap.size := hb1.size
  generalize (w1.alloc (.cells (u32s z8) 26)).setRow w1.heap.size (u32s start) = w2 at *
  generalize w1.heap.size = g3 at *
  clear hR1 hb1
  go_wp2_with (go_at_call 21; refine (HPAD.out _).mono ?_; rintro e w3 ⟨rfl, hb3⟩)
  have hR3 := hR2.below hb3 hR2.lt
  have hB3 := hB2.trans (hb3.mono hB2.size)
  clear hR2 hB2 hb3
  go_loopw [4] (fun a wr => ∃ n : Nat, n ≤ m ∧ a = .int .i64 ((64 * n : Nat) : Int) ∧ Below w.heap.size w wr ∧ Row wr g3 26 (u32s (fold (tells (full s) n)))) (fun a _ => 64 * m - (intOf a).toNat)
  case atStart => exact ⟨0, by omega, rfl, hB3, hR3⟩
  case round =>
    clear hR3 hB3
    obtain ⟨n, hn, rfl, hB3, hR3⟩ := hrel
    obtain ⟨t, ht⟩ : ∃ t, t = 64 * n := ⟨_, rfl⟩
    have hms := HM.out
    have hg3 := hR3.lt
    by_cases hlt : n < m
    · have hd1 : (t : Int) + 64 ≤ (A.size : Int) := by omega
      have hd2 : t + 64 ≤ A.size := by omega
      rw [← ht]
      have HT := Lib.hid ht
      have hbl : (blk (full s) n).length = 64 := blk_len (by rw [← HAD.out]; show 64 * n + 64 ≤ A.size; omega)
      clear ht hms
      go_wp2_with fail
      have hRn := Row.new wr 27 (u8s b64)
      rw [← part_zero (blk (full s) n)] at hRn ⊢
      have hBn := hB3.alloc hB3.size (.cells (u8s (part (blk (full s) n) 0)) 27)
      have hRa := hR3.alloc (.cells (u8s (part (blk (full s) n) 0)) 27)
      have hnb := hB3.size
      generalize wr.alloc (.cells (u8s (part (blk (full s) n) 0)) 27) = wx at *
      generalize wr.heap.size = g5 at *
      clear hB3 hR3
      go_loopw [6] (fun a wr => ∃ i : Nat, i ≤ 64 ∧ a = .int .i64 i ∧ Below w.heap.size w wr ∧ Row wr g3 26 (u32s (fold (tells (full s) n))) ∧ Row wr g5 27 (u8s (part (blk (full s) n) i))) (fun a _ => 64 - (intOf a).toNat)
      case atStart => exact ⟨0, by omega, rfl, hBn, hRa, hRn⟩
      case round =>
        clear hBn hRa hRn
        obtain ⟨i, hi, rfl, hB, hR3, hR5⟩ := hrel
        by_cases hli : i < 64
        · have hd3 : decide ((i : Int) < 64) = true := by simp; omega
          have hb64 : (i : Int) < 64 := by omega
          obtain ⟨q, hq⟩ : ∃ q, q = t + i := ⟨_, rfl⟩
          have q1 : (t : Int) + (i : Int) = (q : Int) := by omega
          have q2 : IntKind.i64.wrap (q : Int) = (q : Int) := IntWalk.i64_in _ (by omega)
          have hqs : q < A.size := by omega
          have hqi : (q : Int) < (A.size : Int) := by omega
          have hq0 : (0 : Int) ≤ (q : Int) := by omega
          have hv : A[q] = (blk (full s) n).getD i 0 := by
            rw [blk_at _ _ _ hli, ← HAD.out, ← HT.out, ← hq, List.getD_eq_getElem?_getD, List.getElem?_eq_getElem (by simpa using hqs)]; rfl
          have hp := part_succ hbl i hli
          rw [← hv] at hp
          have HP := Lib.hid hp
          have hc := hR5.byte i (by rw [part_len hbl i hi]; omega)
          have hf := hR5.frozen i
          clear hv hp hq
          go_wp2_with fail
          go_roundw
          case rel => exact ⟨i + 1, by omega, by go_num, hB.setCell (p := ⟨g5, i, none⟩) (by simpa using hnb) _, hR3.apart (by omega) _ _, by rw [← HP.out]; exact hR5.set8 i A[q]⟩
          case measure => simp [intOf]; omega
        · have hi9 : i = 64 := by omega
          subst hi9
          clear hi hli
          rw [part_all hbl] at hR5
          have hfl := fold_len (tells (full s) n)
          have hfw := fold_words (tells (full s) n)
          have HN : Hid (fold (tells (full s) (n + 1)) = block (fold (tells (full s) n)) (blk (full s) n)) := Lib.hid (by rw [tells_succ, fold_snoc])
          generalize fold (tells (full s) n) = f at *
          generalize blk (full s) n = xb at *
          have hfI : Hid ((Tryd.prog.info? 26).map (·.size) = some (u32s f).size) := Lib.hid (by rw [size26, u32s_size, hfl])
          have hxI : Hid ((Tryd.prog.info? 27).map (·.size) = some (u8s xb).size) := Lib.hid (by rw [size27, u8s_size, hbl])
          have hbI9 : Hid ((Tryd.prog.info? 26).map (·.size) = some (u32s (block f xb)).size) := Lib.hid (by rw [size26, u32s_size, block_len, hfl])
          have hbO : Hid ((u32s f).size = (u32s (block f xb)).size) := Lib.hid (by rw [u32s_size, u32s_size, block_len])
          have hb1 : Hid ((u32s (block f xb)).all (·.oneCell') = true) := Lib.hid (u32s_one _)
          have HBL := Lib.hid (fun W' => ref_Block_any f xb hfl hfw hbl W')
          have h3 := hR3.lt
          clear hfl hfw hbl
          go_wp2_with (first
            | ((with_reducible refine wpList_loadRow (op := ⟨some 31, .load 26 (.tmp 3), _, _, _, none⟩) rfl 26 (.tmp 3) rfl g3 ?_ hR3 Tryd.underlying26 rfl hfI.out ?_); rfl)
            | ((with_reducible refine wpList_loadRow (op := ⟨some 32, .load 27 (.tmp 5), _, _, _, none⟩) rfl 27 (.tmp 5) rfl g5 ?_ hR5 Tryd.underlying27 rfl hxI.out ?_); rfl))
          refine (HBL.out _).mono ?_
          rintro e w4 ⟨rfl, hb4⟩
          have hR4 := hR3.below hb4 h3
          have hR6 := hR4.put (u32s (block f xb))
          go_wp2_with (first
            | ((with_reducible refine wpList_storeRow (op := ⟨none, .store 26 (.tmp 3) (.tmp 33), _, _, _, none⟩) rfl 26 (.tmp 3) (.tmp 33) rfl g3 ?_ (cs := u32s (block f xb)) ?_ hR4 hbI9.out hbO.out hb1.out ?_); (rfl; rfl)))
          go_roundw
          case rel => exact ⟨n + 1, by omega, int_i64 (by have := HT.out; omega), below_setRow (hB.trans (hb4.mono hB.size)) hn1 _, by rw [HN.out]; exact hR6⟩
          case measure => have := HT.out; simp [intOf]; omega
    · have hn9 : n = m := by omega
      subst hn9
      have hd1 : decide ((t : Int) + 64 ≤ (A.size : Int)) = false := by simp; omega
      have hd2 : ¬ t + 64 ≤ A.size := by omega
      have hd3 : A.size < t + 64 := by omega
      have ht9 : t ≤ 1073741900 := by omega
      rw [← ht]
      have HT := Lib.hid ht
      clear ht hms
      have hfl := fold_len (tells (full s) n)
      have hfw := fold_words (tells (full s) n)
      generalize fold (tells (full s) n) = f at *
      have hfI : Hid ((Tryd.prog.info? 26).map (·.size) = some (u32s f).size) := Lib.hid (by rw [size26, u32s_size, hfl])
      have HBY := Lib.hid (fun W' => ref_Bytes_any f hfl hfw W')
      clear hfl hfw
      go_wp2_with (first
        | ((with_reducible refine wpList_loadRow (op := ⟨some 34, .load 26 (.tmp 3), _, _, _, none⟩) rfl 26 (.tmp 3) rfl g3 ?_ hR3 Tryd.underlying26 rfl hfI.out ?_); rfl))
      refine (HBY.out _).mono ?_
      rintro e w4 ⟨rfl, hb4⟩
      go_wp2_with fail
      go_ret
      exact ⟨ret_str (by rw [HS.out]), hB3.trans (hb4.mono hB3.size)⟩

end Go.Proofs.YtidkakjghimimaaDoor.Sha
