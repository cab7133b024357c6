/-
  The statement ShaSteps, walked: a digest is told block by block.
-/
import Derived.Test.YtidkakjghimimaaDoorShaLaws
namespace Go.Proofs.YtidkakjghimimaaDoor.Sha
open Go.RowKit

/-- The operation behind a guard that holds. -/
theorem wpList_loadRowG {P : Program} {ops : Array Oper} {rest : List Oper} {op : Oper} {a : Act} {w : World} {Q : Exit → Act → World → Prop} (ty : TypeId) (x : Operand) (ho : op.op = .load ty x)
    (g : Nat) (hw : Region.wanted op (yielded ops a.tmps) = true) (hx : a.eval x = .pointer (some ⟨g, 0, none⟩)) {t : TypeId} {cs : Array Value} (hr : Row w g t cs) {d : TypeDesc}
    (hu : P.underlying ty = some d) (hd : d.isRow = true) (hi : (P.info? ty).map (·.size) = some cs.size)
    (h : wpList P ops Q rest (a.put op.dst (.agg cs)) w) : wpList P ops Q (op :: rest) a w := by
  refine BigFrame.wpList_want hw fun _ hK => ?_
  unfold Oper.wp execOp
  simp only [ho, hx, Sem.run_bind, hr.load d hu hd hi, Result.andThen_ok]
  exact hK _ _ h

set_option maxRecDepth 100000 in
set_option maxHeartbeats 1000000 in
theorem shaSteps_walk (s : ByteArray) (_hs : s.size ≤ maxLen) (w : World) (hG : Cubes w) :
    Calls Tryd.prog 6 #[.string s] w fun e w' => e = .returned (.bool true) ∧ Below w.heap.size w w' := by
  by_cases hs : 500 < s.size
  · go_enter Tryd.func6, Tryd.ntmps6
    go_wp2_with (go_at_call 9; refine (works_any _ hG).mono ?_; rintro e w1 ⟨rfl, hb1⟩)
    go_ret
    exact ⟨rfl, hb1⟩
  · have hz := zero29
    have hz2 := zero27
    obtain ⟨P, hP⟩ : ∃ A : ByteArray, A = ⟨(pad s.size).toArray⟩ := ⟨_, rfl⟩
    have hPs : P.size ≤ 73 := by rw [hP, size_list, pad_len]; omega
    have hpad := fun W => Pad_any s.size (by omega) W
    rw [← hP] at hpad
    have HPAD := Lib.hid hpad
    obtain ⟨A, hA⟩ : ∃ A, A = s ++ P := ⟨_, rfl⟩
    have hcat : s ++ P = A := hA.symm
    have hAd : A.data.toList = full s := by rw [hA, hP, full, ByteArray.data_append, Array.toList_append]
    have hAl : A.size = (full s).length := by rw [← hAd]; rfl
    have hAs : A.size ≤ 1000 := by rw [hA, ByteArray.size_append]; omega
    have h64 := full_len s
    obtain ⟨m, hm⟩ : ∃ m, m = (full s).length / 64 := ⟨_, rfl⟩
    have HM : Hid (A.size = 64 * m) := Lib.hid (by omega)
    obtain ⟨D, hD⟩ : ∃ D : ByteArray, D = ⟨(sum s.data.toList).toArray⟩ := ⟨_, rfl⟩
    have HS : Hid ((⟨(bytes (fold (tells (full s) m))).toArray⟩ : ByteArray) = D) := Lib.hid (by rw [hD, sum_full, hm])
    have hsum : ∀ W, Cubes W → _ := fun W hW => Sum_any s (by omega) W hW
    rw [← hD] at hsum
    have HSUM := Lib.hid hsum
    have HAD := Lib.hid hAd
    have hmod : ((A.size : Int) % 64 != 0) = false := by rw [bne_eq_false_iff_eq]; omega
    clear hpad hP hA hAd hAl h64 hm hD hsum
    have HI : Hid ((Tryd.prog.info? 29).map (·.size) = some (u32s start).size) := Lib.hid (by rw [size29, u32s_size, start_len])
    have HO : Hid ((u32s z8).size = (u32s start).size) := Lib.hid (by rw [u32s_size, u32s_size]; rfl)
    have H1 : Hid ((u32s start).all (·.oneCell') = true) := Lib.hid (u32s_one start)
    go_enter Tryd.func6, Tryd.ntmps6
    go_wp2_with (first | (go_at_call 9; refine (works_any _ hG).mono ?_; rintro e w0 ⟨rfl, hb0⟩) | (go_at_call 20; refine (HPAD.out _).mono ?_; rintro e w1 ⟨rfl, hb1⟩))
    refine (Start_any _).mono ?_
    rintro e w2 ⟨rfl, hb2⟩
    have hB2 := below2 (below2 hb0 hb1) hb2
    have hR1 := Row.new w2 29 (u32s z8)
    go_wp2_with ((with_reducible refine wpList_storeRow (op := ⟨none, .store 29 (.tmp 5) (.tmp 25), _, _, _, none⟩) rfl 29 (.tmp 5) (.tmp 25) rfl w2.heap.size ?_ (cs := u32s start) ?_ hR1 HI.out HO.out H1.out ?_); (rfl; rfl))
    have hR3 := hR1.put (u32s start)
    have hB3 : Below w.heap.size w ((w2.alloc (.cells (u32s z8) 29)).setRow w2.heap.size (u32s start)) := below_setRow (hB2.alloc hB2.size _) hB2.size _
    have hn1 : w.heap.size ≤ w2.heap.size := hB2.size
    generalize (w2.alloc (.cells (u32s z8) 29)).setRow w2.heap.size (u32s start) = w3 at *
    generalize w2.heap.size = g3 at *
    clear hR1 hb0 hb1 hb2 hB2
    go_loopw [6] (fun a wr => ∃ n : Nat, n ≤ m ∧ a = .int .i64 ((64 * n : Nat) : Int) ∧ Below w.heap.size w wr ∧ Row wr g3 29 (u32s (fold (tells (full s) n)))) (fun a _ => 64 * m - (intOf a).toNat)
    case atStart => exact ⟨0, by omega, rfl, hB3, hR3⟩
    case round =>
      clear hR3 hB3
      obtain ⟨n, hn, rfl, hB3, hR3⟩ := hrel
      obtain ⟨t, ht⟩ : ∃ t, t = 64 * n := ⟨_, rfl⟩
      have hms := HM.out
      have hg3 := hR3.lt
      by_cases hlt : n < m
      · have hd1 : (t : Int) + 64 ≤ (A.size : Int) := by omega
        have hd2 : t + 64 ≤ A.size := by omega
        have ht9 : t ≤ 1000 := by omega
        rw [← ht]
        have HT := Lib.hid ht
        have hbl : (blk (full s) n).length = 64 := blk_len (by rw [← HAD.out]; show 64 * n + 64 ≤ A.size; omega)
        clear ht hms
        go_wp2_with fail
        have hRn := Row.new wr 27 (u8s b64)
        rw [← part_zero (blk (full s) n)] at hRn ⊢
        have hBn := hB3.alloc hB3.size (.cells (u8s (part (blk (full s) n) 0)) 27)
        have hRa := hR3.alloc (.cells (u8s (part (blk (full s) n) 0)) 27)
        have hnb := hB3.size
        generalize wr.alloc (.cells (u8s (part (blk (full s) n) 0)) 27) = wx at *
        generalize wr.heap.size = g5 at *
        clear hB3 hR3
        go_loopw [8] (fun a wr => ∃ i : Nat, i ≤ 64 ∧ a = .int .i64 i ∧ Below w.heap.size w wr ∧ Row wr g3 29 (u32s (fold (tells (full s) n))) ∧ Row wr g5 27 (u8s (part (blk (full s) n) i))) (fun a _ => 64 - (intOf a).toNat)
        case atStart => exact ⟨0, by omega, rfl, hBn, hRa, hRn⟩
        case round =>
          clear hBn hRa hRn
          obtain ⟨i, hi, rfl, hB, hR3, hR5⟩ := hrel
          by_cases hli : i < 64
          · have hd3 : decide ((i : Int) < 64) = true := by simp; omega
            have hb64 : (i : Int) < 64 := by omega
            obtain ⟨q, hq⟩ : ∃ q, q = t + i := ⟨_, rfl⟩
            have q1 : (t : Int) + (i : Int) = (q : Int) := by omega
            have q2 : IntKind.i64.wrap (q : Int) = (q : Int) := IntWalk.i64_in _ (by omega)
            have hqs : q < A.size := by omega
            have hqi : (q : Int) < (A.size : Int) := by omega
            have hq0 : (0 : Int) ≤ (q : Int) := by omega
            have hv : A[q] = (blk (full s) n).getD i 0 := by
              rw [blk_at _ _ _ hli, ← HAD.out, ← HT.out, ← hq, List.getD_eq_getElem?_getD, List.getElem?_eq_getElem (by simpa using hqs)]; rfl
            have hp := part_succ hbl i hli
            rw [← hv] at hp
            have HP := Lib.hid hp
            have hc := hR5.byte i (by rw [part_len hbl i hi]; omega)
            have hf := hR5.frozen i
            clear hv hp hq
            go_wp2_with fail
            go_roundw
            case rel => exact ⟨i + 1, by omega, by go_num, hB.setCell (p := ⟨g5, i, none⟩) (by simpa using hnb) _, hR3.apart (by omega) _ _, by rw [← HP.out]; exact hR5.set8 i A[q]⟩
            case measure => simp [intOf]; omega
          · have hi9 : i = 64 := by omega
            subst hi9
            clear hi hli
            rw [part_all hbl] at hR5
            have hfl := fold_len (tells (full s) n)
            have hfw := fold_words (tells (full s) n)
            have HN : Hid (fold (tells (full s) (n + 1)) = block (fold (tells (full s) n)) (blk (full s) n)) := Lib.hid (by rw [tells_succ, fold_snoc])
            generalize fold (tells (full s) n) = f at *
            generalize blk (full s) n = xb at *
            have hfI : Hid ((Tryd.prog.info? 29).map (·.size) = some (u32s f).size) := Lib.hid (by rw [size29, u32s_size, hfl])
            have hxI : Hid ((Tryd.prog.info? 27).map (·.size) = some (u8s xb).size) := Lib.hid (by rw [size27, u8s_size, hbl])
            have hbI9 : Hid ((Tryd.prog.info? 29).map (·.size) = some (u32s (block f xb)).size) := Lib.hid (by rw [size29, u32s_size, block_len, hfl])
            have hbO : Hid ((u32s f).size = (u32s (block f xb)).size) := Lib.hid (by rw [u32s_size, u32s_size, block_len])
            have hb1 : Hid ((u32s (block f xb)).all (·.oneCell') = true) := Lib.hid (u32s_one _)
            have hGr := hG.below hB
            have HBL := Lib.hid (fun W' (hW' : Cubes W') => Block_any f xb hfl hfw hbl W' hW')
            have h3 := hR3.lt
            clear hfl hfw hbl
            go_wp2_with (first
              | ((with_reducible refine wpList_loadRow (op := ⟨some 44, .load 29 (.tmp 5), _, _, _, none⟩) rfl 29 (.tmp 5) rfl g3 ?_ hR3 Tryd.underlying29 rfl hfI.out ?_); rfl)
              | ((with_reducible refine wpList_loadRow (op := ⟨some 45, .load 27 (.tmp 7), _, _, _, none⟩) rfl 27 (.tmp 7) rfl g5 ?_ hR5 Tryd.underlying27 rfl hxI.out ?_); rfl))
            refine (HBL.out _ hGr).mono ?_
            rintro e w4 ⟨rfl, hb4⟩
            have hR4 := hR3.below hb4 h3
            have hR6 := hR4.put (u32s (block f xb))
            go_wp2_with (first
              | ((with_reducible refine wpList_storeRow (op := ⟨none, .store 29 (.tmp 5) (.tmp 46), _, _, _, none⟩) rfl 29 (.tmp 5) (.tmp 46) rfl g3 ?_ (cs := u32s (block f xb)) ?_ hR4 hbI9.out hbO.out hb1.out ?_); (rfl; rfl)))
            go_roundw
            case rel => exact ⟨n + 1, by omega, int_i64 (by have := HT.out; omega), below_setRow (hB.trans (hb4.mono hB.size)) hn1 _, by rw [HN.out]; exact hR6⟩
            case measure => have := HT.out; simp [intOf]; omega
      · have hn9 : n = m := by omega
        subst hn9
        have hd1 : decide ((t : Int) + 64 ≤ (A.size : Int)) = false := by simp; omega
        have hd2 : ¬ t + 64 ≤ A.size := by omega
        have hd3 : A.size < t + 64 := by omega
        have ht9 : t ≤ 1000 := by omega
        rw [← ht]
        have HT := Lib.hid ht
        clear ht hms
        have hfl := fold_len (tells (full s) n)
        have hfw := fold_words (tells (full s) n)
        generalize fold (tells (full s) n) = f at *
        have hfI : Hid ((Tryd.prog.info? 29).map (·.size) = some (u32s f).size) := Lib.hid (by rw [size29, u32s_size, hfl])
        have hby := fun W' => Bytes_any f hfl hfw W'
        rw [HS.out] at hby
        have HBY := Lib.hid hby
        have hGr := hG.below hB3
        clear hfl hfw hby
        go_wp2_with (first
          | ((with_reducible refine wpList_loadRowG (op := ⟨some 49, .load 29 (.tmp 5), _, _, _, _⟩) 29 (.tmp 5) rfl g3 ?_ ?_ hR3 Tryd.underlying29 rfl hfI.out ?_); (rfl; rfl)))
        refine (HBY.out _).mono ?_
        rintro e w4 ⟨rfl, hb4⟩
        have hG4 := hGr.below hb4
        go_wp2_with fail
        refine (HSUM.out _ hG4).mono ?_
        rintro e w5 ⟨rfl, hb5⟩
        go_wp2_with fail
        go_ret
        exact ⟨rfl, below2 (below2 hB3 hb4) hb5⟩

end Go.Proofs.YtidkakjghimimaaDoor.Sha
