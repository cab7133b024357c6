/-
  A block's words, walked: by the reference.
-/
import Derived.Test.YtidkakjghimimaaDoorShaWords
namespace Go.Proofs.YtidkakjghimimaaDoor.Sha
open Go.RowKit

set_option maxRecDepth 100000 in
set_option maxHeartbeats 1000000 in
theorem ref_words_any (b : List UInt8) (hb : b.length = 64) (w : World) :
    Calls Tryd.prog 25 #[.agg (u8s b)] w fun e w' => e = .returned (.agg (u32s (words b))) ∧ Below w.heap.size w w' := by
  have hz := zero46
  have HB := Lib.hid hb
  clear hb
  go_enter Tryd.func25, Tryd.ntmps25
  go_wp2_with fail
  go_loopw [4] (fun i wr => ∃ k : Nat, k ≤ 16 ∧ i = .int .i64 k ∧ Below w.heap.size w wr ∧ Row wr w.heap.size 27 (u8s b) ∧ Row wr (w.heap.size + 1) 46 (u32s z64) ∧ Row wr (w.heap.size + 1 + 1) 46 (u32s (low b k))) (fun i _ => 16 - (intOf i).toNat)
  case atStart =>
    refine ⟨0, by omega, rfl, (((Below.refl _ w).alloc (Nat.le_refl _) _).alloc (by simp) _).alloc (by simp; omega) _, ((Row.new _ _ _).alloc _).alloc _, ?_, ?_⟩
    · have := (Row.new (w.alloc (.cells (u8s b) 27)) 46 (u32s z64)).alloc (.cells (u32s z64) 46)
      simpa using this
    · have := Row.new ((w.alloc (.cells (u8s b) 27)).alloc (.cells (u32s z64) 46)) 46 (u32s z64)
      rw [low_zero]
      simpa using this
  case round =>
    obtain ⟨k, hk, rfl, hB, hR1, hR2, hR3⟩ := hrel
    by_cases hlt : k < 16
    · have hd : decide ((k : Int) < 16) = true := by simp; omega
      rw [← making_zero b k (by omega)] at hR3
      go_wp2_with fail
      go_loopw [5] (fun j wr => ∃ i : Nat, i ≤ 4 ∧ j = .int .i64 i ∧ Below w.heap.size w wr ∧ Row wr w.heap.size 27 (u8s b) ∧ Row wr (w.heap.size + 1) 46 (u32s z64) ∧ Row wr (w.heap.size + 1 + 1) 46 (u32s (making b k i))) (fun j _ => 4 - (intOf j).toNat)
      case atStart => exact ⟨0, by omega, rfl, hB, hR1, hR2, hR3⟩
      case round =>
        obtain ⟨i, hi, rfl, hB, hR1, hR2, hR3⟩ := hrel
        by_cases hli : i < 4
        · have hd2 : decide ((i : Int) < 4) = true := by simp; omega
          have h64 := HB.out
          have cb := hR1.byte (4 * k + i) (by omega)
          have cw := hR3.word k (by rw [making_len]; omega)
          rw [making_at b k i (by omega)] at cw
          have hf := hR3.frozen k
          have hacc := acc_word (b := b) (t := k) (i := i + 1) (by omega)
          have HM := Lib.hid (making_succ b k i)
          have hl := byte_lt (b.getD (4 * k + i) 0)
          have ha : acc b k (i + 1) = acc b k i * 256 + (b.getD (4 * k + i) 0).toNat := rfl
          generalize (b.getD (4 * k + i) 0).toNat = x at *
          obtain ⟨y, hy⟩ : ∃ y, y = acc b k i := ⟨_, rfl⟩
          obtain ⟨z, hz9⟩ : ∃ z, z = acc b k (i + 1) := ⟨_, rfl⟩
          rw [← hy] at cw ha
          rw [← hz9] at ha hacc
          obtain ⟨m, hm⟩ : ∃ m, m = 4 * k + i := ⟨_, rfl⟩
          rw [← hm] at cb
          obtain ⟨q, hq⟩ : ∃ q, q = y * 256 := ⟨_, rfl⟩
          have q0 : IntKind.u32.wrap ((y : Int) * 256) = (q : Int) := by rw [IntKind.wrap_u32']; omega
          have q1 : IntKind.u32.wrap ((q : Int) + (x : Int)) = (z : Int) := by rw [IntKind.wrap_u32']; omega
          have q2 : IntKind.u32.wrap (x : Int) = (x : Int) := by rw [IntKind.wrap_u32']; omega
          obtain ⟨m0, hm0⟩ : ∃ m, m = 4 * k := ⟨_, rfl⟩
          have a0 : IntKind.i64.wrap (4 * (k : Int)) = (m0 : Int) := by rw [IntKind.wrap_i64]; omega
          have a1 : IntKind.i64.wrap ((m0 : Int) + (i : Int)) = (m : Int) := by rw [IntKind.wrap_i64]; omega
          have b0 : (m : Int) < 64 := by omega
          have b1 : (k : Int) < 64 := by omega
          have HZ := Lib.hid hz9
          clear hz9 hy ha hm hm0 hq h64 hz hlt hacc
          go_wp2_with fail
          refine wp_region_still_tail 14 (by kernel_rfl) (by kernel_rfl) ?_
          simp only [List.take_succ_cons, List.take_zero, List.drop_succ_cons, List.drop_zero]
          change wpStill _ _ wr.drew (fun a' => wpList _ _ _ _ a' wr.drew) _ _
          replace cb : wr.drew.cell? _ = _ := cb
          replace cw : wr.drew.cell? _ = _ := cw
          replace hf : wr.drew.frozen? _ = _ := hf
          replace hB := hB.drew
          replace hR1 := hR1.drew
          replace hR2 := hR2.drew
          replace hR3 := hR3.drew
          generalize wr.drew = wd at *
          repeat still_step
          refine wpStill_nil ?_
          go_wp2_with fail
          go_roundw
          case rel => exact ⟨i + 1, by omega, by go_num, hB.setCell (p := ⟨w.heap.size + 1 + 1, k, none⟩) (by simp; omega) _, hR1.apart (by omega) _ _, hR2.apart (by omega) _ _, by rw [← HM.out, ← HZ.out]; exact hR3.set32 k z⟩
          case measure => simp [intOf]; omega
        · have hi9 : i = 4 := by omega
          subst hi9
          clear hi hli
          rw [making_four] at hR3
          go_wp2_with fail
          go_roundw
          case rel => exact ⟨k + 1, by omega, by go_num, hB, hR1, hR2, hR3⟩
          case measure => simp [intOf]; omega
    · have hk9 : k = 16 := by omega
      subst hk9
      clear hk hlt
      rw [show ((16 : Nat) : Int) = 16 from rfl]
      go_wp2_with fail
      go_loopw [6] (fun i wr => ∃ n : Nat, n ≤ 48 ∧ i = .int .i64 ((16 + n : Nat) : Int) ∧ Below w.heap.size w wr ∧ Row wr (w.heap.size + 1) 46 (u32s z64) ∧ Row wr (w.heap.size + 1 + 1) 46 (u32s (ext (low b 16) n))) (fun i _ => 64 - (intOf i).toNat)
      case atStart => exact ⟨0, by omega, rfl, hB, hR2, hR3⟩
      case round =>
        obtain ⟨n, hn, rfl, hB, hR2, hR3⟩ := hrel
        by_cases hlt : n < 48
        · have hlen : (ext (low b 16) n).length = 64 := by rw [ext_len, low_len]
          have hws : Words (ext (low b 16) n) := ext_words _ (low_words b 16) n
          have hset : ext (low b 16) (n + 1) = (ext (low b 16) n).set (16 + n) (later (ext (low b 16) n) (16 + n)) := rfl
          generalize ext (low b 16) n = l at *
          obtain ⟨t, ht⟩ : ∃ t, t = 16 + n := ⟨_, rfl⟩
          have hl : later l (16 + n) = later l t := by rw [ht]
          rw [← ht] at hset ⊢
          obtain ⟨t15, h15⟩ : ∃ i, i = t - 15 := ⟨_, rfl⟩
          obtain ⟨t2, h2⟩ : ∃ i, i = t - 2 := ⟨_, rfl⟩
          obtain ⟨t16, h16⟩ : ∃ i, i = t - 16 := ⟨_, rfl⟩
          obtain ⟨t7, h7⟩ : ∃ i, i = t - 7 := ⟨_, rfl⟩
          unfold later at hl hset
          rw [← h15, ← h2, ← h16, ← h7] at hset
          have c15 := hR3.word t15 (by omega)
          have c2 := hR3.word t2 (by omega)
          have c16 := hR3.word t16 (by omega)
          have c7 := hR3.word t7 (by omega)
          have ct := hR3.word t (by omega)
          have hf := hR3.frozen t
          have l15 := hws.at t15
          have l2 := hws.at t2
          have l16 := hws.at t16
          have l7 := hws.at t7
          clear hl
          generalize l.getD t15 0 = x at c15 l15 hset
          generalize l.getD t2 0 = y at c2 l2 hset
          generalize l.getD t16 0 = p at c16 l16 hset
          generalize l.getD t7 0 = q at c7 l7 hset
          have e0 : bits .xor .u32 (bits .xor .u32 ((rot x 7 : Nat) : Int) ((rot x 18 : Nat) : Int)) ((x : Int) / 8) = ((small0 x : Nat) : Int) := by
            have := u32_xor_nat (rot x 7 ^^^ rot x 18) (x / 8) (xor_lt (rot_lt 7 (by omega) l15) (rot_lt 18 (by omega) l15)) (by omega)
            rw [u32_xor_nat _ _ (rot_lt 7 (by omega) l15) (rot_lt 18 (by omega) l15)]
            simpa [small0] using this
          have e1 : bits .xor .u32 (bits .xor .u32 ((rot y 17 : Nat) : Int) ((rot y 19 : Nat) : Int)) ((y : Int) / 1024) = ((small1 y : Nat) : Int) := by
            have := u32_xor_nat (rot y 17 ^^^ rot y 19) (y / 1024) (xor_lt (rot_lt 17 (by omega) l2) (rot_lt 19 (by omega) l2)) (by omega)
            rw [u32_xor_nat _ _ (rot_lt 17 (by omega) l2) (rot_lt 19 (by omega) l2)]
            simpa [small1] using this
          have a15 : (t : Int) - 15 = (t15 : Int) := by omega
          have a2 : (t : Int) - 2 = (t2 : Int) := by omega
          have a16 : (t : Int) - 16 = (t16 : Int) := by omega
          have a7 : (t : Int) - 7 = (t7 : Int) := by omega
          have b15 : (t15 : Int) < 64 := by omega
          have b2 : (t2 : Int) < 64 := by omega
          have b16 : (t16 : Int) < 64 := by omega
          have b7 : (t7 : Int) < 64 := by omega
          have bt : (t : Int) < 64 := by omega
          have n15 : (0 : Int) ≤ (t15 : Int) := by omega
          have n2 : (0 : Int) ≤ (t2 : Int) := by omega
          have n16 : (0 : Int) ≤ (t16 : Int) := by omega
          have n7 : (0 : Int) ≤ (t7 : Int) := by omega
          have w15 : IntKind.i64.wrap (t15 : Int) = (t15 : Int) := IntWalk.i64_in _ (by omega)
          have w2 : IntKind.i64.wrap (t2 : Int) = (t2 : Int) := IntWalk.i64_in _ (by omega)
          have w16 : IntKind.i64.wrap (t16 : Int) = (t16 : Int) := IntWalk.i64_in _ (by omega)
          have w7 : IntKind.i64.wrap (t7 : Int) = (t7 : Int) := IntWalk.i64_in _ (by omega)
          have hd : decide ((t : Int) < 64) = true := by simp; omega
          have HS := Lib.hid hset
          clear hset h15 h2 h16 h7
          have HT := Lib.hid ht
          clear ht
          go_wp2_with fail
          go_quiet (fail)
          go_wp2_with (first | (go_at_call 27; (with_reducible refine (turn_lit 7 7 (by omega) rfl (by omega) _).mono ?_); rintro e w1 ⟨rfl, rfl⟩) | (go_at_call 27; (with_reducible refine (turn_lit 18 18 (by omega) rfl (by omega) _).mono ?_); rintro e w1 ⟨rfl, rfl⟩) | (go_at_call 31; (with_reducible refine (shift_lit 3 3 (by omega) rfl (by omega) _).mono ?_); rintro e w1 ⟨rfl, rfl⟩) | (go_at_call 27; (with_reducible refine (turn_lit 17 17 (by omega) rfl (by omega) _).mono ?_); rintro e w1 ⟨rfl, rfl⟩) | (go_at_call 27; (with_reducible refine (turn_lit 19 19 (by omega) rfl (by omega) _).mono ?_); rintro e w1 ⟨rfl, rfl⟩) | (go_at_call 31; (with_reducible refine (shift_lit 10 10 (by omega) rfl (by omega) _).mono ?_); rintro e w1 ⟨rfl, rfl⟩))
          obtain ⟨v, hv⟩ : ∃ v, v = (p + small0 x + q + small1 y) % 4294967296 := ⟨_, rfl⟩
          rw [← hv] at HS
          obtain ⟨p1, hp1⟩ : ∃ p1, p1 = (p + small0 x) % 4294967296 := ⟨_, rfl⟩
          obtain ⟨p2, hp2⟩ : ∃ p2, p2 = (p1 + q) % 4294967296 := ⟨_, rfl⟩
          have s1 : IntKind.u32.wrap ((p : Int) + (small0 x : Nat)) = (p1 : Int) := by rw [IntKind.wrap_u32']; omega
          have s2 : IntKind.u32.wrap ((p1 : Int) + (q : Int)) = (p2 : Int) := by rw [IntKind.wrap_u32']; omega
          have s3 : IntKind.u32.wrap ((p2 : Int) + (small1 y : Nat)) = (v : Int) := by rw [IntKind.wrap_u32']; omega
          clear hv hp1 hp2
          refine wp_region_still_tail 15 (by kernel_rfl) (by kernel_rfl) ?_
          simp only [List.take_succ_cons, List.take_zero, List.drop_succ_cons, List.drop_zero]
          change wpStill _ _ (wr.drewN nq).drew (fun a' => wpList _ _ _ _ a' (wr.drewN nq).drew) _ _
          replace c16 : (wr.drewN nq).drew.cell? _ = _ := c16
          replace c7 : (wr.drewN nq).drew.cell? _ = _ := c7
          replace ct : (wr.drewN nq).drew.cell? _ = _ := ct
          replace hf : (wr.drewN nq).drew.frozen? _ = _ := hf
          replace hB : Below w.heap.size w (wr.drewN nq).drew := ⟨hB.os, hB.tape, hB.output, hB.size, hB.block⟩
          replace hR2 : Row (wr.drewN nq).drew _ _ _ := hR2
          replace hR3 : Row (wr.drewN nq).drew _ _ _ := hR3
          generalize (wr.drewN nq).drew = wd at *
          repeat still_step
          refine wpStill_nil ?_
          go_wp2_with fail
          go_roundw
          case rel => exact ⟨n + 1, by omega, int_i64 (by have := HT.out; omega), hB.setCell (p := ⟨w.heap.size + 1 + 1, t, none⟩) (by simp; omega) _, hR2.apart (by omega) _ _, by rw [HS.out]; exact hR3.set32 t v⟩
          case measure => simp [intOf]; omega
        · have hn9 : n = 48 := by omega
          subst hn9
          clear hn hlt
          change Row wr _ _ (u32s (words b)) at hR3
          have hln : 64 = (u32s (words b)).size := by rw [u32s_size, words_len]
          have hB2 := below_setRow hB (g := w.heap.size + 1) (by omega) (u32s (words b))
          have hR := hR2.put (u32s (words b))
          have hs9 : (Tryd.prog.info? 46).map (·.size) = some (u32s (words b)).size := by rw [size46, hln]
          have ho9 : (u32s z64).size = (u32s (words b)).size := by rw [u32s_size, ← hln, z64_len]
          have h19 := u32s_one (words b)
          obtain ⟨ws, hws⟩ : ∃ ws, ws = u32s (words b) := ⟨_, rfl⟩
          rw [← hws] at hR3 hB2 hR hs9 ho9 h19
          have HW := Lib.hid hws
          clear hws
          have HI := Lib.hid hs9
          have HO := Lib.hid ho9
          have H1 := Lib.hid h19
          clear hln hs9 ho9 h19 hR1
          go_upto_region 16 with (fail)
          go_step
          with_reducible refine wpList_loadRow (op := ⟨some 76, .load 46 (.tmp 3), _, _, _, none⟩) rfl 46 (.tmp 3) rfl (w.heap.size + 1 + 1) ?_ hR3 Tryd.underlying46 rfl HI.out ?_
          · rfl
          go_simp
          with_reducible refine wpList_storeRow (op := ⟨none, .store 46 (.tmp 2) (.tmp 76), _, _, _, none⟩) rfl 46 (.tmp 2) (.tmp 76) rfl (w.heap.size + 1) ?_ (cs := ws) ?_ hR2 HI.out HO.out H1.out ?_
          · rfl
          · rfl
          go_simp
          go_wp2_with fail
          exact bodyPost_ret (v := .agg ws) (results_row rfl rfl hR Tryd.underlying46 rfl HI.out) rfl ⟨by rw [HW.out], hB2⟩

