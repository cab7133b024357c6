/-
  A block's words, walked: by the program and by the reference.
-/
import Derived.BigQuiet
import Derived.Deep.QuietTactic
import Derived.StillTailTactics
import Derived.Deep.RegionHeld3
import Derived.Deep.DeepCutAuto
import Derived.Deep.Cut
import Derived.Test.YtidkakjghimimaaDoorShaRow
namespace Go.Proofs.YtidkakjghimimaaDoor.Sha
open Go.RowKit

def z64 : List Nat := List.replicate 64 0
def z8 : List Nat := List.replicate 8 0
def b64 : List UInt8 := List.replicate 64 0
theorem z64_len : z64.length = 64 := by simp [z64]
theorem low_zero (b : List UInt8) : low b 0 = z64 := rfl
theorem zero46 (W : World) : (zeroValue 46).run Tryd.prog W = .ok (.agg (u32s z64)) W := by kernel_rfl
theorem zero27 (W : World) : (zeroValue 27).run Tryd.prog W = .ok (.agg (u8s b64)) W := by kernel_rfl
theorem zero26 (W : World) : (zeroValue 26).run Tryd.prog W = .ok (.agg (u32s z8)) W := by kernel_rfl
theorem size46 : (Tryd.prog.info? 46).map (·.size) = some 64 := by kernel_rfl
theorem size27 : (Tryd.prog.info? 27).map (·.size) = some 64 := by kernel_rfl
theorem size26 : (Tryd.prog.info? 26).map (·.size) = some 8 := by kernel_rfl
theorem size25 : (Tryd.prog.info? 25).map (·.size) = some 1 := by kernel_rfl
theorem agg25 (W : World) : (isAgg 25).run Tryd.prog W = .ok false W := by kernel_rfl

theorem shl_or (x0 x1 x2 x3 : Nat) (h0 : x0 < 256) (h1 : x1 < 256) (h2 : x2 < 256) (h3 : x3 < 256) (y : Nat) (h : x0 * 16777216 ||| x1 * 65536 ||| x2 * 256 ||| x3 = y) :
    bits .or .u32 (bits .or .u32 (bits .or .u32 ((x0 : Int) * 16777216) ((x1 : Int) * 65536)) ((x2 : Int) * 256)) (x3 : Int) = (y : Int) := by
  have e0 : (x0 : Int) * 16777216 = ((x0 * 16777216 : Nat) : Int) := by omega
  have e1 : (x1 : Int) * 65536 = ((x1 * 65536 : Nat) : Int) := by omega
  have e2 : (x2 : Int) * 256 = ((x2 * 256 : Nat) : Int) := by omega
  have l01 := or_lt (a := x0 * 16777216) (b := x1 * 65536) (by omega) (by omega)
  have l012 := or_lt (b := x2 * 256) l01 (by omega)
  rw [e0, e1, e2, u32_or_nat _ _ (by omega) (by omega), u32_or_nat _ _ l01 (by omega), u32_or_nat _ _ l012 (by omega), h]

set_option maxRecDepth 100000 in
set_option maxHeartbeats 1000000 in
theorem words_any (b : List UInt8) (hb : b.length = 64) (w : World) :
    Calls Tryd.prog 23 #[.agg (u8s b)] w fun e w' => e = .returned (.agg (u32s (words b))) ∧ Below w.heap.size w w' := by
  have hz := zero46
  have HB := Lib.hid hb
  clear hb
  go_enter Tryd.func23, Tryd.ntmps23
  go_wp2_with fail
  go_loopw [11] (fun i wr => ∃ k : Nat, k ≤ 16 ∧ i = .int .i64 k ∧ Below w.heap.size w wr ∧ Row wr w.heap.size 27 (u8s b) ∧ Row wr (w.heap.size + 1) 46 (u32s z64) ∧ Row wr (w.heap.size + 1 + 1) 46 (u32s (low b k))) (fun i _ => 16 - (intOf i).toNat)
  case atStart =>
    refine ⟨0, by omega, rfl, (((Below.refl _ w).alloc (Nat.le_refl _) _).alloc (by simp) _).alloc (by simp; omega) _, ((Row.new _ _ _).alloc _).alloc _, ?_, ?_⟩
    · have := (Row.new (w.alloc (.cells (u8s b) 27)) 46 (u32s z64)).alloc (.cells (u32s z64) 46)
      simpa using this
    · have := Row.new ((w.alloc (.cells (u8s b) 27)).alloc (.cells (u32s z64) 46)) 46 (u32s z64)
      rw [low_zero]
      simpa using this
  case round =>
    obtain ⟨k, hk, rfl, hB, hR1, hR2, hR3⟩ := hrel
    by_cases hlt : k < 16
    · have hd : decide ((k : Int) < 16) = true := by simp; omega
      have h64 := HB.out
      have c0 := hR1.byte (4 * k) (by omega)
      have c1 := hR1.byte (4 * k + 1) (by omega)
      have c2 := hR1.byte (4 * k + 2) (by omega)
      have c3 := hR1.byte (4 * k + 3) (by omega)
      have c4 := hR3.word k (by rw [low_len]; omega)
      have hf := hR3.frozen k
      have hwd := word_or b k
      have l0 := byte_lt (b.getD (4 * k) 0)
      have l1 := byte_lt (b.getD (4 * k + 1) 0)
      have l2 := byte_lt (b.getD (4 * k + 2) 0)
      have l3 := byte_lt (b.getD (4 * k + 3) 0)
      generalize (b.getD (4 * k) 0).toNat = x0 at c0 l0 hwd
      generalize (b.getD (4 * k + 1) 0).toNat = x1 at c1 l1 hwd
      generalize (b.getD (4 * k + 2) 0).toNat = x2 at c2 l2 hwd
      generalize (b.getD (4 * k + 3) 0).toNat = x3 at c3 l3 hwd
      have hor := shl_or x0 x1 x2 x3 l0 l1 l2 l3 _ hwd
      clear h64 hwd
      obtain ⟨m, hm⟩ : ∃ m, m = 4 * k := ⟨_, rfl⟩
      obtain ⟨m1, hm1⟩ : ∃ m1, m1 = 4 * k + 1 := ⟨_, rfl⟩
      obtain ⟨m2, hm2⟩ : ∃ m2, m2 = 4 * k + 2 := ⟨_, rfl⟩
      obtain ⟨m3, hm3⟩ : ∃ m3, m3 = 4 * k + 3 := ⟨_, rfl⟩
      rw [← hm] at c0
      rw [← hm1] at c1
      rw [← hm2] at c2
      rw [← hm3] at c3
      have a0 : (k : Int) * 4 = (m : Int) := by omega
      have a1 : (m : Int) + 1 = (m1 : Int) := by omega
      have a2 : (m : Int) + 2 = (m2 : Int) := by omega
      have a3 : (m : Int) + 3 = (m3 : Int) := by omega
      have b0 : (m : Int) < 64 := by omega
      have b1 : (m1 : Int) < 64 := by omega
      have b2 : (m2 : Int) < 64 := by omega
      have b3 : (m3 : Int) < 64 := by omega
      have b4 : (k : Int) < 64 := by omega
      have w1 : IntKind.i64.wrap (m1 : Int) = (m1 : Int) := IntWalk.i64_in _ (by omega)
      have w2 : IntKind.i64.wrap (m2 : Int) = (m2 : Int) := IntWalk.i64_in _ (by omega)
      have w3 : IntKind.i64.wrap (m3 : Int) = (m3 : Int) := IntWalk.i64_in _ (by omega)
      have q0 : IntKind.u32.wrap (x0 : Int) = (x0 : Int) := by rw [IntKind.wrap_u32']; omega
      have q1 : IntKind.u32.wrap (x1 : Int) = (x1 : Int) := by rw [IntKind.wrap_u32']; omega
      have q2 : IntKind.u32.wrap (x2 : Int) = (x2 : Int) := by rw [IntKind.wrap_u32']; omega
      have q3 : IntKind.u32.wrap (x3 : Int) = (x3 : Int) := by rw [IntKind.wrap_u32']; omega
      have r0 : IntKind.u32.wrap ((x0 : Int) * 16777216) = (x0 : Int) * 16777216 := by rw [IntKind.wrap_u32']; omega
      have r1 : IntKind.u32.wrap ((x1 : Int) * 65536) = (x1 : Int) * 65536 := by rw [IntKind.wrap_u32']; omega
      have r2 : IntKind.u32.wrap ((x2 : Int) * 256) = (x2 : Int) * 256 := by rw [IntKind.wrap_u32']; omega
      clear hm hm1 hm2 hm3
      go_wp2_with fail
      refine wp_region_still_tail 27 (by kernel_rfl) (by kernel_rfl) ?_
      simp only [List.take_succ_cons, List.take_zero, List.drop_succ_cons, List.drop_zero]
      change wpStill _ _ wr.drew _ _ _
      replace c0 : wr.drew.cell? _ = _ := c0
      replace c1 : wr.drew.cell? _ = _ := c1
      replace c2 : wr.drew.cell? _ = _ := c2
      replace c3 : wr.drew.cell? _ = _ := c3
      replace c4 : wr.drew.cell? _ = _ := c4
      replace hf : wr.drew.frozen? _ = _ := hf
      replace hB := hB.drew
      replace hR1 := hR1.drew
      replace hR2 := hR2.drew
      replace hR3 := hR3.drew
      change wpStill _ _ _ (fun a' => wpList _ _ _ _ a' wr.drew) _ _
      generalize wr.drew = wd at *
      repeat still_step
      refine wpStill_nil ?_
      go_wp2_with fail
      go_roundw
      case rel => exact ⟨k + 1, by omega, by go_num, hB.setCell (p := ⟨w.heap.size + 1 + 1, k, none⟩) (by simp; omega) _, hR1.apart (by omega) _ _, hR2.apart (by omega) _ _, hR3.set32 k (word b k)⟩
      case measure => simp [intOf]; omega
    · have hk9 : k = 16 := by omega
      subst hk9
      clear hk hlt
      rw [show ((16 : Nat) : Int) = 16 from rfl]
      go_wp2_with fail
      go_loopw [6] (fun i wr => ∃ n : Nat, n ≤ 48 ∧ i = .int .i64 ((16 + n : Nat) : Int) ∧ Below w.heap.size w wr ∧ Row wr (w.heap.size + 1) 46 (u32s z64) ∧ Row wr (w.heap.size + 1 + 1) 46 (u32s (ext (low b 16) n))) (fun i _ => 64 - (intOf i).toNat)
      case atStart => exact ⟨0, by omega, rfl, hB, hR2, hR3⟩
      case round =>
        obtain ⟨n, hn, rfl, hB, hR2, hR3⟩ := hrel
        by_cases hlt : n < 48
        · have hlen : (ext (low b 16) n).length = 64 := by rw [ext_len, low_len]
          have hws : Words (ext (low b 16) n) := ext_words _ (low_words b 16) n
          have hset : ext (low b 16) (n + 1) = (ext (low b 16) n).set (16 + n) (later (ext (low b 16) n) (16 + n)) := rfl
          generalize ext (low b 16) n = l at *
          obtain ⟨t, ht⟩ : ∃ t, t = 16 + n := ⟨_, rfl⟩
          have hl : later l (16 + n) = later l t := by rw [ht]
          rw [← ht] at hset ⊢
          obtain ⟨t15, h15⟩ : ∃ i, i = t - 15 := ⟨_, rfl⟩
          obtain ⟨t2, h2⟩ : ∃ i, i = t - 2 := ⟨_, rfl⟩
          obtain ⟨t16, h16⟩ : ∃ i, i = t - 16 := ⟨_, rfl⟩
          obtain ⟨t7, h7⟩ : ∃ i, i = t - 7 := ⟨_, rfl⟩
          unfold later at hl hset
          rw [← h15, ← h2, ← h16, ← h7] at hset
          have c15 := hR3.word t15 (by omega)
          have c2 := hR3.word t2 (by omega)
          have c16 := hR3.word t16 (by omega)
          have c7 := hR3.word t7 (by omega)
          have ct := hR3.word t (by omega)
          have hf := hR3.frozen t
          have l15 := hws.at t15
          have l2 := hws.at t2
          have l16 := hws.at t16
          have l7 := hws.at t7
          clear hl
          generalize l.getD t15 0 = x at c15 l15 hset
          generalize l.getD t2 0 = y at c2 l2 hset
          generalize l.getD t16 0 = p at c16 l16 hset
          generalize l.getD t7 0 = q at c7 l7 hset
          have e0 : bits .xor .u32 (bits .xor .u32 ((rot x 7 : Nat) : Int) ((rot x 18 : Nat) : Int)) ((x : Int) / 8) = ((small0 x : Nat) : Int) := by
            have := u32_xor_nat (rot x 7 ^^^ rot x 18) (x / 8) (xor_lt (rot_lt 7 (by omega) l15) (rot_lt 18 (by omega) l15)) (by omega)
            rw [u32_xor_nat _ _ (rot_lt 7 (by omega) l15) (rot_lt 18 (by omega) l15)]
            simpa [small0] using this
          have e1 : bits .xor .u32 (bits .xor .u32 ((rot y 17 : Nat) : Int) ((rot y 19 : Nat) : Int)) ((y : Int) / 1024) = ((small1 y : Nat) : Int) := by
            have := u32_xor_nat (rot y 17 ^^^ rot y 19) (y / 1024) (xor_lt (rot_lt 17 (by omega) l2) (rot_lt 19 (by omega) l2)) (by omega)
            rw [u32_xor_nat _ _ (rot_lt 17 (by omega) l2) (rot_lt 19 (by omega) l2)]
            simpa [small1] using this
          have a15 : (t : Int) - 15 = (t15 : Int) := by omega
          have a2 : (t : Int) - 2 = (t2 : Int) := by omega
          have a16 : (t : Int) - 16 = (t16 : Int) := by omega
          have a7 : (t : Int) - 7 = (t7 : Int) := by omega
          have b15 : (t15 : Int) < 64 := by omega
          have b2 : (t2 : Int) < 64 := by omega
          have b16 : (t16 : Int) < 64 := by omega
          have b7 : (t7 : Int) < 64 := by omega
          have bt : (t : Int) < 64 := by omega
          have n15 : (0 : Int) ≤ (t15 : Int) := by omega
          have n2 : (0 : Int) ≤ (t2 : Int) := by omega
          have n16 : (0 : Int) ≤ (t16 : Int) := by omega
          have n7 : (0 : Int) ≤ (t7 : Int) := by omega
          have w15 : IntKind.i64.wrap (t15 : Int) = (t15 : Int) := IntWalk.i64_in _ (by omega)
          have w2 : IntKind.i64.wrap (t2 : Int) = (t2 : Int) := IntWalk.i64_in _ (by omega)
          have w16 : IntKind.i64.wrap (t16 : Int) = (t16 : Int) := IntWalk.i64_in _ (by omega)
          have w7 : IntKind.i64.wrap (t7 : Int) = (t7 : Int) := IntWalk.i64_in _ (by omega)
          have hd : decide ((t : Int) < 64) = true := by simp; omega
          have HS := Lib.hid hset
          clear hset h15 h2 h16 h7
          have HT := Lib.hid ht
          clear ht
          go_wp2_with fail
          go_quiet (fail)
          go_wp2_with (first | (go_at_call 24; (with_reducible refine (right_lit 7 7 l15 rfl (by omega) (by omega) _).mono ?_); rintro e w1 ⟨rfl, rfl⟩) | (go_at_call 24; (with_reducible refine (right_lit 18 18 l15 rfl (by omega) (by omega) _).mono ?_); rintro e w1 ⟨rfl, rfl⟩) | (go_at_call 24; (with_reducible refine (right_lit 17 17 l2 rfl (by omega) (by omega) _).mono ?_); rintro e w1 ⟨rfl, rfl⟩) | (go_at_call 24; (with_reducible refine (right_lit 19 19 l2 rfl (by omega) (by omega) _).mono ?_); rintro e w1 ⟨rfl, rfl⟩))
          obtain ⟨v, hv⟩ : ∃ v, v = (p + small0 x + q + small1 y) % 4294967296 := ⟨_, rfl⟩
          rw [← hv] at HS
          obtain ⟨p1, hp1⟩ : ∃ p1, p1 = (p + small0 x) % 4294967296 := ⟨_, rfl⟩
          obtain ⟨p2, hp2⟩ : ∃ p2, p2 = (p1 + q) % 4294967296 := ⟨_, rfl⟩
          have s1 : IntKind.u32.wrap ((p : Int) + (small0 x : Nat)) = (p1 : Int) := by rw [IntKind.wrap_u32']; omega
          have s2 : IntKind.u32.wrap ((p1 : Int) + (q : Int)) = (p2 : Int) := by rw [IntKind.wrap_u32']; omega
          have s3 : IntKind.u32.wrap ((p2 : Int) + (small1 y : Nat)) = (v : Int) := by rw [IntKind.wrap_u32']; omega
          clear hv hp1 hp2
          refine wp_region_still_tail 15 (by kernel_rfl) (by kernel_rfl) ?_
          simp only [List.take_succ_cons, List.take_zero, List.drop_succ_cons, List.drop_zero]
          change wpStill _ _ (wr.drewN nq).drew (fun a' => wpList _ _ _ _ a' (wr.drewN nq).drew) _ _
          replace c16 : (wr.drewN nq).drew.cell? _ = _ := c16
          replace c7 : (wr.drewN nq).drew.cell? _ = _ := c7
          replace ct : (wr.drewN nq).drew.cell? _ = _ := ct
          replace hf : (wr.drewN nq).drew.frozen? _ = _ := hf
          replace hB : Below w.heap.size w (wr.drewN nq).drew := ⟨hB.os, hB.tape, hB.output, hB.size, hB.block⟩
          replace hR2 : Row (wr.drewN nq).drew _ _ _ := hR2
          replace hR3 : Row (wr.drewN nq).drew _ _ _ := hR3
          generalize (wr.drewN nq).drew = wd at *
          repeat still_step
          refine wpStill_nil ?_
          go_wp2_with fail
          go_roundw
          case rel => exact ⟨n + 1, by omega, int_i64 (by have := HT.out; omega), hB.setCell (p := ⟨w.heap.size + 1 + 1, t, none⟩) (by simp; omega) _, hR2.apart (by omega) _ _, by rw [HS.out]; exact hR3.set32 t v⟩
          case measure => simp [intOf]; omega
        · have hn9 : n = 48 := by omega
          subst hn9
          clear hn hlt
          change Row wr _ _ (u32s (words b)) at hR3
          have hln : 64 = (u32s (words b)).size := by rw [u32s_size, words_len]
          have hB2 := below_setRow hB (g := w.heap.size + 1) (by omega) (u32s (words b))
          have hR := hR2.put (u32s (words b))
          have hs9 : (Tryd.prog.info? 46).map (·.size) = some (u32s (words b)).size := by rw [size46, hln]
          have ho9 : (u32s z64).size = (u32s (words b)).size := by rw [u32s_size, ← hln, z64_len]
          have h19 := u32s_one (words b)
          obtain ⟨ws, hws⟩ : ∃ ws, ws = u32s (words b) := ⟨_, rfl⟩
          rw [← hws] at hR3 hB2 hR hs9 ho9 h19
          have HW := Lib.hid hws
          clear hws
          have HI := Lib.hid hs9
          have HO := Lib.hid ho9
          have H1 := Lib.hid h19
          clear hln hs9 ho9 h19 hR1
          go_upto_region 15 with (fail)
          go_step
          with_reducible refine wpList_loadRow (op := ⟨some 87, .load 46 (.tmp 3), _, _, _, none⟩) rfl 46 (.tmp 3) rfl (w.heap.size + 1 + 1) ?_ hR3 Tryd.underlying46 rfl HI.out ?_
          · rfl
          go_simp
          with_reducible refine wpList_storeRow (op := ⟨none, .store 46 (.tmp 2) (.tmp 87), _, _, _, none⟩) rfl 46 (.tmp 2) (.tmp 87) rfl (w.heap.size + 1) ?_ (cs := ws) ?_ hR2 HI.out HO.out H1.out ?_
          · rfl
          · rfl
          go_simp
          go_wp2_with fail
          exact bodyPost_ret (v := .agg ws) (results_row rfl rfl hR Tryd.underlying46 rfl HI.out) rfl ⟨by rw [HW.out], hB2⟩

end Go.Proofs.YtidkakjghimimaaDoor.Sha
