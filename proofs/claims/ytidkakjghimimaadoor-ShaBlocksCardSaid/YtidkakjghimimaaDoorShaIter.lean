/-
  The blocks of a text and its pad, told from the left: a range over a function.
-/
import Derived.RangeFuncNested
import Derived.RangeFuncBound
import Derived.RangeFuncCalls
import Derived.RangeFuncLeaves
import Derived.Shelf.Abstract
import Derived.OwnWalkIn
import Derived.TacticsInMore
import Derived.LoopNIn
import Derived.LoopIn
import Derived.Lib.Strings
import Derived.Laws.CopyRow
import Derived.Test.YtidkakjghimimaaDoorShaPad
namespace Go.Proofs.YtidkakjghimimaaDoor.Sha
open Go.RowKit

theorem b64_len : b64.length = 64 := by simp [b64]
/-- A block of a text. -/
def blk (all : List UInt8) (i : Nat) : List UInt8 := (all.drop (64 * i)).take 64
/-- The first n blocks. -/
def tells (all : List UInt8) (n : Nat) : List (List UInt8) := (List.range n).map (blk all)
theorem tells_zero (all : List UInt8) : tells all 0 = [] := rfl
theorem tells_succ (all : List UInt8) (n : Nat) : tells all (n + 1) = tells all n ++ [blk all n] := by simp [tells, List.range_succ]
theorem tells_len (all : List UInt8) (n : Nat) : (tells all n).length = n := by simp [tells]
theorem tells_prefix (all : List UInt8) (n m : Nat) (h : n ≤ m) : tells all n <+: tells all m := by
  obtain ⟨k, rfl⟩ : ∃ k, m = n + k := ⟨m - n, by omega⟩
  exact ⟨(List.range k).map (fun i => blk all (n + i)), by simp [tells, List.range_add]⟩
theorem blk_len {all : List UInt8} {i : Nat} (h : 64 * i + 64 ≤ all.length) : (blk all i).length = 64 := by
  rw [blk, List.length_take, List.length_drop]; omega

theorem grown_of_below {w w' : World} (h : Below w.heap.size w w') : w.grownBy w' none := ⟨h.os, h.tape, h.output, h.size, fun k hk _ => h.block k hk⟩
theorem AbidesFrom.grow {β : Type} {B : Nat} {J : β → World → Prop} (h : AbidesFrom B J) {s : β} {w w' : World} (hs : J s w) (hb : Below w.heap.size w w') : J s w' :=
  h s w w' none hs (grown_of_below hb) (fun r e => by cases e)

/-- 64 bytes of a string, copied over a row of 64. -/
theorem run_copy64 (w : World) (ty : TypeId) (g : Nat) (cur : Array Value) (t : TypeId) (s : ByteArray) (hs : 64 ≤ s.size) (hg : Row w g t cur) (hc : cur.size = 64) :
    (Builtin.copy_ #[44, 9] ty #[.slice (some ⟨g, 0, none⟩) 64 64, .string s]).run Tryd.prog w = .ok (goInt 64) (w.setRow g (u8s (s.data.toList.take 64))) := by
  have hl : (s.data.toList.take 64).length = 64 := by
    rw [List.length_take, show s.data.toList.length = s.size from rfl]; omega
  have hst := run_storeCells_from (P := Tryd.prog) g t ((s.data.toList.take 64).map fun x => Value.int .u8 (x.toNat : Int)) 0 cur w hg (by rw [List.length_map, hl, hc]) (by
    intro v hv
    obtain ⟨x, _, rfl⟩ := List.mem_map.1 hv
    rfl)
  have hmin : Nat.min s.size 64 = 64 := Nat.min_eq_right hs
  have hsz : ∀ w : World, (sizeOf 5).run Tryd.prog w = .ok 1 w := fun w => by kernel_rfl
  have e : (List.take 0 cur.toList ++ (s.data.toList.take 64).map fun x => Value.int .u8 (x.toNat : Int)).toArray = u8s (s.data.toList.take 64) := by simp [u8s]
  rw [e] at hst
  simp [Builtin.copy_, run_underlying Tryd.underlying44, Builtin.lenOf, Builtin.firstCells, hsz, hmin]
  rw [← List.map_take, hst]
  simp [Result.andThen]

theorem wpList_copy64 {ops : Array Oper} {rest : List Oper} {op : Oper} {a : Act} {w : World} {Q : Exit → Act → World → Prop} (hgd : op.guard = none) (d x : Operand)
    (ho : op.op = .call { callee := .builtin .copy, args := #[d, x], argTypes := #[44, 9] })
    (g : Nat) (hd : a.eval d = .slice (some ⟨g, 0, none⟩) 64 64) (s : ByteArray) (hx : a.eval x = .string s) (hs : 64 ≤ s.size) {t : TypeId} {cur : Array Value} (hg : Row w g t cur) (hc : cur.size = 64)
    (h : wpList Tryd.prog ops Q rest (a.put op.dst (goInt 64)) (w.setRow g (u8s (s.data.toList.take 64)))) : wpList Tryd.prog ops Q (op :: rest) a w := by
  refine wpList_plain hgd fun _ hK => ?_
  have hr := run_copy64 w op.type g cur t s hs hg hc
  unfold Oper.wp execOp
  simp only [ho, resolve, invoke, builtin, Sem.run_bind, Sem.run_pure, Result.andThen_ok, List.map_toArray, List.map_cons, List.map_nil, hd, hx, hr]
  exact hK _ _ h

theorem wpListIn_loadRow {F : Fence} {n : Nat} {P : Program} {ops : Array Oper} {rest : List Oper} {op : Oper} {a : Act} {w : World} {Q : Exit → Act → World → Prop} (hgd : op.guard = none) (ty : TypeId) (x : Operand) (ho : op.op = .load ty x)
    (g : Nat) (hx : a.eval x = .pointer (some ⟨g, 0, none⟩)) {t : TypeId} {cs : Array Value} (hr : Row w g t cs) {d : TypeDesc}
    (hu : P.underlying ty = some d) (hd : d.isRow = true) (hi : (P.info? ty).map (·.size) = some cs.size)
    (h : wpListIn F n P ops Q rest (a.put op.dst (.agg cs)) w) : wpListIn F n P ops Q (op :: rest) a w := by
  refine wpListIn_plain hgd fun K hK => ?_
  unfold Oper.wpIn
  refine ⟨by simp [Oper.about, ho], ?_⟩
  rw [Oper.semAt_plain F _ _ (by rw [ho]; intro c hc'; cases hc')]
  unfold execOp
  simp only [ho, hx, Sem.run_bind, hr.load d hu hd hi, Result.andThen_ok]
  exact hK _ _ h

theorem wpListIn_storeRow {F : Fence} {n : Nat} {P : Program} {ops : Array Oper} {rest : List Oper} {op : Oper} {a : Act} {w : World} {Q : Exit → Act → World → Prop} (hgd : op.guard = none) (ty : TypeId) (x y : Operand) (ho : op.op = .store ty x y)
    (g : Nat) (hx : a.eval x = .pointer (some ⟨g, 0, none⟩)) {cs : Array Value} (hy : a.eval y = .agg cs) {t : TypeId} {old : Array Value} (hr : Row w g t old)
    (hi : (P.info? ty).map (·.size) = some cs.size) (hold : old.size = cs.size) (h1 : cs.all (·.oneCell') = true)
    (h : wpListIn F n P ops Q rest (a.put op.dst undef) (w.setRow g cs)) : wpListIn F n P ops Q (op :: rest) a w := by
  refine wpListIn_plain hgd fun K hK => ?_
  unfold Oper.wpIn
  refine ⟨by simp [Oper.about, ho], ?_⟩
  rw [Oper.semAt_plain F _ _ (by rw [ho]; intro c hc'; cases hc')]
  unfold execOp
  simp only [ho, hx, hy, Sem.run_bind, hr.store hi hold h1, Result.andThen_ok]
  exact hK _ _ h

/-- The text and its pad. -/
def full (s : ByteArray) : List UInt8 := s.data.toList ++ pad s.size
theorem full_len (s : ByteArray) : (full s).length % 64 = 0 := by
  rw [full, List.length_append, show s.data.toList.length = s.size from rfl]; exact pad_fits s.size

theorem bytes_part (A S : ByteArray) (all : List UInt8) (o j : Nat) (hA : A.data.toList = (all.drop (64 * o)).take A.size) (hj : 64 * j + 64 ≤ A.size) (h : S.data.toList = A.data.toList.drop (64 * j)) :
    S.data.toList.take 64 = blk all (o + j) := by
  rw [h, hA, blk, List.drop_take, List.take_take, List.drop_drop, show 64 * o + 64 * j = 64 * (o + j) by omega]
  congr 1
  omega

/-- How many blocks are told ahead of the p-th part. -/
def offOf (q m p : Nat) : Nat := if p = 0 then 0 else if p = 1 then q else m
theorem index53_0 (A B : ByteArray) (W : World) : (Instr.index 53 (.agg #[.string A, .string B]) (.int .i64 ((0 : Nat) : Int))).run Tryd.prog W = .ok (.string A) W := by kernel_rfl
theorem index53_1 (A B : ByteArray) (W : World) : (Instr.index 53 (.agg #[.string A, .string B]) (.int .i64 ((1 : Nat) : Int))).run Tryd.prog W = .ok (.string B) W := by kernel_rfl

set_option maxRecDepth 100000 in
set_option maxHeartbeats 1000000 in
theorem blocks1_in (l Bn : Nat) (s : ByteArray) (hs : s.size ≤ 1073741824) (B : Nat) (J Jx : List (List UInt8) → World → Prop) (n₀ : Nat)
    (hJ : AbidesFrom B J)
    (hY : ∀ pre x W, J pre W → x.length = 64 → pre.length < 100000000 → YieldAt Fence.wide 2 Tryd.prog l #[.agg (u8s x)] W fun e W' =>
      (e = .returned (.bool true) ∧ J (pre ++ [x]) W' ∧ Below n₀ W W') ∨ (e = .returned (.bool false) ∧ Jx (pre ++ [x]) W'))
    (W : World) (hBn : W.cell? ⟨Bn, 0, none⟩ = some (.string s)) (h0 : J [] W) :
    CallsIn Fence.wide 3 Tryd.prog 29 #[.func (.yield l) #[] #[], .pointer (some ⟨Bn, 0, none⟩)] W fun e W' => (∃ v, e = .returned v) ∧
      ((∃ ys, ys = tells (full s) ((full s).length / 64) ∧ J ys W') ∨ (∃ pre, pre <+: tells (full s) ((full s).length / 64) ∧ Jx pre W')) := by
  obtain ⟨q, hq⟩ : ∃ q, q = s.size / 64 := ⟨_, rfl⟩
  obtain ⟨r, hr⟩ : ∃ r, r = s.size % 64 := ⟨_, rfl⟩
  obtain ⟨m, hm⟩ : ∃ m, m = (full s).length / 64 := ⟨_, rfl⟩
  have hfl := full_len s
  have hfull : (full s).length = s.size + (pad s.size).length := by rw [full, List.length_append]; rfl
  have hpl := pad_len s.size
  have hwle : q * 64 ≤ s.size := by omega
  have hx1 : (s.extract 0 (q * 64)).size = q * 64 := by simp; omega
  have hx2 : (s.extract (q * 64) s.size).size = s.size - q * 64 := by simp
  have hd1 : (s.extract 0 (q * 64)).data.toList = ((full s).drop (64 * 0)).take (s.extract 0 (q * 64)).size := by
    rw [hx1, Lib.extract_data, full, Nat.mul_zero, List.drop_zero, List.drop_zero, Nat.sub_zero, List.take_append_of_le_length (by rw [show s.data.toList.length = s.size from rfl]; omega)]
  have hd2 : (s.extract (q * 64) s.size ++ ⟨(pad s.size).toArray⟩ : ByteArray).data.toList = ((full s).drop (64 * q)).take (s.extract (q * 64) s.size ++ ⟨(pad s.size).toArray⟩ : ByteArray).size := by
    rw [ByteArray.size_append, hx2, size_list (pad s.size)]
    have e : (s.extract (q * 64) s.size ++ ⟨(pad s.size).toArray⟩ : ByteArray).data.toList = s.data.toList.drop (q * 64) ++ pad s.size := by
      rw [ByteArray.data_append, Array.toList_append, Lib.extract_data, List.take_of_length_le (by rw [List.length_drop, show s.data.toList.length = s.size from rfl]; omega)]
    rw [e, full, List.drop_append_of_le_length (by rw [show s.data.toList.length = s.size from rfl]; omega), Nat.mul_comm 64 q, List.take_of_length_le]
    rw [List.length_append, List.length_drop, show s.data.toList.length = s.size from rfl]
    exact Nat.le_refl _
  have hrq : s.size = q * 64 + r := by omega
  have hr64 : r < 64 := by omega
  obtain ⟨wi, hwi⟩ : ∃ wi, wi = q * 64 := ⟨_, rfl⟩
  rw [← hwi] at hx1 hx2 hd1 hd2 hwle
  obtain ⟨A1, hA1⟩ : ∃ A, A = s.extract 0 wi := ⟨_, rfl⟩
  obtain ⟨X2, hX2⟩ : ∃ A, A = s.extract wi s.size := ⟨_, rfl⟩
  obtain ⟨P, hP⟩ : ∃ A : ByteArray, A = ⟨(pad s.size).toArray⟩ := ⟨_, rfl⟩
  have hPs : P.size = (pad s.size).length := by rw [hP, size_list]
  rw [← hA1] at hx1 hd1
  rw [← hX2] at hx2 hd2
  rw [← hP] at hd2
  have hpad := fun W => Pad_any s.size (by omega) W
  rw [← hP] at hpad
  obtain ⟨A2, hA2⟩ : ∃ A, A = X2 ++ P := ⟨_, rfl⟩
  rw [← hA2] at hd2
  have hA2s : A2.size = 64 * (m - q) := by rw [hA2, ByteArray.size_append, hx2, hPs]; omega
  have hA1s : A1.size = 64 * q := by omega
  have hqm : q ≤ m := by omega
  have hm8 : m ≤ 20000000 := by omega
  have i1 : (s.size : Int) % 64 = (r : Int) := by omega
  have i2 : (s.size : Int) - (r : Int) = (wi : Int) := by omega
  have i3 : (0 : Int) ≤ (wi : Int) := by omega
  have i4 : (wi : Int) ≤ (s.size : Int) := by omega
  have HPAD := Lib.hid hpad
  have hcat : X2 ++ P = A2 := hA2.symm
  have hext1 : s.extract 0 wi = A1 := hA1.symm
  have hext2 : s.extract wi s.size = X2 := hX2.symm
  have hgt : ¬ (9223372036854775807 < X2.size + P.size) := by omega
  have HD1 := Lib.hid hd1
  have HD2 := Lib.hid hd2
  have HA1 := Lib.hid hA1s
  have HA2 := Lib.hid hA2s
  have HMm := Lib.hid hm
  rw [← hm]
  clear hpad hA1 hX2 hP hA2 hPs hd1 hd2 hA1s hA2s hwi hrq hq hr hm hx1 hx2 hpl hfl hfull
  have hBlt := World.block_lt_of_cell? W _ hBn
  refine callsIn_wide.2 ?_
  go_enter Tryd.func29, Tryd.ntmps29
  go_wp2_with fail
  go_region_held3 (fun W' => W'.cell? ⟨Bn, 0, none⟩ = some (.string s)) (first | exact hc1 | go_keep) (first | (go_at_call 20; (refine (HPAD.out _).mono ?_); rintro e w1 ⟨rfl, hb1⟩; have hc1 : w1.cell? ⟨Bn, 0, none⟩ = some (.string s) := (hb1.cell (p := ⟨Bn, 0, none⟩) hBlt).trans hBn))
  have hW1 : Below W.heap.size W w1 := (Below.drew (Below.refl _ W)).trans hb1
  have hJ1 : J (tells (full s) 0) w1 := AbidesFrom.grow hJ h0 hW1
  clear hcat hext1 hext2 hgt hc1 hb1 HPAD i1 i2 i3 i4
  have hz := zero27
  go_wp2_with fail
  go_loopw [25] (fun i wr => ∃ p : Nat, p ≤ 2 ∧ i = .int .i64 p ∧ J (tells (full s) (offOf q m p)) wr) (fun i _ => 2 - (intOf i).toNat)
  case atStart => exact ⟨0, by omega, rfl, hJ1⟩
  case round =>
    clear hJ1 hW1
    obtain ⟨p, hp, rfl, hJ1⟩ := hrel
    by_cases hlt : p < 2
    · obtain ⟨A, o, cnt, hix, hAd, hAs, hoff, hoff', hcm⟩ : ∃ (A : ByteArray) (o cnt : Nat), (∀ W, (Instr.index 53 (.agg #[.string A1, .string A2]) (.int .i64 (p : Int))).run Tryd.prog W = .ok (.string A) W) ∧
          A.data.toList = ((full s).drop (64 * o)).take A.size ∧ A.size = 64 * cnt ∧ offOf q m p = o ∧ offOf q m (p + 1) = o + cnt ∧ o + cnt ≤ m := by
        rcases (show p = 0 ∨ p = 1 by omega) with rfl | rfl
        · exact ⟨A1, 0, q, fun W => index53_0 A1 A2 W, HD1.out, HA1.out, rfl, by simp [offOf], by omega⟩
        · exact ⟨A2, q, m - q, fun W => index53_1 A1 A2 W, HD2.out, HA2.out, rfl, by simp [offOf]; omega, by omega⟩
      have hd : decide ((p : Int) < 2) = true := by simp; omega
      rw [hoff] at hJ1
      have HO := Lib.hid hoff'
      have HAD := Lib.hid hAd
      have HAS := Lib.hid hAs
      have hA9 : A.size ≤ 1280000000 := by omega
      clear hoff hoff' hAd hAs
      go_wp2_with fail
      go_loopw [6] (fun a wr => ∃ j : Nat, j ≤ cnt ∧ a = .int .i64 ((64 * j : Nat) : Int) ∧ J (tells (full s) (o + j)) wr) (fun a _ => 64 * cnt - (intOf a).toNat)
      case atStart => exact ⟨0, by omega, rfl, hJ1⟩
      case round =>
        clear hJ1
        obtain ⟨j, hj, rfl, hJ1⟩ := hrel
        by_cases hlj : j < cnt
        · obtain ⟨t, ht⟩ : ∃ t, t = 64 * j := ⟨_, rfl⟩
          rw [← ht]
          have has := HAS.out
          have hd2 : decide ((t : Int) < (A.size : Int)) = true := by simp; omega
          have hd3 : t < A.size := by omega
          have ht0 : (0 : Int) ≤ (t : Int) := by omega
          have ht1 : (t : Int) ≤ (A.size : Int) := by omega
          have ht2 : t ≤ 1280000000 := by omega
          obtain ⟨S, hS⟩ : ∃ S, S = A.extract t A.size := ⟨_, rfl⟩
          have hSs : 64 ≤ S.size := by rw [hS]; simp; omega
          have hSd : S.data.toList = A.data.toList.drop (64 * j) := by rw [hS, Lib.extract_data, ht, List.take_of_length_le (by rw [List.length_drop, show A.data.toList.length = A.size from rfl]; exact Nat.le_refl _)]
          have hblk := bytes_part A S (full s) o j HAD.out (by omega) hSd
          have hext : A.extract t A.size = S := hS.symm
          have HB := Lib.hid hblk
          have HT := Lib.hid ht
          clear hS hSd hblk ht has
          go_upto_region 8 with (fail)
          have hJ2 : J (tells (full s) (o + j)) (wr.alloc (.cells (u8s b64) 27)) := AbidesFrom.grow hJ hJ1 ((Below.refl _ _).alloc (Nat.le_refl _) _)
          have hR := Row.new wr 27 (u8s b64)
          refine wp_region_still_tail 4 (by kernel_rfl) (by kernel_rfl) ?_
          simp only [List.take_succ_cons, List.take_zero, List.drop_succ_cons, List.drop_zero]
          change wpStill _ _ (wr.alloc (.cells (u8s b64) 27)).drew (fun a' => wpList _ _ _ _ a' (wr.alloc (.cells (u8s b64) 27)).drew) _ _
          replace hJ2 : J (tells (full s) (o + j)) (wr.alloc (.cells (u8s b64) 27)).drew := AbidesFrom.grow hJ hJ2 (Below.drew (Below.refl _ _))
          replace hR : Row (wr.alloc (.cells (u8s b64) 27)).drew wr.heap.size 27 (u8s b64) := hR
          have hbel : Below wr.heap.size wr (wr.alloc (.cells (u8s b64) 27)).drew := ((Below.refl _ wr).alloc (Nat.le_refl _) _).drew
          generalize (wr.alloc (.cells (u8s b64) 27)).drew = wd at *
          repeat still_step
          refine wpStill_nil ?_
          with_reducible refine wpList_copy64 (op := ⟨some 38, .call { callee := .builtin .copy, args := #[.tmp 34, .tmp 37], argTypes := #[44, 9] }, _, _, _, none⟩) rfl (.tmp 34) (.tmp 37) rfl wr.heap.size ?_ S ?_ hSs hR (by rw [u8s_size, b64_len]) ?_
          · rfl
          · rfl
          have hJ3 : J (tells (full s) (o + j)) (wd.setRow wr.heap.size (u8s (S.data.toList.take 64))) := AbidesFrom.grow hJ hJ1 (below_setRow hbel (Nat.le_refl _) _)
          have hR3 := hR.put (u8s (S.data.toList.take 64))
          rw [HB.out] at hJ3 hR3 ⊢
          have hbl : (u8s (blk (full s) (o + j))).size = 64 := by rw [← HB.out, u8s_size, List.length_take, show S.data.toList.length = S.size from rfl]; omega
          have hI : Hid ((Tryd.prog.info? 27).map (·.size) = some (u8s (blk (full s) (o + j))).size) := Lib.hid (by rw [size27, hbl])
          generalize wd.setRow wr.heap.size (u8s (blk (full s) (o + j))) = we at *
          clear hJ2 hR hbel hbl hext
          obtain ⟨fn, tmps, assign, body, hy, hRI⟩ := hY _ (blk (full s) (o + j)) we hJ3 (blk_len (by have := HMm.out; omega)) (by rw [tells_len]; omega)
          go_upto_region 9 with (fail)
          refine (wpIn_wide (n := 3)).1 ?_
          gi_step
          gi_step
          gi_step
          gi_step
          with_reducible refine wpListIn_loadRow (op := ⟨some 40, .load 27 (.tmp 7), _, _, _, none⟩) rfl 27 (.tmp 7) rfl wr.heap.size ?_ hR3 Tryd.underlying27 rfl hI.out ?_
          · rfl
          go_simp
          gi_wp2
          refine hRI.mono ?_
          rintro e W3 (⟨rfl, hJ4, hk4⟩ | ⟨rfl, hJx4⟩)
          · gi_wp2
            go_wp2_with fail
            go_roundw
            case rel => exact ⟨j + 1, by omega, int_i64 (by have := HT.out; omega), by rw [← Nat.add_assoc, tells_succ]; exact hJ4⟩
            case measure => have := HT.out; simp [intOf]; omega
          · gi_wp2
            go_wp2_with fail
            refine bodyPost_ret (results_none rfl _ _ _) rfl ?_
            refine ⟨⟨_, rfl⟩, .inr ⟨_, ?_, hJx4⟩⟩
            rw [← tells_succ]
            exact tells_prefix _ _ _ (by omega)
        · have hj9 : j = cnt := by omega
          subst hj9
          obtain ⟨t, ht⟩ : ∃ t, t = 64 * j := ⟨_, rfl⟩
          rw [← ht]
          have has := HAS.out
          have hd2 : decide ((t : Int) < (A.size : Int)) = false := by simp; omega
          have hd3 : ¬ t < A.size := by omega
          clear ht has
          go_wp2_with fail
          go_roundw
          case rel => exact ⟨p + 1, by omega, by go_num, by rw [HO.out]; exact hJ1⟩
          case measure => simp [intOf]; omega
    · have hp9 : p = 2 := by omega
      subst hp9
      go_wp2_with fail
      go_end0
      exact ⟨⟨_, rfl⟩, .inl ⟨_, rfl, hJ1⟩⟩

/-- The iterator's value: the text is boxed; the function value captures the box. -/
theorem blocks_any (s : ByteArray) (w : World) :
    Calls Tryd.prog 22 #[.string s] w fun e w' => e = .returned (.func (.func 29) #[] #[.pointer (some ⟨w.heap.size, 0, none⟩)]) ∧ w' = w.alloc (.cells #[.string s] 9) := by
  go_enter Tryd.func22, Tryd.ntmps22
  go_wp2
  go_ret
  exact ⟨rfl, rfl⟩

/-- A block of 64 bytes. -/
abbrev Blk := { x : List UInt8 // x.length = 64 }
def vals (l : List Blk) : List (List UInt8) := l.map (·.1)
theorem vals_snoc (l : List Blk) (x : Blk) : vals (l ++ [x]) = vals l ++ [x.1] := by simp [vals]
theorem vals_len (l : List Blk) : (vals l).length = l.length := by simp [vals]

theorem YieldAt.mono {F : Fence} {m : Nat} {P : Program} {l : Nat} {args : Array Value} {W : World} {R R' : Ending → World → Prop} (h : YieldAt F m P l args W R) (hR : ∀ e w, R e w → R' e w) : YieldAt F m P l args W R' := by
  obtain ⟨fn, tmps, assign, body, h1, h2⟩ := h
  exact ⟨fn, tmps, assign, body, h1, h2.mono hR⟩

/-- The iterator's contract. -/
theorem blocks_stops (Bn n₀ : Nat) (s : ByteArray) (hs : s.size ≤ 1073741824) (w : World) (hBn : Bn < w.heap.size) (hc : w.cell? ⟨Bn, 0, none⟩ = some (.string s)) :
    SeqStopsK Fence.wide 3 Tryd.prog 29 #[.pointer (some ⟨Bn, 0, none⟩)] (fun x : Blk => #[Value.agg (u8s x.1)]) (Below n₀) (fun ys => vals ys = tells (full s) ((full s).length / 64)) (fun _ => True) 100000000 w := fun l J Jx W hW hJ _ hY h0 => by
  refine (blocks1_in l Bn s hs W.heap.size (fun p W' => ∃ q : List Blk, vals q = p ∧ J q W') (fun p W' => ∃ q : List Blk, vals q = p ∧ Jx q W') n₀
    (fun p A B row ⟨q, hq, hJq⟩ hg hr => ⟨q, hq, hJ q A B row hJq hg hr⟩) ?_ W ((hW.cell (p := ⟨Bn, 0, none⟩) hBn).trans hc) ⟨[], rfl, h0⟩).mono ?_
  · rintro pre x W1 ⟨q, rfl, hq⟩ hx hl
    refine YieldAt.mono (hY q ⟨x, hx⟩ W1 hq (by rwa [vals_len] at hl)) ?_
    rintro e W2 (⟨rfl, h1, h2⟩ | ⟨rfl, h1⟩)
    · exact .inl ⟨rfl, ⟨q ++ [⟨x, hx⟩], vals_snoc _ _, h1⟩, h2⟩
    · exact .inr ⟨rfl, ⟨q ++ [⟨x, hx⟩], vals_snoc _ _, h1⟩⟩
  · rintro e W2 ⟨hv, (⟨ys, rfl, q, hq, hJq⟩ | ⟨pre, _, q, _, hJq⟩)⟩
    · exact ⟨hv, .inl ⟨q, hq, hJq⟩⟩
    · exact ⟨hv, .inr ⟨q, trivial, hJq⟩⟩

end Go.Proofs.YtidkakjghimimaaDoor.Sha
