/-
  The Go text of package leb, walked: the digits that a range over a function tells, Put, Size.
-/
import Derived.RangeFuncNested
import Derived.RangeFuncBound
import Derived.RangeFuncCalls
import Derived.RangeFuncLeaves
import Derived.Shelf.Abstract
import Derived.Shelf.RegionOpen
import Derived.WalkKit
import Derived.OwnWalkIn
import Derived.TacticsInMore
import Derived.LoopNIn
import Derived.LoopIn
import Derived.Maps.AppendAt
import Derived.Laws.BytesArg
import Derived.WalkSpells
import Derived.Outline
import Derived.Test.YthimplhfmamejaaRows
import Derived.Test.YthimplhfmamejaaLebMath
namespace Go.Proofs.Ythimplhfmamejaa.Leb
open Go.RowKit Go.Shelf

attribute [local go_sem] Oper.semAt_some

theorem i64_nat (a b : Int) (h : a = b) : Value.int .u8 a = Value.int .u8 b := by rw [h]

set_option maxRecDepth 100000 in
set_option maxHeartbeats 1000000 in
/-- The digits of a number, told to a loop's body one by one, for every body that keeps what lay below n₀. -/
theorem digits1_in (F : Fence) (n : Nat) (hF : F.fn 47) (hro : F.round = none) (hn : 1 ≤ n) (l Bn n₀ : Nat) (x : Int) (hx0 : 0 ≤ x) (hx1 : x ≤ 18446744073709551615) (J Jx : List Int → World → Prop)
    (hY : ∀ pre x W, J pre W → pre.length < 10 → YieldAt F (n - 1) Try.prog l #[.int .u8 x] W fun e W' =>
      (e = .returned (.bool true) ∧ J (pre ++ [x]) W' ∧ Below n₀ W W') ∨ (e = .returned (.bool false) ∧ Jx (pre ++ [x]) W'))
    (W : World) (hBn : W.cell? ⟨Bn, 0, none⟩ = some (.int .u64 x)) (h0 : J [] W) :
    CallsIn F n Try.prog 47 #[.func (.yield l) #[] #[], .pointer (some ⟨Bn, 0, none⟩)] W fun e W' => (∃ v, e = .returned v) ∧
      ((∃ ys, ys = digs x.toNat ∧ J ys W') ∨ (∃ pre, pre <+: digs x.toNat ∧ Jx pre W')) := by
  have hlen10 := digs_len x.toNat
  have hlen := lput_len10 (n := x.toNat) (by omega)
  refine callsIn_of_wp Try.func47 rfl hF ?_ hro
  simp only [Try.ntmps47, List.size_toArray, List.length_cons, List.length_nil, Nat.reduceAdd, Nat.reduceSub, Array.replicate_succ, Array.replicate_zero, List.push_toArray, List.append_toArray, List.nil_append, List.cons_append]
  gi_wp2
  gi_loopw [3] (fun p wr => ∃ (pre : List Int) (m : Int), p = .int .u64 m ∧ 0 ≤ m ∧ m ≤ 18446744073709551615 ∧ digs x.toNat = pre ++ digs m.toNat ∧ J pre wr)
    (fun p wr => (intOf p).toNat)
  case atStart =>
    exact ⟨[], x, rfl, hx0, hx1, rfl, h0⟩
  case round =>
    obtain ⟨pre, m, rfl, hm0, hm1, hxs, hJs⟩ := hrel
    have hp := lput_pos m.toNat
    have hpl : pre.length + (digs m.toNat).length ≤ 10 := by rw [← List.length_append, ← hxs]; omega
    rw [digs_len] at hpl
    have HX := Lib.hid hxs
    clear hxs hlen10
    by_cases hm : 128 ≤ m
    · obtain ⟨fn, tmps, assign, body, hy, hR⟩ := hY pre (m % 128 + 128) wr hJs (by omega)
      gi_wp2
      refine hR.mono ?_
      rintro e W3 (⟨rfl, hJ3, hk3⟩ | ⟨rfl, hJx3⟩)
      · gi_wp2
        go_roundw
        case rel =>
          refine ⟨pre ++ [m % 128 + 128], m / 128, rfl, by omega, by omega, ?_, hJ3⟩
          rw [HX.out, digs_hi (show 128 ≤ m.toNat by omega), List.append_assoc]
          simp only [List.cons_append, List.nil_append]
          congr 3
          · omega
          · omega
        case measure => simp [intOf]; omega
      · gi_wp2
        refine bodyPost_ret (results_none rfl _ _ _) rfl ?_
        refine ⟨⟨_, rfl⟩, .inr ⟨_, ⟨digs (m.toNat / 128), ?_⟩, hJx3⟩⟩
        rw [HX.out, digs_hi (show 128 ≤ m.toNat by omega), List.append_assoc]
        simp only [List.cons_append, List.nil_append]
        congr 2
        omega
    · obtain ⟨fn, tmps, assign, body, hy, hR⟩ := hY pre m wr hJs (by omega)
      have hlt : m < 128 := by omega
      clear hm
      have hd : digs x.toNat = pre ++ [m] := by
        rw [HX.out, digs_lo (show m.toNat < 128 by omega)]
        congr 2
        omega
      have HD := Lib.hid hd
      clear hd
      gi_wp2
      refine hR.mono ?_
      rintro e W3 (⟨rfl, hJ3, hk3⟩ | ⟨rfl, hJx3⟩)
      · gi_wp2
        go_end0
        exact ⟨⟨_, rfl⟩, .inl ⟨_, HD.out.symm, hJ3⟩⟩
      · gi_wp2
        go_end0
        exact ⟨⟨_, rfl⟩, .inr ⟨_, by rw [HD.out]; exact List.prefix_refl _, hJx3⟩⟩

set_option maxHeartbeats 1000000 in
/-- The iterator's value: the number is boxed; the function value captures the box. -/
theorem digits_in (F : Fence) (n : Nat) (hF : F.fn 37) (hro : F.round = none) (x : Int) (w : World) :
    CallsIn F n Try.prog 37 #[.int .u64 x] w fun e w' => e = .returned (.func (.func 47) #[] #[.pointer (some ⟨w.heap.size, 0, none⟩)]) ∧ w' = w.alloc (.cells #[.int .u64 x] 44) := by
  refine callsIn_of_wp Try.func37 rfl hF ?_ hro
  simp only [Try.ntmps37, List.size_toArray, List.length_cons, List.length_nil, Nat.reduceAdd, Nat.reduceSub, Array.replicate_succ, Array.replicate_zero, List.push_toArray, List.append_toArray, List.nil_append, List.cons_append]
  gi_wp2
  go_ret
  exact ⟨rfl, rfl⟩

/-- The iterator's contract. -/
theorem digits_stops (F : Fence) (n : Nat) (hF : F.fn 47) (hro : F.round = none) (hn : 1 ≤ n) (Bn n₀ : Nat) (x : Int) (hx0 : 0 ≤ x) (hx1 : x ≤ 18446744073709551615) (w : World) (hBn : Bn < w.heap.size)
    (hc : w.cell? ⟨Bn, 0, none⟩ = some (.int .u64 x)) :
    SeqStopsK F n Try.prog 47 #[.pointer (some ⟨Bn, 0, none⟩)] (fun x : Int => #[Value.int .u8 x]) (Below n₀) (fun ys => ys = digs x.toNat) (fun pre => pre <+: digs x.toNat) 10 w := fun l J Jx W hW _ _ hY h0 =>
  digits1_in F n hF hro hn l Bn n₀ x hx0 hx1 J Jx hY W ((hW.cell (p := ⟨Bn, 0, none⟩) hBn).trans hc) h0

end Go.Proofs.Ythimplhfmamejaa.Leb
