/-
  The reference of deltas, walked: nodes with others instead of those between two places.
-/
import Derived.Test.YthkhonkibigdaaaDeltaRefA
import Derived.Test.YthkhonkibigdaaaArenaH
namespace Go.Proofs.Ythkhonkibigdaaa.Delta
open Go.RowKit Mem _root_.Go.Proofs.Ythkhonkibigdaaa.Arena _root_.Go.Proofs.Ythkhonkibigdaaa.Path
set_option linter.unusedVariables false
attribute [local go_sem ↓] Go.wp_at_zero Go.wp_at_succ

theorem snoc_nd {l : List Nd} {k : Nat} {x : Nd} (h : l[k]? = some x) : l.take (k + 1) = l.take k ++ [x] := by rw [List.take_add_one, h]; rfl
theorem snoc_dr {l : List Nd} {b k : Nat} {x : Nd} (hb : b ≤ k) (h : l[k]? = some x) : (l.drop b).take (k + 1 - b) = (l.drop b).take (k - b) ++ [x] := by
  rw [show k + 1 - b = (k - b) + 1 by omega, List.take_add_one, List.getElem?_drop, show b + (k - b) = k by omega, h]; rfl

set_option maxRecDepth 100000 in
set_option maxHeartbeats 4000000 in
theorem ref_swap_any (A : Option Addr) (c : Nat) (l : List Nd) (a b : Nat) (A' : Option Addr) (c' : Nat) (m : List Nd) (w : World) (hx : Nodes w w.heap.size A l) (hl : l.length ≤ 1000000) (hm : Nodes w w.heap.size A' m) (hml : m.length ≤ 1000000) (ha : a ≤ l.length) (hb : b ≤ l.length) :
    Calls Try.prog 57 #[.slice A l.length c, .int .i64 a, .int .i64 b, .slice A' m.length c'] w (NodesEnds (swap l a b m) w) := by
  have HX := Lib.hid hx
  have HM := Lib.hid hm
  have HN := Lib.hid (fun (W : World) (x : Nd) => (Nodes.of_blk (Blk.new W 45 #[.int .i64 x.1, .int .i64 x.2]) (Nat.lt_succ_self _) : Nodes (W.alloc (.cells #[.int .i64 x.1, .int .i64 x.2] 45)) (W.heap.size + 1) (some ⟨W.heap.size, 0, none⟩) [x]))
  have HO0 := Lib.hid (World.ownsRow_nil w w.heap.size 45 2)
  clear hx hm
  go_enter Try.func57, Try.ntmps57
  go_wp2
  go_loopw [9, 10] (fun o i wr => ∃ k : Nat, k ≤ a ∧ i = .int .i64 k ∧ Below w.heap.size w wr ∧ wr.ownsRow w.heap.size 45 2 o (l.take k).length (ncells (l.take k))) (fun _ i _ => a - (intOf i).toNat)
  case atStart => exact ⟨0, by omega, rfl, Below.refl _ _, HO0.out⟩
  case round =>
    obtain ⟨k, hk, rfl, hB, hO⟩ := hrel
    by_cases hlt : k < a
    · have i1 : (k : Int) < (a : Int) := by omega
      have i2 : (k : Int) < (l.length : Int) := by omega
      have i3 : (0 : Int) ≤ (k : Int) := by omega
      obtain ⟨x, hxk⟩ : ∃ x, l[k]? = some x := ⟨_, List.getElem?_eq_getElem (by omega)⟩
      obtain ⟨ad, rfl, hbk, g0, g1⟩ := (HX.out.below hB) k x hxk
      have HS := Lib.hid (snoc_nd hxk)
      have hlen : (l.take k).length ≤ 1000000 := by rw [List.length_take]; omega
      have hB2 := hB.alloc hB.size (.cells #[.int .i64 x.1, .int .i64 x.2] 45)
      clear hxk
      go_wp2_with (first
        | (at_builtin; refine append_nodes rfl _ _ rfl w.heap.size hB2.size _ _ rfl (hO.alloc _) _ (some ⟨_, 0, none⟩) 1 [x] 1 rfl rfl (fun e => by cases e) (HN.out _ x) (by simp only [List.length_singleton]; omega) ?_; intro v3 w3 hown3 hg3 _; have hB3 := hB2.grown hg3 hB2.size (fun i e => (hO.lt i e).1)))
      go_roundw
      case rel => exact ⟨k + 1, by omega, by go_num, hB3, by rw [HS.out]; exact hown3⟩
      case measure => simp [intOf]; omega
    · obtain rfl : k = a := by omega
      have i1 : ¬ (k : Int) < (k : Int) := by omega
      have HL1 := Lib.hid (show (l.take k).length ≤ 1000000 by rw [List.length_take]; omega)
      go_wp2
      go_loopw [9, 11] (fun o i wr => ∃ k2 : Nat, k2 ≤ m.length ∧ i = .int .i64 k2 ∧ Below w.heap.size w wr ∧ wr.ownsRow w.heap.size 45 2 o (l.take k ++ m.take k2).length (ncells (l.take k ++ m.take k2))) (fun _ i _ => m.length - (intOf i).toNat)
      case atStart => exact ⟨0, by omega, rfl, hB, by rw [List.take_zero, List.append_nil]; exact hO⟩
      case round =>
        clear hO hB
        obtain ⟨k2, hk2, rfl, hB, hO⟩ := hrel
        by_cases hlt2 : k2 < m.length
        · have i4 : (k2 : Int) < (m.length : Int) := by omega
          have i3 : (0 : Int) ≤ (k2 : Int) := by omega
          obtain ⟨x, hxk⟩ : ∃ x, m[k2]? = some x := ⟨_, List.getElem?_eq_getElem (by omega)⟩
          obtain ⟨ad, rfl, hbk, g0, g1⟩ := (HM.out.below hB) k2 x hxk
          have HS := Lib.hid (show l.take k ++ m.take (k2 + 1) = (l.take k ++ m.take k2) ++ [x] by rw [snoc_nd hxk, List.append_assoc])
          have hlen : (l.take k ++ m.take k2).length ≤ 2000000 := by rw [List.length_append, List.length_take, List.length_take]; omega
          have hB2 := hB.alloc hB.size (.cells #[.int .i64 x.1, .int .i64 x.2] 45)
          clear hxk
          go_wp2_with (first
            | (at_builtin; refine append_nodes rfl _ _ rfl w.heap.size hB2.size _ _ rfl (hO.alloc _) _ (some ⟨_, 0, none⟩) 1 [x] 1 rfl rfl (fun e => by cases e) (HN.out _ x) (by simp only [List.length_singleton]; omega) ?_; intro v3 w3 hown3 hg3 _; have hB3 := hB2.grown hg3 hB2.size (fun i e => (hO.lt i e).1)))
          go_roundw
          case rel => exact ⟨k2 + 1, by omega, by go_num, hB3, by rw [HS.out]; exact hown3⟩
          case measure => simp [intOf]; omega
        · obtain rfl : k2 = m.length := by omega
          have i4 : ¬ (m.length : Int) < (m.length : Int) := by omega
          rw [List.take_length] at hO
          go_wp2
          go_loopw [9, 12] (fun o i wr => ∃ k3 : Nat, b ≤ k3 ∧ k3 ≤ l.length ∧ i = .int .i64 k3 ∧ Below w.heap.size w wr ∧ wr.ownsRow w.heap.size 45 2 o (l.take k ++ m ++ (l.drop b).take (k3 - b)).length (ncells (l.take k ++ m ++ (l.drop b).take (k3 - b)))) (fun _ i _ => l.length - (intOf i).toNat)
          case atStart => exact ⟨b, Nat.le_refl _, hb, rfl, hB, by rw [Nat.sub_self, List.take_zero, List.append_nil]; exact hO⟩
          case round =>
            clear hO hB
            obtain ⟨k3, hk3, hk4, rfl, hB, hO⟩ := hrel
            by_cases hlt3 : k3 < l.length
            · have i5 : (k3 : Int) < (l.length : Int) := by omega
              have i3 : (0 : Int) ≤ (k3 : Int) := by omega
              obtain ⟨x, hxk⟩ : ∃ x, l[k3]? = some x := ⟨_, List.getElem?_eq_getElem (by omega)⟩
              obtain ⟨ad, rfl, hbk, g0, g1⟩ := (HX.out.below hB) k3 x hxk
              have HS := Lib.hid (show l.take k ++ m ++ (l.drop b).take (k3 + 1 - b) = (l.take k ++ m ++ (l.drop b).take (k3 - b)) ++ [x] by rw [snoc_dr hk3 hxk]; simp)
              have hlen : (l.take k ++ m ++ (l.drop b).take (k3 - b)).length ≤ 3000000 := by rw [List.length_append, List.length_append, List.length_take, List.length_take, List.length_drop]; omega
              have hB2 := hB.alloc hB.size (.cells #[.int .i64 x.1, .int .i64 x.2] 45)
              clear hxk
              go_wp2_with (first
                | (at_builtin; refine append_nodes rfl _ _ rfl w.heap.size hB2.size _ _ rfl (hO.alloc _) _ (some ⟨_, 0, none⟩) 1 [x] 1 rfl rfl (fun e => by cases e) (HN.out _ x) (by simp only [List.length_singleton]; omega) ?_; intro v3 w3 hown3 hg3 _; have hB3 := hB2.grown hg3 hB2.size (fun i e => (hO.lt i e).1)))
              go_roundw
              case rel => exact ⟨k3 + 1, by omega, by omega, by go_num, hB3, by rw [HS.out]; exact hown3⟩
              case measure => simp [intOf]; omega
            · obtain rfl : k3 = l.length := by omega
              have i5 : ¬ (l.length : Int) < (l.length : Int) := by omega
              rw [show (l.drop b).take (l.length - b) = l.drop b from List.take_of_length_le (by rw [List.length_drop]; omega)] at hO
              obtain ⟨R, hR⟩ : ∃ R, l.take k ++ m ++ l.drop b = R := ⟨_, rfl⟩
              rw [hR] at hO
              have HR := Lib.hid (show swap l k b m = R from hR)
              clear hR
              obtain ⟨A3, c3, rfl, hc3, hA3, hN3⟩ := own_nodes hO
              go_wp2
              go_ret
              rw [HR.out]
              exact ⟨hB, A3, c3, rfl, hc3, hA3, hN3⟩

end Go.Proofs.Ythkhonkibigdaaa.Delta
