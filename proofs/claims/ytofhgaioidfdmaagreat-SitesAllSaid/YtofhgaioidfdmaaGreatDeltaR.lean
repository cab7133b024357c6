/-
  The reference of deltas, walked: its small functions.
  The reference of deltas, walked: nodes with others instead of those between two places.
  The reference of deltas, walked: may a node be changed so?
  The reference of deltas, walked: a body that is changed.
  The reference of deltas, walked: a body that is changed, of any delta that may be.
  The reference of deltas, walked: a program that is changed.
-/
import Derived.Test.YtofhgaioidfdmaaGreatDeltaG
import Derived.Test.YtofhgaioidfdmaaGreatPathG
import Derived.Deep.QuietTactic
import Derived.Test.YtofhgaioidfdmaaGreatArenaH
import Derived.Deep.CutBlock
import Derived.Deep.CutRange
import Derived.Deep.RegionHeld3
import Derived.Deep.DrawnRows
namespace Go.Proofs.YtofhgaioidfdmaaGreat.Delta
open Go.RowKit Mem _root_.Go.Proofs.YtofhgaioidfdmaaGreat.Arena _root_.Go.Proofs.YtofhgaioidfdmaaGreat.Path
set_option linter.unusedVariables false
attribute [local go_sem ↓] Go.wp_at_zero Go.wp_at_succ

set_option maxRecDepth 100000 in
theorem ref_less_any (a b : Int) (w : World) : Calls Tryz.prog 67 #[.int .i64 a, .int .i64 b] w fun e w' => e = .returned (.int .i64 (three a b)) ∧ w' = w := by
  by_cases h1 : a < b
  · have hE := Lib.hid (show three a b = -1 from if_pos h1)
    go_enter Tryz.func67, Tryz.ntmps67
    go_wp2
    go_ret
    exact ⟨by rw [hE.out]; rfl, rfl⟩
  by_cases h2 : b < a
  · have hE := Lib.hid (show three a b = 1 by unfold three; rw [if_neg h1, if_pos h2])
    go_enter Tryz.func67, Tryz.ntmps67
    go_wp2
    go_ret
    exact ⟨by rw [hE.out]; rfl, rfl⟩
  have hE := Lib.hid (show three a b = 0 by unfold three; rw [if_neg h1, if_neg h2])
  go_enter Tryz.func67, Tryz.ntmps67
  go_wp2
  go_ret
  exact ⟨by rw [hE.out]; rfl, rfl⟩

/-- Is a number between two? -/
def bt (n lo hi : Int) : Bool := decide (lo ≤ n ∧ n ≤ hi)
set_option maxRecDepth 100000 in
theorem ref_between_any (n lo hi : Int) (w : World) : Calls Tryz.prog 110 #[.int .i64 n, .int .i64 lo, .int .i64 hi] w fun e w' => e = .returned (.bool (bt n lo hi)) ∧ w' = w := by
  by_cases h1 : lo ≤ n
  · by_cases h2 : n ≤ hi
    · have hE := Lib.hid (show bt n lo hi = true from decide_eq_true ⟨h1, h2⟩)
      go_enter Tryz.func110, Tryz.ntmps110
      go_wp2
      go_ret
      exact ⟨by rw [hE.out]; rfl, rfl⟩
    · have hE := Lib.hid (show bt n lo hi = false from decide_eq_false (fun h => h2 h.2))
      go_enter Tryz.func110, Tryz.ntmps110
      go_wp2
      go_ret
      exact ⟨by rw [hE.out]; rfl, rfl⟩
  · have hE := Lib.hid (show bt n lo hi = false from decide_eq_false (fun h => h1 h.1))
    go_enter Tryz.func110, Tryz.ntmps110
    go_wp2
    go_ret
    exact ⟨by rw [hE.out]; rfl, rfl⟩

set_option maxRecDepth 100000 in
set_option maxHeartbeats 1000000 in
theorem ref_DCompare_any (a b : Dlt) (w : World) (ha : a.Ok w) (hb : b.Ok w) :
    Calls Tryz.prog 34 #[.agg #[.slice a.A a.p.length a.c, .int .i64 a.op, .int .i64 a.n], .agg #[.slice b.A b.p.length b.c, .int .i64 b.op, .int .i64 b.n]] w fun e w' => e = .returned (.int .i64 (dcmp a.p a.op a.n b.p b.op b.n)) ∧ Below w.heap.size w w' := by
  obtain ⟨A, c, p, op, n⟩ := a
  obtain ⟨A', c', p', op', n'⟩ := b
  simp only at *
  have hB0 : Below w.heap.size w (w.alloc (.cells #[.slice A p.length c, .int .i64 op, .int .i64 n] 34)) := (Below.refl _ _).alloc (Nat.le_refl _) _
  have hB1 := hB0.alloc hB0.size (.cells #[.slice A' p'.length c', .int .i64 op', .int .i64 n'] 34)
  obtain ⟨x0, x1, x2⟩ := ((Blk.new w 34 #[.slice A p.length c, .int .i64 op, .int .i64 n]).alloc (.cells #[.slice A' p'.length c', .int .i64 op', .int .i64 n'] 34)).three
  have bY := Blk.new (w.alloc (.cells #[.slice A p.length c, .int .i64 op, .int .i64 n] 34)) 34 #[.slice A' p'.length c', .int .i64 op', .int .i64 n']
  rw [World.size_alloc] at bY
  obtain ⟨y0, y1, y2⟩ := bY.three
  have bX := (Blk.new w 34 #[.slice A p.length c, .int .i64 op, .int .i64 n]).alloc (.cells #[.slice A' p'.length c', .int .i64 op', .int .i64 n'] 34)
  have hlX := bX.lt
  have hlY := bY.lt
  have HX := Lib.hid (fun W (h : Below _ _ W) => (bX.below h hlX).three)
  have HY := Lib.hid (fun W (h : Below _ _ W) => (bY.below h hlY).three)
  have HC := Lib.hid (Path.ref_Compare_any A c p A' c' p' _ (ha.at hB1).path (hb.at hB1).path ha.len hb.len)
  have HL := Lib.hid (fun W => ref_less_any op op' W)
  have HN := Lib.hid (fun W => ref_less_any n n' W)
  by_cases h : cmp p p' = 0
  · by_cases k : op = op'
    · subst k
      have HE := Lib.hid (show dcmp p op n p' op n' = three n n' by unfold dcmp; rw [if_neg (by omega), if_neg (by omega)])
      rw [h] at HC
      clear ha hb bX bY h
      go_enter Tryz.func34, Tryz.ntmps34
      go_wp2_with (first
        | (go_at_call 66; refine HC.out.mono ?_; rintro e w1 ⟨rfl, hb1⟩; obtain ⟨x0, x1, x2⟩ := HX.out _ hb1; obtain ⟨y0, y1, y2⟩ := HY.out _ hb1)
        | (go_at_call 67; refine (HN.out _).mono ?_; rintro e w2 ⟨rfl, rfl⟩))
      go_ret
      exact ⟨by rw [HE.out]; rfl, hB1.trans (hb1.mono hB1.size)⟩
    · have HE := Lib.hid (show dcmp p op n p' op' n' = three op op' by unfold dcmp; rw [if_neg (by omega), if_pos k])
      have e1 : (op == op') = false := by simpa using k
      have e2 : (op != op') = true := by simpa using k
      rw [h] at HC
      clear ha hb bX bY h k
      go_enter Tryz.func34, Tryz.ntmps34
      go_wp2_with (first
        | (go_at_call 66; refine HC.out.mono ?_; rintro e w1 ⟨rfl, hb1⟩; obtain ⟨x0, x1, x2⟩ := HX.out _ hb1; obtain ⟨y0, y1, y2⟩ := HY.out _ hb1)
        | (go_at_call 67; refine (HL.out _).mono ?_; rintro e w2 ⟨rfl, rfl⟩))
      go_ret
      exact ⟨by rw [HE.out]; rfl, hB1.trans (hb1.mono hB1.size)⟩
  · have HE := Lib.hid (show dcmp p op n p' op' n' = cmp p p' from if_pos h)
    obtain ⟨cc, hcc⟩ : ∃ cc, cmp p p' = cc := ⟨_, rfl⟩
    rw [hcc] at HC HE h
    have e1 : (cc == 0) = false := by simpa using h
    have e2 : (cc != 0) = true := by simpa using h
    clear ha hb bX bY h hcc
    go_enter Tryz.func34, Tryz.ntmps34
    go_wp2_with (first
      | (go_at_call 66; refine HC.out.mono ?_; rintro e w1 ⟨rfl, hb1⟩))
    go_ret
    exact ⟨by rw [HE.out]; rfl, hB1.trans (hb1.mono hB1.size)⟩

end Go.Proofs.YtofhgaioidfdmaaGreat.Delta

namespace Go.Proofs.YtofhgaioidfdmaaGreat.Delta
open Go.RowKit Mem _root_.Go.Proofs.YtofhgaioidfdmaaGreat.Arena _root_.Go.Proofs.YtofhgaioidfdmaaGreat.Path
set_option linter.unusedVariables false
attribute [local go_sem ↓] Go.wp_at_zero Go.wp_at_succ

theorem snoc_nd {l : List Nd} {k : Nat} {x : Nd} (h : l[k]? = some x) : l.take (k + 1) = l.take k ++ [x] := by rw [List.take_add_one, h]; rfl
theorem snoc_dr {l : List Nd} {b k : Nat} {x : Nd} (hb : b ≤ k) (h : l[k]? = some x) : (l.drop b).take (k + 1 - b) = (l.drop b).take (k - b) ++ [x] := by
  rw [show k + 1 - b = (k - b) + 1 by omega, List.take_add_one, List.getElem?_drop, show b + (k - b) = k by omega, h]; rfl

set_option maxRecDepth 100000 in
set_option maxHeartbeats 4000000 in
theorem ref_swap_any (A : Option Addr) (c : Nat) (l : List Nd) (a b : Nat) (A' : Option Addr) (c' : Nat) (m : List Nd) (w : World) (hx : Nodes w w.heap.size A l) (hl : l.length ≤ 1000000) (hm : Nodes w w.heap.size A' m) (hml : m.length ≤ 1000000) (ha : a ≤ l.length) (hb : b ≤ l.length) :
    Calls Tryz.prog 111 #[.slice A l.length c, .int .i64 a, .int .i64 b, .slice A' m.length c'] w (NodesEnds (swap l a b m) w) := by
  have HX := Lib.hid hx
  have HM := Lib.hid hm
  have HN := Lib.hid (fun (W : World) (x : Nd) => (Nodes.of_blk (Blk.new W 54 #[.int .i64 x.1, .int .i64 x.2]) (Nat.lt_succ_self _) : Nodes (W.alloc (.cells #[.int .i64 x.1, .int .i64 x.2] 54)) (W.heap.size + 1) (some ⟨W.heap.size, 0, none⟩) [x]))
  have HO0 := Lib.hid (World.ownsRow_nil w w.heap.size 54 2)
  clear hx hm
  go_enter Tryz.func111, Tryz.ntmps111
  go_wp2
  go_loopw [9, 10] (fun o i wr => ∃ k : Nat, k ≤ a ∧ i = .int .i64 k ∧ Below w.heap.size w wr ∧ wr.ownsRow w.heap.size 54 2 o (l.take k).length (ncells (l.take k))) (fun _ i _ => a - (intOf i).toNat)
  case atStart => exact ⟨0, by omega, rfl, Below.refl _ _, HO0.out⟩
  case round =>
    obtain ⟨k, hk, rfl, hB, hO⟩ := hrel
    by_cases hlt : k < a
    · have i1 : (k : Int) < (a : Int) := by omega
      have i2 : (k : Int) < (l.length : Int) := by omega
      have i3 : (0 : Int) ≤ (k : Int) := by omega
      obtain ⟨x, hxk⟩ : ∃ x, l[k]? = some x := ⟨_, List.getElem?_eq_getElem (by omega)⟩
      obtain ⟨ad, rfl, hbk, g0, g1⟩ := (HX.out.below hB) k x hxk
      have HS := Lib.hid (snoc_nd hxk)
      have hlen : (l.take k).length ≤ 1000000 := by rw [List.length_take]; omega
      have hB2 := hB.alloc hB.size (.cells #[.int .i64 x.1, .int .i64 x.2] 54)
      clear hxk
      go_wp2_with (first
        | (at_builtin; refine append_nodes rfl _ _ rfl w.heap.size hB2.size _ _ rfl (hO.alloc _) _ (some ⟨_, 0, none⟩) 1 [x] 1 rfl rfl (fun e => by cases e) (HN.out _ x) (by simp only [List.length_singleton]; omega) ?_; intro v3 w3 hown3 hg3 _; have hB3 := hB2.grown hg3 hB2.size (fun i e => (hO.lt i e).1)))
      go_roundw
      case rel => exact ⟨k + 1, by omega, by go_num, hB3, by rw [HS.out]; exact hown3⟩
      case measure => simp [intOf]; omega
    · obtain rfl : k = a := by omega
      have i1 : ¬ (k : Int) < (k : Int) := by omega
      have HL1 := Lib.hid (show (l.take k).length ≤ 1000000 by rw [List.length_take]; omega)
      go_wp2
      go_loopw [9, 11] (fun o i wr => ∃ k2 : Nat, k2 ≤ m.length ∧ i = .int .i64 k2 ∧ Below w.heap.size w wr ∧ wr.ownsRow w.heap.size 54 2 o (l.take k ++ m.take k2).length (ncells (l.take k ++ m.take k2))) (fun _ i _ => m.length - (intOf i).toNat)
      case atStart => exact ⟨0, by omega, rfl, hB, by rw [List.take_zero, List.append_nil]; exact hO⟩
      case round =>
        clear hO hB
        obtain ⟨k2, hk2, rfl, hB, hO⟩ := hrel
        by_cases hlt2 : k2 < m.length
        · have i4 : (k2 : Int) < (m.length : Int) := by omega
          have i3 : (0 : Int) ≤ (k2 : Int) := by omega
          obtain ⟨x, hxk⟩ : ∃ x, m[k2]? = some x := ⟨_, List.getElem?_eq_getElem (by omega)⟩
          obtain ⟨ad, rfl, hbk, g0, g1⟩ := (HM.out.below hB) k2 x hxk
          have HS := Lib.hid (show l.take k ++ m.take (k2 + 1) = (l.take k ++ m.take k2) ++ [x] by rw [snoc_nd hxk, List.append_assoc])
          have hlen : (l.take k ++ m.take k2).length ≤ 2000000 := by rw [List.length_append, List.length_take, List.length_take]; omega
          have hB2 := hB.alloc hB.size (.cells #[.int .i64 x.1, .int .i64 x.2] 54)
          clear hxk
          go_wp2_with (first
            | (at_builtin; refine append_nodes rfl _ _ rfl w.heap.size hB2.size _ _ rfl (hO.alloc _) _ (some ⟨_, 0, none⟩) 1 [x] 1 rfl rfl (fun e => by cases e) (HN.out _ x) (by simp only [List.length_singleton]; omega) ?_; intro v3 w3 hown3 hg3 _; have hB3 := hB2.grown hg3 hB2.size (fun i e => (hO.lt i e).1)))
          go_roundw
          case rel => exact ⟨k2 + 1, by omega, by go_num, hB3, by rw [HS.out]; exact hown3⟩
          case measure => simp [intOf]; omega
        · obtain rfl : k2 = m.length := by omega
          have i4 : ¬ (m.length : Int) < (m.length : Int) := by omega
          rw [List.take_length] at hO
          go_wp2
          go_loopw [9, 12] (fun o i wr => ∃ k3 : Nat, b ≤ k3 ∧ k3 ≤ l.length ∧ i = .int .i64 k3 ∧ Below w.heap.size w wr ∧ wr.ownsRow w.heap.size 54 2 o (l.take k ++ m ++ (l.drop b).take (k3 - b)).length (ncells (l.take k ++ m ++ (l.drop b).take (k3 - b)))) (fun _ i _ => l.length - (intOf i).toNat)
          case atStart => exact ⟨b, Nat.le_refl _, hb, rfl, hB, by rw [Nat.sub_self, List.take_zero, List.append_nil]; exact hO⟩
          case round =>
            clear hO hB
            obtain ⟨k3, hk3, hk4, rfl, hB, hO⟩ := hrel
            by_cases hlt3 : k3 < l.length
            · have i5 : (k3 : Int) < (l.length : Int) := by omega
              have i3 : (0 : Int) ≤ (k3 : Int) := by omega
              obtain ⟨x, hxk⟩ : ∃ x, l[k3]? = some x := ⟨_, List.getElem?_eq_getElem (by omega)⟩
              obtain ⟨ad, rfl, hbk, g0, g1⟩ := (HX.out.below hB) k3 x hxk
              have HS := Lib.hid (show l.take k ++ m ++ (l.drop b).take (k3 + 1 - b) = (l.take k ++ m ++ (l.drop b).take (k3 - b)) ++ [x] by rw [snoc_dr hk3 hxk]; simp)
              have hlen : (l.take k ++ m ++ (l.drop b).take (k3 - b)).length ≤ 3000000 := by rw [List.length_append, List.length_append, List.length_take, List.length_take, List.length_drop]; omega
              have hB2 := hB.alloc hB.size (.cells #[.int .i64 x.1, .int .i64 x.2] 54)
              clear hxk
              go_wp2_with (first
                | (at_builtin; refine append_nodes rfl _ _ rfl w.heap.size hB2.size _ _ rfl (hO.alloc _) _ (some ⟨_, 0, none⟩) 1 [x] 1 rfl rfl (fun e => by cases e) (HN.out _ x) (by simp only [List.length_singleton]; omega) ?_; intro v3 w3 hown3 hg3 _; have hB3 := hB2.grown hg3 hB2.size (fun i e => (hO.lt i e).1)))
              go_roundw
              case rel => exact ⟨k3 + 1, by omega, by omega, by go_num, hB3, by rw [HS.out]; exact hown3⟩
              case measure => simp [intOf]; omega
            · obtain rfl : k3 = l.length := by omega
              have i5 : ¬ (l.length : Int) < (l.length : Int) := by omega
              rw [show (l.drop b).take (l.length - b) = l.drop b from List.take_of_length_le (by rw [List.length_drop]; omega)] at hO
              obtain ⟨R, hR⟩ : ∃ R, l.take k ++ m ++ l.drop b = R := ⟨_, rfl⟩
              rw [hR] at hO
              have HR := Lib.hid (show swap l k b m = R from hR)
              clear hR
              obtain ⟨A3, c3, rfl, hc3, hA3, hN3⟩ := own_nodes hO
              go_wp2
              go_ret
              rw [HR.out]
              exact ⟨hB, A3, c3, rfl, hc3, hA3, hN3⟩

end Go.Proofs.YtofhgaioidfdmaaGreat.Delta

namespace Go.Proofs.YtofhgaioidfdmaaGreat.Delta
open Go.RowKit Mem _root_.Go.Proofs.YtofhgaioidfdmaaGreat.Arena _root_.Go.Proofs.YtofhgaioidfdmaaGreat.Path
set_option linter.unusedVariables false
attribute [local go_sem ↓] Go.wp_at_zero Go.wp_at_succ

theorem large_split (t : Int) : t = 21 ∨ t = 22 ∨ t = 23 ∨ t = 24 ∨ t = 25 ∨ ((t == 21) = false ∧ (t == 22) = false ∧ (t == 23) = false ∧ (t == 24) = false ∧ (t == 25) = false) := by
  simp only [beq_eq_false_iff_ne]
  omega
def large (t : Int) : Bool := decide (t = 21 ∨ t = 22 ∨ t = 23 ∨ t = 24 ∨ t = 25)
theorem large_no {t : Int} (h : (t == 21) = false ∧ (t == 22) = false ∧ (t == 23) = false ∧ (t == 24) = false ∧ (t == 25) = false) : large t = false := by
  simp only [beq_eq_false_iff_ne] at h
  unfold large
  exact decide_eq_false (by omega)
theorem ops_split (op : Int) : op = 1 ∨ op = 2 ∨ op = 3 ∨ op = 4 ∨ op = 5 ∨ op = 6 ∨ op = 7 ∨ ((op == 1) = false ∧ (op == 2) = false ∧ (op == 3) = false ∧ (op == 4) = false ∧ (op == 5) = false ∧ (op == 6) = false ∧ (op == 7) = false) := by
  simp only [beq_eq_false_iff_ne]
  omega
theorem dmay_no {t op n : Int} (h : (op == 1) = false ∧ (op == 2) = false ∧ (op == 3) = false ∧ (op == 4) = false ∧ (op == 5) = false ∧ (op == 6) = false ∧ (op == 7) = false) : dmay t op n = false := by
  simp only [beq_eq_false_iff_ne] at h
  unfold dmay
  rw [if_neg (by omega), if_neg (by omega), if_neg (by omega), if_neg (by omega), if_neg (by omega), if_neg (by omega), if_neg (by omega)]

set_option maxRecDepth 100000 in
set_option maxHeartbeats 4000000 in
theorem ref_may_any (t k op n : Int) (w : World) :
    Calls Tryz.prog 72 #[.agg #[.int .i64 t, .int .i64 k], .int .i64 op, .int .i64 n] w fun e w' => e = .returned (.bool (dmay t op n)) ∧ Below w.heap.size w w' := by
  have hB0 : Below w.heap.size w (w.alloc (.cells #[.int .i64 t, .int .i64 k] 54)) := (Below.refl _ _).alloc (Nat.le_refl _) _
  obtain ⟨x0, x1⟩ := (Blk.new w 54 #[.int .i64 t, .int .i64 k]).two
  have HB := Lib.hid (fun n lo hi W => ref_between_any n lo hi W)
  have HL := Lib.hid (large_split t)
  have HO := Lib.hid (ops_split op)
  go_enter Tryz.func72, Tryz.ntmps72
  go_upto_region 2 with fail
  generalize w.alloc (.cells #[.int .i64 t, .int .i64 k] 54) = w1 at *
  go_cut [8] from 11 to 29 (fun c wx => c = .bool (large t) ∧ wx = w1)
  case first =>
    rcases HL.out with rfl | rfl | rfl | rfl | rfl | h
    · go_wp2_with fail
      go_meet
      exact ⟨rfl, rfl⟩
    · go_wp2_with fail
      go_meet
      exact ⟨rfl, rfl⟩
    · go_wp2_with fail
      go_meet
      exact ⟨rfl, rfl⟩
    · go_wp2_with fail
      go_meet
      exact ⟨rfl, rfl⟩
    · go_wp2_with fail
      go_meet
      exact ⟨rfl, rfl⟩
    · have HF := Lib.hid (large_no h)
      obtain ⟨e1, e2, e3, e4, e5⟩ := h
      go_wp2_with fail
      go_meet
      exact ⟨by rw [HF.out], rfl⟩
  case rest =>
    obtain ⟨rfl, rfl⟩ := hcut
    rcases HO.out with rfl | rfl | rfl | rfl | rfl | rfl | rfl | ho
    · have HE := Lib.hid (show dmay t 1 n = (bt t 7 11 && bt n 7 11) from rfl)
      cases h1 : bt t 7 11
      all_goals rw [h1] at HE
      all_goals go_wp2_with (go_at_call 110; refine (HB.out _ _ _ _).mono ?_; rintro e w1 ⟨rfl, rfl⟩)
      all_goals go_ret
      all_goals exact ⟨by rw [HE.out]; rfl, hB0⟩
    · have HE := Lib.hid (show dmay t 2 n = (bt t 12 17 && bt n 12 17) from rfl)
      cases h1 : bt t 12 17
      all_goals rw [h1] at HE
      all_goals go_wp2_with (go_at_call 110; refine (HB.out _ _ _ _).mono ?_; rintro e w1 ⟨rfl, rfl⟩)
      all_goals go_ret
      all_goals exact ⟨by rw [HE.out]; rfl, hB0⟩
    · have HE := Lib.hid (show dmay t 3 n = (bt t 18 19 && bt n 18 19) from rfl)
      cases h1 : bt t 18 19
      all_goals rw [h1] at HE
      all_goals go_wp2_with (go_at_call 110; refine (HB.out _ _ _ _).mono ?_; rintro e w1 ⟨rfl, rfl⟩)
      all_goals go_ret
      all_goals exact ⟨by rw [HE.out]; rfl, hB0⟩
    · have HE := Lib.hid (show dmay t 4 n = (decide (t = 1) || (decide (t = 2) && bt n 0 1)) from rfl)
      by_cases t1 : t = 1
      · subst t1
        go_wp2_with fail
        go_ret
        exact ⟨by rw [HE.out]; rfl, hB0⟩
      by_cases t2 : t = 2
      · subst t2
        go_wp2_with (go_at_call 110; refine (HB.out _ _ _ _).mono ?_; rintro e w2 ⟨rfl, rfl⟩)
        go_ret
        exact ⟨by rw [HE.out]; rfl, hB0⟩
      · have e1 : (t == 1) = false := by simpa using t1
        have e2 : (t == 2) = false := by simpa using t2
        rw [decide_eq_false t1, decide_eq_false t2] at HE
        clear t1 t2
        go_wp2_with fail
        go_ret
        exact ⟨by rw [HE.out]; rfl, hB0⟩
    · have HE := Lib.hid (show dmay t 5 n = (large t && decide (n = 0)) from rfl)
      generalize large t = b1 at *
      by_cases h0 : n = 0
      · subst h0
        cases b1
        all_goals go_wp2_with fail
        all_goals go_ret
        all_goals exact ⟨by rw [HE.out]; rfl, hB0⟩
      · have e0 : (n == 0) = false := by simpa using h0
        rw [decide_eq_false h0] at HE
        clear h0
        cases b1
        all_goals go_wp2_with fail
        all_goals go_ret
        all_goals exact ⟨by rw [HE.out]; rfl, hB0⟩
    · have HE := Lib.hid (show dmay t 6 n = (decide (t = 23 ∨ t = 24) && decide (n = 0)) from rfl)
      have ht : t = 23 ∨ t = 24 ∨ ((t == 23) = false ∧ (t == 24) = false ∧ decide (t = 23 ∨ t = 24) = false) := by
        simp only [beq_eq_false_iff_ne, decide_eq_false_iff_not]
        omega
      by_cases h0 : n = 0
      · subst h0
        rcases ht with rfl | rfl | ⟨e1, e2, e3⟩
        · go_wp2_with fail
          go_ret
          exact ⟨by rw [HE.out]; rfl, hB0⟩
        · go_wp2_with fail
          go_ret
          exact ⟨by rw [HE.out]; rfl, hB0⟩
        · rw [e3] at HE
          clear e3
          go_wp2_with fail
          go_ret
          exact ⟨by rw [HE.out]; rfl, hB0⟩
      · have e0 : (n == 0) = false := by simpa using h0
        rw [decide_eq_false h0] at HE
        clear h0
        rcases ht with rfl | rfl | ⟨e1, e2, e3⟩
        · go_wp2_with fail
          go_ret
          exact ⟨by rw [HE.out]; rfl, hB0⟩
        · go_wp2_with fail
          go_ret
          exact ⟨by rw [HE.out]; rfl, hB0⟩
        · rw [e3] at HE
          clear e3
          go_wp2_with fail
          go_ret
          exact ⟨by rw [HE.out]; rfl, hB0⟩
    · have HE := Lib.hid (show dmay t 7 n = decide (t = 25) from rfl)
      by_cases t1 : t = 25
      · subst t1
        go_wp2_with fail
        go_ret
        exact ⟨by rw [HE.out]; rfl, hB0⟩
      · have e1 : (t == 25) = false := by simpa using t1
        rw [decide_eq_false t1] at HE
        clear t1
        go_wp2_with fail
        go_ret
        exact ⟨by rw [HE.out]; rfl, hB0⟩
    · have HE := Lib.hid (dmay_no (t := t) (n := n) ho)
      obtain ⟨e1, e2, e3, e4, e5, e6, e7⟩ := ho
      go_wp2_with fail
      go_ret
      exact ⟨by rw [HE.out]; rfl, hB0⟩

end Go.Proofs.YtofhgaioidfdmaaGreat.Delta

namespace Go.Proofs.YtofhgaioidfdmaaGreat.Delta
open Go.RowKit Mem _root_.Go.Proofs.YtofhgaioidfdmaaGreat.Arena _root_.Go.Proofs.YtofhgaioidfdmaaGreat.Path
set_option linter.unusedVariables false
attribute [local go_sem ↓] Go.wp_at_zero Go.wp_at_succ

theorem dmay_op {t op v : Int} (h : dmay t op v = true) : op = 1 ∨ op = 2 ∨ op = 3 ∨ op = 4 ∨ op = 5 ∨ op = 6 ∨ op = 7 := by
  rcases ops_split op with q | q | q | q | q | q | q | q
  all_goals try omega
  rw [dmay_no q] at h
  cases h
/-- The first kid of a Return. -/
theorem ret_kid {l : List Nd} {a n : Nat} {x : Nd} (h : scan 1 (l.drop a) = some n) (hx : l[a]? = some x) {v : Int} (hm : dmay x.1 7 v = true) : ∃ n1, scan 1 (l.drop (a + 1)) = some n1 ∧ a + 1 + n1 ≤ l.length := by
  have ha : a < l.length := (List.getElem?_eq_some_iff.1 hx).1
  have hm' : x.1 = 25 := by
    have : dmay x.1 7 v = decide (x.1 = 25) := rfl
    rw [this, decide_eq_true_eq] at hm
    exact hm
  have hd : l.drop a = x :: l.drop (a + 1) := by
    rw [List.drop_eq_getElem_cons ha]
    rw [List.getElem?_eq_getElem ha] at hx
    rw [Option.some.inj hx]
  have har : 0 ≤ ar x := by
    by_cases c : ar x < 0
    · rw [hd, show (1 : Nat) = 0 + 1 from rfl, scan_bad c] at h; cases h
    · omega
  have ha1 : ar x = 1 := by
    unfold ar at har ⊢
    rw [hm'] at har ⊢
    rw [if_neg (by decide)] at har ⊢
    split
    · rename_i c; rw [if_pos c] at har; omega
    · unfold asks; simp
  rw [hd, show (1 : Nat) = 0 + 1 from rfl, scan_good har, ha1, Option.map_eq_some_iff] at h
  obtain ⟨n1, h1, rfl⟩ := h
  have h1' : scan 1 (l.drop (a + 1)) = some n1 := h1
  have hl1 := scan_le _ _ _ h1'
  rw [List.length_drop] at hl1
  exact ⟨n1, h1', by omega⟩

set_option maxRecDepth 100000 in
set_option maxHeartbeats 4000000 in
/-- All but Return (that one draws: DeltaRefE). -/
theorem ref_changed_six (A : Option Addr) (c : Nat) (l : List Nd) (a n : Nat) (x : Nd) (d : Dlt) (w : World) (hx : Nodes w w.heap.size A l) (hl : l.length ≤ 1000000) (h : scan 1 (l.drop a) = some n) (hxa : l[a]? = some x) (hm : dmay x.1 d.op d.n = true) (h7 : d.op ≠ 7) :
    Calls Tryz.prog 73 #[.slice A l.length c, .int .i64 a, .agg #[.slice d.A d.p.length d.c, .int .i64 d.op, .int .i64 d.n]] w (NodesEnds (dch l a d.op d.n) w) := by
  obtain ⟨DA, dc, p, op, v⟩ := d
  simp only at *
  have hal : a < l.length := (List.getElem?_eq_some_iff.1 hxa).1
  have hB1 : Below w.heap.size w (w.alloc (.cells #[.slice DA p.length dc, .int .i64 op, .int .i64 v] 34)) := (Below.refl _ _).alloc (Nat.le_refl _) _
  obtain ⟨ad, rfl, hbk, g0, g1⟩ := (hx.below hB1) a x hxa
  have hB2 := hB1.alloc hB1.size (.cells #[.int .i64 x.1, .int .i64 x.2] 54)
  have bZ := (Blk.new w 34 #[.slice DA p.length dc, .int .i64 op, .int .i64 v]).alloc (.cells #[.int .i64 x.1, .int .i64 x.2] 54)
  obtain ⟨z0, z1, z2⟩ := bZ.three
  have bY := Blk.new (w.alloc (.cells #[.slice DA p.length dc, .int .i64 op, .int .i64 v] 34)) 54 #[.int .i64 x.1, .int .i64 x.2]
  rw [World.size_alloc] at bY
  obtain ⟨y0, y1⟩ := bY.two
  have HX := Lib.hid hx
  have HZ := Lib.hid bZ
  have HSW := Lib.hid (fun (f t : Nat) (y : Nd) (F T : Int) (hF : F = f) (hT : T = t) (W : World) (hf : f ≤ l.length) (ht : t ≤ l.length) (hW : Below w.heap.size w W) (G : Nat) (hG : G = W.heap.size) =>
    (show Calls Tryz.prog 111 #[.slice (some ad) l.length c, .int .i64 F, .int .i64 T, .slice (some ⟨G, 0, none⟩) 1 1] (W.alloc (.cells #[.int .i64 y.1, .int .i64 y.2] 54)) (NodesEnds (swap l f t [y]) (W.alloc (.cells #[.int .i64 y.1, .int .i64 y.2] 54))) by
      subst hF hT hG
      exact ref_swap_any (some ad) c l f t (some ⟨W.heap.size, 0, none⟩) 1 [y] _ (HX.out.at (hW.alloc hW.size _)) hl (Nodes.of_blk (Blk.new W _ _) (by simp)) (by simp) hf ht))
  have HEN := Lib.hid (fun q W hW => ref_End_any (some ad) c l q W hW hl)
  have HG := Lib.hid (getD_at hxa)
  have v1 : IntKind.i64.wrap ((a : Int) + 1) = (a : Int) + 1 := IntWalk.i64_in _ (by omega)
  have i0 : (0 : Int) ≤ (a : Int) := by omega
  have i1 : (a : Int) < (l.length : Int) := by omega
  rcases dmay_op hm with rfl | rfl | rfl | rfl | rfl | rfl | rfl
  · have HE := Lib.hid (show dch l a 1 v = swap l a (a + 1) [(v, x.2)] by unfold dch; rw [if_pos (by omega), HG.out])
    clear hx h hxa hm bZ bY
    go_enter Tryz.func73, Tryz.ntmps73
    go_wp2_with (go_at_call 111; refine (HSW.out a (a + 1) ((v, x.2)) _ _ (by omega) (by omega) _ (by omega) (by omega) hB2 _ (by simp only [World.size_alloc])).mono ?_; rintro e w4 ⟨hb4, A4, c4, rfl, hc4, hA4, hN4⟩)
    go_ret
    rw [HE.out]
    exact ⟨(hB2.alloc hB2.size _).trans (hb4.mono (hB2.alloc hB2.size _).size), A4, c4, rfl, hc4, hA4, hN4⟩
  · have HE := Lib.hid (show dch l a 2 v = swap l a (a + 1) [(v, x.2)] by unfold dch; rw [if_pos (by omega), HG.out])
    clear hx h hxa hm bZ bY
    go_enter Tryz.func73, Tryz.ntmps73
    go_wp2_with (go_at_call 111; refine (HSW.out a (a + 1) ((v, x.2)) _ _ (by omega) (by omega) _ (by omega) (by omega) hB2 _ (by simp only [World.size_alloc])).mono ?_; rintro e w4 ⟨hb4, A4, c4, rfl, hc4, hA4, hN4⟩)
    go_ret
    rw [HE.out]
    exact ⟨(hB2.alloc hB2.size _).trans (hb4.mono (hB2.alloc hB2.size _).size), A4, c4, rfl, hc4, hA4, hN4⟩
  · have HE := Lib.hid (show dch l a 3 v = swap l a (a + 1) [(v, x.2)] by unfold dch; rw [if_pos (by omega), HG.out])
    clear hx h hxa hm bZ bY
    go_enter Tryz.func73, Tryz.ntmps73
    go_wp2_with (go_at_call 111; refine (HSW.out a (a + 1) ((v, x.2)) _ _ (by omega) (by omega) _ (by omega) (by omega) hB2 _ (by simp only [World.size_alloc])).mono ?_; rintro e w4 ⟨hb4, A4, c4, rfl, hc4, hA4, hN4⟩)
    go_ret
    rw [HE.out]
    exact ⟨(hB2.alloc hB2.size _).trans (hb4.mono (hB2.alloc hB2.size _).size), A4, c4, rfl, hc4, hA4, hN4⟩
  · have HE := Lib.hid (show dch l a 4 v = swap l a (a + 1) [(x.1, v)] by unfold dch; rw [if_neg (by omega), if_pos rfl, HG.out])
    clear hx h hxa hm bZ bY
    go_enter Tryz.func73, Tryz.ntmps73
    go_wp2_with (go_at_call 111; refine (HSW.out a (a + 1) ((x.1, v)) _ _ (by omega) (by omega) _ (by omega) (by omega) hB2 _ (by simp only [World.size_alloc])).mono ?_; rintro e w4 ⟨hb4, A4, c4, rfl, hc4, hA4, hN4⟩)
    go_ret
    rw [HE.out]
    exact ⟨(hB2.alloc hB2.size _).trans (hb4.mono (hB2.alloc hB2.size _).size), A4, c4, rfl, hc4, hA4, hN4⟩
  · have he : aend l a = ((a + n : Nat) : Int) := by rw [aend_some h]; omega
    have hln := scan_le _ _ _ h
    rw [List.length_drop] at hln
    have HE := Lib.hid (show dch l a 5 v = swap l a (a + n) [(26, 0)] by unfold dch; rw [if_neg (by omega), if_neg (by omega), if_pos rfl, he, Int.toNat_natCast])
    have HQ := Lib.hid (fun W hW => (show Calls Tryz.prog 62 #[.slice (some ad) l.length c, .int .i64 a] W (fun e w' => e = .returned (.int .i64 ((a + n : Nat) : Int)) ∧ Below W.heap.size W w') from he ▸ HEN.out (a : Int) W hW))
    clear hx h hxa hm bZ bY he
    go_enter Tryz.func73, Tryz.ntmps73
    go_wp2_with (first
      | (go_at_call 62; refine (HQ.out _ (HX.out.at hB2)).mono ?_; rintro e w3 ⟨rfl, hb3⟩; have hB3 := hB2.trans (hb3.mono hB2.size))
      | (go_at_call 111; refine (HSW.out a (a + n) (26, 0) _ _ (by omega) (by omega) _ (by omega) (by omega) hB3 _ rfl).mono ?_; rintro e w4 ⟨hb4, A4, c4, rfl, hc4, hA4, hN4⟩))
    go_ret
    rw [HE.out]
    exact ⟨(hB3.alloc hB3.size _).trans (hb4.mono (hB3.alloc hB3.size _).size), A4, c4, rfl, hc4, hA4, hN4⟩
  · have HE := Lib.hid (show dch l a 6 v = swap l (a + 1) (a + 1) [(6, 0)] by unfold dch; rw [if_neg (by omega), if_neg (by omega), if_neg (by omega), if_pos rfl])
    clear hx h hxa hm bZ bY
    go_enter Tryz.func73, Tryz.ntmps73
    go_wp2_with (go_at_call 111; refine (HSW.out (a + 1) (a + 1) ((6, 0)) _ _ (by omega) (by omega) _ (by omega) (by omega) hB2 _ (by simp only [World.size_alloc])).mono ?_; rintro e w4 ⟨hb4, A4, c4, rfl, hc4, hA4, hN4⟩)
    go_ret
    rw [HE.out]
    exact ⟨(hB2.alloc hB2.size _).trans (hb4.mono (hB2.alloc hB2.size _).size), A4, c4, rfl, hc4, hA4, hN4⟩
  · exact absurd rfl h7

end Go.Proofs.YtofhgaioidfdmaaGreat.Delta

namespace Go.Proofs.YtofhgaioidfdmaaGreat.Delta
open Go.RowKit Mem _root_.Go.Proofs.YtofhgaioidfdmaaGreat.Arena _root_.Go.Proofs.YtofhgaioidfdmaaGreat.Path
set_option linter.unusedVariables false
attribute [local go_sem ↓] Go.wp_at_zero Go.wp_at_succ

set_option maxRecDepth 100000 in
set_option maxHeartbeats 4000000 in
theorem ref_changed_ret (A : Option Addr) (c : Nat) (l : List Nd) (a n : Nat) (x : Nd) (d : Dlt) (w : World) (hx : Nodes w w.heap.size A l) (hl : l.length ≤ 1000000) (h : scan 1 (l.drop a) = some n) (hxa : l[a]? = some x) (hm : dmay x.1 d.op d.n = true) (h7 : d.op = 7) :
    Calls Tryz.prog 73 #[.slice A l.length c, .int .i64 a, .agg #[.slice d.A d.p.length d.c, .int .i64 d.op, .int .i64 d.n]] w (NodesEnds (dch l a d.op d.n) w) := by
  obtain ⟨DA, dc, p, op, v⟩ := d
  simp only at *
  have hal : a < l.length := (List.getElem?_eq_some_iff.1 hxa).1
  have hB1 : Below w.heap.size w (w.alloc (.cells #[.slice DA p.length dc, .int .i64 op, .int .i64 v] 34)) := (Below.refl _ _).alloc (Nat.le_refl _) _
  obtain ⟨ad, rfl, hbk, g0, g1⟩ := (hx.below hB1) a x hxa
  have hB2 := hB1.alloc hB1.size (.cells #[.int .i64 x.1, .int .i64 x.2] 54)
  have bZ := (Blk.new w 34 #[.slice DA p.length dc, .int .i64 op, .int .i64 v]).alloc (.cells #[.int .i64 x.1, .int .i64 x.2] 54)
  obtain ⟨z0, z1, z2⟩ := bZ.three
  have bY := Blk.new (w.alloc (.cells #[.slice DA p.length dc, .int .i64 op, .int .i64 v] 34)) 54 #[.int .i64 x.1, .int .i64 x.2]
  rw [World.size_alloc] at bY
  obtain ⟨y0, y1⟩ := bY.two
  have HX := Lib.hid hx
  have HZ := Lib.hid bZ
  have HSW := Lib.hid (fun (f t : Nat) (y : Nd) (F T : Int) (hF : F = f) (hT : T = t) (W : World) (hf : f ≤ l.length) (ht : t ≤ l.length) (hW : Below w.heap.size w W) (G : Nat) (hG : G = W.heap.size) =>
    (show Calls Tryz.prog 111 #[.slice (some ad) l.length c, .int .i64 F, .int .i64 T, .slice (some ⟨G, 0, none⟩) 1 1] (W.alloc (.cells #[.int .i64 y.1, .int .i64 y.2] 54)) (NodesEnds (swap l f t [y]) (W.alloc (.cells #[.int .i64 y.1, .int .i64 y.2] 54))) by
      subst hF hT hG
      exact ref_swap_any (some ad) c l f t (some ⟨W.heap.size, 0, none⟩) 1 [y] _ (HX.out.at (hW.alloc hW.size _)) hl (Nodes.of_blk (Blk.new W _ _) (by simp)) (by simp) hf ht))
  have HEN := Lib.hid (fun q W hW => ref_End_any (some ad) c l q W hW hl)
  have HG := Lib.hid (getD_at hxa)
  have v1 : IntKind.i64.wrap ((a : Int) + 1) = (a : Int) + 1 := IntWalk.i64_in _ (by omega)
  have i0 : (0 : Int) ≤ (a : Int) := by omega
  have i1 : (a : Int) < (l.length : Int) := by omega
  subst h7
  obtain ⟨n1, hn1, hn2⟩ := ret_kid h hxa hm
  have he : aend l ((a : Int) + 1) = ((a + 1 + n1 : Nat) : Int) := by rw [show (a : Int) + 1 = ((a + 1 : Nat) : Int) by omega, aend_some hn1]; omega
  have HE := Lib.hid (show dch l a 7 v = swap l (a + 1) (a + 1 + n1) [(1, v)] by unfold dch; rw [if_neg (by omega), if_neg (by omega), if_neg (by omega), if_neg (by omega), show ((a + 1 : Nat) : Int) = (a : Int) + 1 by omega, he, Int.toNat_natCast])
  have HQ := Lib.hid (fun W hW => (show Calls Tryz.prog 62 #[.slice (some ad) l.length c, .int .i64 ((a : Int) + 1)] W (fun e w' => e = .returned (.int .i64 ((a + 1 + n1 : Nat) : Int)) ∧ Below W.heap.size W w') from he ▸ HEN.out ((a : Int) + 1) W hW))
  have hC := z2
  clear hx h hxa hm bZ bY he hn1
  go_enter Tryz.func73, Tryz.ntmps73
  go_upto_region 13 with fail
  have HSG := Lib.hid (fun (f t : Nat) (y1 y2 : Int) (F T : Int) (hF : F = f) (hT : T = t) (W : World) (hf : f ≤ l.length) (ht : t ≤ l.length) (hW : Below w.heap.size w W) (G : Nat) (hG : Blk W G 54 #[.int .i64 y1, .int .i64 y2]) =>
    (show Calls Tryz.prog 111 #[.slice (some ad) l.length c, .int .i64 F, .int .i64 T, .slice (some ⟨G, 0, none⟩) 1 1] W (NodesEnds (swap l f t [(y1, y2)]) W) by
      subst hF hT
      exact ref_swap_any (some ad) c l f t (some ⟨G, 0, none⟩) 1 [(y1, y2)] _ (HX.out.at hW) hl (Nodes.of_blk hG hG.lt) (by simp) hf ht))
  have hf1 : a + 1 ≤ l.length := by omega
  have hf2 : a + 1 + n1 ≤ l.length := hn2
  have hD := hB2.drew
  have hN := (hB2.alloc hB2.size (.cells #[.int .i64 1, .int .i64 v] 54)).drew
  have HQD := Lib.hid (HQ.out _ (HX.out.at hD))
  have HQN := Lib.hid (HQ.out _ (HX.out.at hN))
  have hZN := (HZ.out.alloc (.cells #[.int .i64 1, .int .i64 v] 54)).drew
  have hCN := hZN.three.2.2
  have bN := (Blk.new ((w.alloc (.cells #[.slice DA p.length dc, .int .i64 7, .int .i64 v] 34)).alloc (.cells #[.int .i64 x.1, .int .i64 x.2] 54)) 54 #[.int .i64 1, .int .i64 v]).drew
  simp only [World.size_alloc] at bN
  go_region_held3 (fun w' => w'.cell? ⟨w.heap.size, 2, none⟩ = some (.int .i64 v)) (first | exact hC | exact hCN | exact (hZ3.alloc _).three.2.2) (first
    | (go_at_call 62; (with_reducible refine HQD.out.mono ?_); rintro e w3 ⟨rfl, hb3⟩; have hB3 := hD.trans (hb3.mono hD.size); have hZ3 := HZ.out.drew.below hb3 HZ.out.lt; have hC := hZ3.three.2.2; have hBE := hB3.alloc hB3.size (.cells #[.int .i64 1, .int .i64 v] 54); have hZE := hZ3.alloc (.cells #[.int .i64 1, .int .i64 v] 54); have bE := Blk.new w3 54 #[.int .i64 1, .int .i64 v])
    | (go_at_call 62; (with_reducible refine HQN.out.mono ?_); rintro e w3 ⟨rfl, hb3⟩; have hBE := hN.trans (hb3.mono hN.size); have hZE := hZN.below hb3 hZN.lt; have hC := hZE.three.2.2; have bE := bN.below hb3 bN.lt)
    | (go_at_call 111; refine (HSG.out (a + 1) (a + 1 + n1) 1 v _ _ ?_ ?_ _ hf1 hf2 hBE _ bE).mono ?_; omega; omega; rintro e w4 ⟨hb4, A4, c4, rfl, hc4, hA4, hN4⟩; have hC := (hZE.below hb4 hZE.lt).three.2.2))
  all_goals go_wp2_with fail
  all_goals go_ret
  all_goals rw [HE.out]
  all_goals exact ⟨hBE.trans (hb4.mono hBE.size), A4, c4, rfl, hc4, hA4, hN4⟩

set_option maxRecDepth 100000 in
/-- A body that is changed. -/
theorem ref_changed_any (A : Option Addr) (c : Nat) (l : List Nd) (a n : Nat) (x : Nd) (d : Dlt) (w : World) (hx : Nodes w w.heap.size A l) (hl : l.length ≤ 1000000) (h : scan 1 (l.drop a) = some n) (hxa : l[a]? = some x) (hm : dmay x.1 d.op d.n = true) :
    Calls Tryz.prog 73 #[.slice A l.length c, .int .i64 a, .agg #[.slice d.A d.p.length d.c, .int .i64 d.op, .int .i64 d.n]] w (NodesEnds (dch l a d.op d.n) w) := by
  by_cases h7 : d.op = 7
  · exact ref_changed_ret A c l a n x d w hx hl h hxa hm h7
  · exact ref_changed_six A c l a n x d w hx hl h hxa hm h7

end Go.Proofs.YtofhgaioidfdmaaGreat.Delta

namespace Go.Proofs.YtofhgaioidfdmaaGreat.Delta
open Go.RowKit Mem _root_.Go.Proofs.YtofhgaioidfdmaaGreat.Arena _root_.Go.Proofs.YtofhgaioidfdmaaGreat.Kinds _root_.Go.Proofs.YtofhgaioidfdmaaGreat.Path
set_option linter.unusedVariables false
attribute [local go_sem ↓] Go.wp_at_zero Go.wp_at_succ

/-- Nodes don't lie in a program's variable. -/
theorem nodes_off {w : World} {B R : Nat} {t : TypeId} {ad : Addr} {xs : List Nd} {k : Int} {a b : Value} (h : Nodes w B (some ad) xs) (hx : xs ≠ []) (hR : Blk w R t #[.int .i64 k, a, b]) (ha : ∀ z, a ≠ .int .i64 z) (hb : ∀ z, b ≠ .int .i64 z) : ad.block ≠ R := by
  intro he
  cases xs with
  | nil => exact hx rfl
  | cons x xs =>
    obtain ⟨ad', e, -, h1, h2⟩ := h 0 x rfl
    cases e
    rw [Nat.zero_mul, show ad.add 0 = ad by simp [Addr.add]] at h1 h2
    have c := fun (o : Nat) => hR.cell o
    obtain ⟨bk, o, m⟩ := ad
    simp only at he h1 h2
    subst he
    unfold Blk at hR
    have key : ∀ (o : Nat) (m : _) (v : Value), w.cell? ⟨bk, o, m⟩ = some v → (#[.int .i64 k, a, b] : Array Value)[o]? = some v := fun o m v q => by
      simp [World.cell?, hR] at q
      have q2 := q.2
      simpa using q2
    have k1 := key o m _ h1
    have k2 := key (o + 1) none _ h2
    match o, k1, k2 with
    | 0, _, k2 => simp at k2; exact ha _ k2
    | 1, k1, _ => simp at k1; exact ha _ k1
    | 2, k1, _ => simp at k1; exact hb _ k1
    | o + 3, k1, _ => simp at k1
theorem nodes_sets {w : World} {R : Nat} {t : TypeId} {A : Option Addr} {xs : List Nd} {k : Int} {a b : Value} (h : Nodes w w.heap.size A xs) (hR : Blk w R t #[.int .i64 k, a, b]) (ha : ∀ z, a ≠ .int .i64 z) (hb : ∀ z, b ≠ .int .i64 z) (v0 v1 v2 : Value) :
    Nodes (((w.setCell ⟨R, 0, none⟩ v0).setCell ⟨R, 1, none⟩ v1).setCell ⟨R, 2, none⟩ v2) (((w.setCell ⟨R, 0, none⟩ v0).setCell ⟨R, 1, none⟩ v1).setCell ⟨R, 2, none⟩ v2).heap.size A xs := by
  intro i x hx
  obtain ⟨ad, rfl, hlt, h1, h2⟩ := h i x hx
  have hne := nodes_off h (fun e => by rw [e] at hx; cases hx) hR ha hb
  have hk : ∀ q : Addr, q.block = ad.block → (((w.setCell ⟨R, 0, none⟩ v0).setCell ⟨R, 1, none⟩ v1).setCell ⟨R, 2, none⟩ v2).cell? q = w.cell? q := fun q hq => by
    refine World.cell?_of_block ?_
    rw [hq, Below.heap_setCell _ _ _ _ hne, Below.heap_setCell _ _ _ _ hne, Below.heap_setCell _ _ _ _ hne]
  exact ⟨ad, rfl, by simpa [World.setCell] using hlt, by rw [hk _ (add_blockN _ _)]; exact h1, by rw [hk ⟨(ad.add (i * 2)).block, (ad.add (i * 2)).off + 1, none⟩ (add_blockN _ _)]; exact h2⟩
theorem row_sets {w : World} {R : Nat} {A : Option Addr} {ks : List Int} (h : IRow w w.heap.size A ks) (hR : ∀ ad, A = some ad → ks ≠ [] → ad.block ≠ R) (v0 v1 v2 : Value) :
    IRow (((w.setCell ⟨R, 0, none⟩ v0).setCell ⟨R, 1, none⟩ v1).setCell ⟨R, 2, none⟩ v2) (((w.setCell ⟨R, 0, none⟩ v0).setCell ⟨R, 1, none⟩ v1).setCell ⟨R, 2, none⟩ v2).heap.size A ks := by
  intro i x hx
  obtain ⟨ad, rfl, hlt, h1⟩ := h i x hx
  have hne := hR ad rfl (fun e => by rw [e] at hx; simp at hx)
  refine ⟨ad, rfl, by simpa [World.setCell] using hlt, ?_⟩
  rw [← h1]
  refine World.cell?_of_block ?_
  rw [add_blockN, Below.heap_setCell _ _ _ _ hne, Below.heap_setCell _ _ _ _ hne, Below.heap_setCell _ _ _ _ hne]

theorem zero_ok (w : World) : Prg.Ok ⟨0, none, 0, [], none, 0, []⟩ w := ⟨fun i x h => by simp at h, fun i x h => by simp at h, by simp, by simp, by simp, by simp, fun _ => rfl, fun _ => rfl⟩

set_option maxRecDepth 100000 in
set_option maxHeartbeats 4000000 in
theorem ref_Apply_anyF (p : Prg) (d : Dlt) (w : World) (hp : p.Ok w) (hd : d.Ok w) (hx : p.xs.length ≤ 100000) :
    Calls Tryz.prog 37 #[.agg #[.int .i64 p.ps, .slice p.A p.vs.length p.c, .slice p.B p.xs.length p.e], .agg #[.slice d.A d.p.length d.c, .int .i64 d.op, .int .i64 d.n]] w (AEndsF p d w) := by
  obtain ⟨ps, A, c, vs, B, ce, xs⟩ := p
  obtain ⟨DA, dc, q, op, v⟩ := d
  simp only at *
  have hB1 : Below w.heap.size w (w.alloc (.cells #[.int .i64 ps, .slice A vs.length c, .slice B xs.length ce] 25)) := (Below.refl _ _).alloc (Nat.le_refl _) _
  have hB2 := hB1.alloc hB1.size (.cells #[.slice DA q.length dc, .int .i64 op, .int .i64 v] 34)
  have hB3 := hB2.alloc hB2.size (.cells #[.int .i64 0, .slice none 0 0, .slice none 0 0] 25)
  have bP := ((Blk.new w 25 #[.int .i64 ps, .slice A vs.length c, .slice B xs.length ce]).alloc (.cells #[.slice DA q.length dc, .int .i64 op, .int .i64 v] 34)).alloc (.cells #[.int .i64 0, .slice none 0 0, .slice none 0 0] 25)
  have bD := (Blk.new (w.alloc (.cells #[.int .i64 ps, .slice A vs.length c, .slice B xs.length ce] 25)) 34 #[.slice DA q.length dc, .int .i64 op, .int .i64 v]).alloc (.cells #[.int .i64 0, .slice none 0 0, .slice none 0 0] 25)
  have bR := Blk.new ((w.alloc (.cells #[.int .i64 ps, .slice A vs.length c, .slice B xs.length ce] 25)).alloc (.cells #[.slice DA q.length dc, .int .i64 op, .int .i64 v] 34)) 25 #[.int .i64 0, .slice none 0 0, .slice none 0 0]
  simp only [World.size_alloc] at bD bR
  obtain ⟨w3, hw3⟩ : ∃ w3, ((w.alloc (.cells #[.int .i64 ps, .slice A vs.length c, .slice B xs.length ce] 25)).alloc (.cells #[.slice DA q.length dc, .int .i64 op, .int .i64 v] 34)).alloc (.cells #[.int .i64 0, .slice none 0 0, .slice none 0 0] 25) = w3 := ⟨_, rfl⟩
  rw [hw3] at hB3 bP bD bR
  have HW3 := Lib.hid hw3
  have hp3 := hp.at hB3
  have hd3 := hd.at hB3
  have HF := Lib.hid (Path.ref_Find_any B ce xs DA dc q w3 hp3.body hp3.lx hd3.path hd3.len)
  obtain ⟨p0, p1, p2⟩ := bP.three
  obtain ⟨d0, d1, d2⟩ := bD.three
  have HP := Lib.hid hp
  have HD := Lib.hid hd
  have HBP := Lib.hid bP
  have HBD := Lib.hid bD
  have HBR := Lib.hid bR
  have hlR := bR.lt
  have hlD := bD.lt
  have hlP := bP.lt
  clear hB1 hB2 hw3 hp3 hd3 hp hd bP bD bR
  rcases find_cases xs q with hf | ⟨a, m, x, hf, hs, hxa, ham, hm1⟩
  · have HE := Lib.hid (aerr_path hf op v)
    rw [hf] at HF
    clear hf
    go_enter Tryz.func37, Tryz.ntmps37
    go_wp2_with (go_at_call 71; rw [HW3.out]; refine HF.out.mono ?_; rintro e w4 ⟨rfl, hb4⟩; have hB4 := hB3.trans (hb4.mono hB3.size); have bR4 := HBR.out.below hb4 hlR; obtain ⟨r0, r1, r2⟩ := bR4.three; have rf := bR4.frozen)
    refine bodyPost_ret (v := .tuple #[.agg #[.int .i64 0, .slice none 0 0, .slice none 0 0], .int .i64 16]) (by simp [results, Tryz.results37, go_sem, r0, r1, r2]) rfl ?_
    refine ⟨((hB4.setCell (p := ⟨w.heap.size + 1 + 1, 0, none⟩) (by simp; omega) _).setCell (p := ⟨w.heap.size + 1 + 1, 1, none⟩) (by simp; omega) _).setCell (p := ⟨w.heap.size + 1 + 1, 2, none⟩) (by simp; omega) _, .inr ⟨by rw [HE.out]; decide, none, 0, none, 0, by rw [HE.out], zero_ok _⟩⟩
  · rw [hf] at HF
    have e1 : ¬ (a : Int) < 0 := by omega
    have HM := Lib.hid (fun W => ref_may_any x.1 x.2 op v W)
    have i1 : (a : Int) < (xs.length : Int) := by omega
    have i2 : (0 : Int) ≤ (a : Int) := by omega
    have HAT := Lib.hid (aerr_at hf hxa op v)
    by_cases hm : dmay x.1 op v = true
    · have HE := Lib.hid (show aerr xs q op v = 0 by rw [HAT.out, if_pos hm])
      have HN := Lib.hid (show anew xs q op v = dch xs a op v by unfold anew; rw [hf, Int.toNat_natCast])
      have HL := Lib.hid (anew_len HE.out)
      have HC := Lib.hid (fun W (h : Nodes W W.heap.size B xs) => show Calls Tryz.prog 73 #[.slice B xs.length ce, .int .i64 a, .agg #[.slice DA q.length dc, .int .i64 op, .int .i64 v]] W (NodesEnds (dch xs a op v) W) from ref_changed_any B ce xs a m x ⟨DA, dc, q, op, v⟩ W h HP.out.lx hs hxa hm)
      rw [hm] at HM
      obtain ⟨ad, hB, -, -⟩ := HP.out.body a x hxa
      simp only at hB
      subst hB
      have HG := Lib.hid (fun W (h : Below w.heap.size w W) => show W.cell? (ad.add (a * 2)) = some (.int .i64 x.1) ∧ W.cell? ⟨(ad.add (a * 2)).block, (ad.add (a * 2)).off + 1, none⟩ = some (.int .i64 x.2) from by
        obtain ⟨ad', e, -, h0, h1⟩ := (HP.out.body.below h) a x hxa
        cases e
        exact ⟨h0, h1⟩)
      clear hf hm HAT hs hxa
      go_enter Tryz.func37, Tryz.ntmps37
      go_wp2_with (first
        | (go_at_call 71; rw [HW3.out]; refine HF.out.mono ?_; rintro e w4 ⟨rfl, hb4⟩; have hB4 := hB3.trans (hb4.mono hB3.size); have bR4 := HBR.out.below hb4 hlR; have bP4 := HBP.out.below hb4 hlP; have bD4 := HBD.out.below hb4 hlD; obtain ⟨p0, p1, p2⟩ := bP4.three; obtain ⟨d0, d1, d2⟩ := bD4.three; obtain ⟨g0, g1⟩ := HG.out _ hB4
           have bZ4 := Blk.new w4 54 #[.int .i64 x.1, .int .i64 x.2]
           have ba4 := (Below.refl w4.heap.size w4).alloc (Nat.le_refl _) (.cells #[.int .i64 x.1, .int .i64 x.2] 54)
           have bP5 := bP4.below ba4 bP4.lt; have bD5 := bD4.below ba4 bD4.lt; have bR5 := bR4.below ba4 bR4.lt; have hB5 := hB4.trans (ba4.mono hB4.size)
           obtain ⟨z0, z1⟩ := bZ4.two; obtain ⟨d0, d1, d2⟩ := bD5.three)
        | (go_at_call 72; refine (HM.out _).mono ?_; rintro e w6 ⟨rfl, hb6⟩; have bP6 := bP5.below hb6 bP5.lt; have bD6 := bD5.below hb6 bD5.lt; have bR6 := bR5.below hb6 bR5.lt; have hB6 := hB5.trans (hb6.mono hB5.size); obtain ⟨p0, p1, p2⟩ := bP6.three; obtain ⟨d0, d1, d2⟩ := bD6.three; obtain ⟨r0, r1, r2⟩ := bR6.three; have rf := bR6.frozen))
      have bS := Lib.hid (fun W (h : Below w6.heap.size w6 W) => And.intro (bP6.below h bP6.lt).three (bD6.below h bD6.lt).three)
      have HR := Lib.hid (fun W (h : Below w6.heap.size w6 W) => bR6.below h bR6.lt)
      have bSS := Lib.hid (fun W (h : Below w6.heap.size w6 W) v0 v1 v2 => And.intro ((((bP6.below h bP6.lt).apart (p := ⟨w.heap.size + 1 + 1, 0, none⟩) (by simp; omega) v0).apart (p := ⟨w.heap.size + 1 + 1, 1, none⟩) (by simp; omega) v1).apart (p := ⟨w.heap.size + 1 + 1, 2, none⟩) (by simp; omega) v2).three
        ((((bD6.below h bD6.lt).apart (p := ⟨w.heap.size + 1 + 1, 0, none⟩) (by simp) v0).apart (p := ⟨w.heap.size + 1 + 1, 1, none⟩) (by simp) v1).apart (p := ⟨w.heap.size + 1 + 1, 2, none⟩) (by simp) v2).three)
      have HOK := Lib.hid (HP.out.at hB6)
      have hS := And.intro (And.intro p0 (And.intro p1 p2)) (And.intro d0 (And.intro d1 d2))
      clear bP4 bD4 bR4 bP5 bD5 bR5 bP6 bD6 bR6 bZ4 ba4 hb4 hb6 hB4 hB5
      go_region_held3 (fun w' => (w'.cell? ⟨w.heap.size, 0, none⟩ = some (.int .i64 ps) ∧ w'.cell? ⟨w.heap.size, 1, none⟩ = some (.slice A vs.length c) ∧ w'.cell? ⟨w.heap.size, 2, none⟩ = some (.slice (some ad) xs.length ce)) ∧ w'.cell? ⟨w.heap.size + 1, 0, none⟩ = some (.slice DA q.length dc) ∧ w'.cell? ⟨w.heap.size + 1, 1, none⟩ = some (.int .i64 op) ∧ w'.cell? ⟨w.heap.size + 1, 2, none⟩ = some (.int .i64 v)) (first | exact hS | exact hSS _ _ _) (first
        | (go_at_call 73; refine (HC.out _ (Nodes.drewAt HOK.out.body)).mono ?_; rintro e w7 ⟨hb7, A7, c7, rfl, hc7, hA7, hN7⟩; have hb8 := ((Below.refl w6.heap.size w6).drew).trans hb7; have hS := bS.out _ hb8; have bR7 := HR.out _ hb8; obtain ⟨r0, r1, r2⟩ := bR7.three; have rf := bR7.frozen; have hSS := bSS.out _ hb8)
        | fail)
      have hB7 := hB6.trans (hb8.mono hB6.size)
      have hOK7 := HOK.out.at hb8
      have hblk : ∀ ad', A = some ad' → vs ≠ [] → ad'.block ≠ w.heap.size + 1 + 1 := by
        rintro ad' rfl hv
        obtain ⟨y, hy⟩ : ∃ y, vs[0]? = some y := by
          cases vs with
          | nil => exact absurd rfl hv
          | cons y _ => exact ⟨y, rfl⟩
        obtain ⟨ad'', e, hlt, -⟩ := HP.out.vars 0 y hy
        cases e
        omega
      have hRow := row_sets hOK7.vars hblk (.int .i64 ps) (.slice A vs.length c) (.slice A7 (dch xs a op v).length c7)
      have hNod := nodes_sets hN7 bR7 (fun z e => by cases e) (fun z e => by cases e) (.int .i64 ps) (.slice A vs.length c) (.slice A7 (dch xs a op v).length c7)
      have hB9 := ((hB7.setCell (p := ⟨w.heap.size + 1 + 1, 0, none⟩) (by simp; omega) (.int .i64 ps)).setCell (p := ⟨w.heap.size + 1 + 1, 1, none⟩) (by simp; omega) (.slice A vs.length c)).setCell (p := ⟨w.heap.size + 1 + 1, 2, none⟩) (by simp; omega) (.slice A7 (dch xs a op v).length c7)
      have hlen := HL.out
      rw [HN.out] at hlen
      have hlv := HP.out.lv
      have hcv := HP.out.cv
      have hnv := HP.out.nv
      clear hS hSS bSS bS
      go_wp2_with fail
      refine bodyPost_ret (v := .tuple #[.agg #[.int .i64 ps, .slice A vs.length c, .slice A7 (dch xs a op v).length c7], .int .i64 0]) (by simp [results, Tryz.results37, go_sem, r0, r1, r2]) rfl ?_
      refine ⟨hB9, .inl ⟨HE.out, A, c, A7, c7, by simp only [HN.out], ?_, fun ad e => .inl e⟩⟩
      simp only [HN.out]
      exact ⟨hRow, hNod, hlv, by simp only; omega, hcv, hc7, hnv, hA7⟩
    · have HE := Lib.hid (show aerr xs q op v = 17 by rw [HAT.out, if_neg hm])
      have hm' : dmay x.1 op v = false := by simpa using hm
      rw [hm'] at HM
      obtain ⟨ad, hB, -, -⟩ := HP.out.body a x hxa
      simp only at hB
      subst hB
      have HG := Lib.hid (fun W (h : Below w.heap.size w W) => show W.cell? (ad.add (a * 2)) = some (.int .i64 x.1) ∧ W.cell? ⟨(ad.add (a * 2)).block, (ad.add (a * 2)).off + 1, none⟩ = some (.int .i64 x.2) from by
        obtain ⟨ad', e, -, h0, h1⟩ := (HP.out.body.below h) a x hxa
        cases e
        exact ⟨h0, h1⟩)
      clear hf hm hm' HAT hs hxa
      go_enter Tryz.func37, Tryz.ntmps37
      go_wp2_with (first
        | (go_at_call 71; rw [HW3.out]; refine HF.out.mono ?_; rintro e w4 ⟨rfl, hb4⟩; have hB4 := hB3.trans (hb4.mono hB3.size); have bR4 := HBR.out.below hb4 hlR; have bP4 := HBP.out.below hb4 hlP; have bD4 := HBD.out.below hb4 hlD; obtain ⟨p0, p1, p2⟩ := bP4.three; obtain ⟨d0, d1, d2⟩ := bD4.three; obtain ⟨g0, g1⟩ := HG.out _ hB4
           have bZ4 := Blk.new w4 54 #[.int .i64 x.1, .int .i64 x.2]
           have ba4 := (Below.refl w4.heap.size w4).alloc (Nat.le_refl _) (.cells #[.int .i64 x.1, .int .i64 x.2] 54)
           have bD5 := bD4.below ba4 bD4.lt; have bR5 := bR4.below ba4 bR4.lt; have hB5 := hB4.trans (ba4.mono hB4.size)
           obtain ⟨z0, z1⟩ := bZ4.two; obtain ⟨d0, d1, d2⟩ := bD5.three)
        | (go_at_call 72; refine (HM.out _).mono ?_; rintro e w6 ⟨rfl, hb6⟩; have bR6 := bR5.below hb6 bR5.lt; have hB6 := hB5.trans (hb6.mono hB5.size); obtain ⟨r0, r1, r2⟩ := bR6.three; have rf := bR6.frozen))
      refine bodyPost_ret (v := .tuple #[.agg #[.int .i64 0, .slice none 0 0, .slice none 0 0], .int .i64 17]) (by simp [results, Tryz.results37, go_sem, r0, r1, r2]) rfl ?_
      refine ⟨((hB6.setCell (p := ⟨w.heap.size + 1 + 1, 0, none⟩) (by simp; omega) _).setCell (p := ⟨w.heap.size + 1 + 1, 1, none⟩) (by simp; omega) _).setCell (p := ⟨w.heap.size + 1 + 1, 2, none⟩) (by simp; omega) _, .inr ⟨by rw [HE.out]; decide, none, 0, none, 0, by rw [HE.out], zero_ok _⟩⟩
end Go.Proofs.YtofhgaioidfdmaaGreat.Delta
