/-
  Package code, walked: its writer.
  Package code, walked: nodes are written.
  Package code, walked: a program's bytes, and what is wrong with it.
  Package code, walked: its reader, one thing by one.
  Package code, walked: variables are read.
  Package code, walked: nodes are read, up to the first one with which something is wrong.
  Package code, walked: the program of bytes.
  Package code, walked: Get; what the package's functions come to.
-/
import Derived.Test.YtpjijdgenojpcaaCodeG
import Derived.Test.YtpjijdgenojpcaaWireG
import Derived.Deep.RegionHeld3
import Derived.Deep.DrawnRows
import Derived.Handy
import Derived.Test.YtpjijdgenojpcaaKindsP
import Derived.Test.YtpjijdgenojpcaaWireOps
import Derived.Test.YtpjijdgenojpcaaArenaH
namespace Go.Proofs.Ytpjijdgenojpcaa.Code
open Go.RowKit Leb Mem Wire _root_.Go.Proofs.Ytpjijdgenojpcaa.Arena _root_.Go.Proofs.Ytpjijdgenojpcaa.Kinds
set_option linter.unusedVariables false
attribute [local go_sem ↓] Go.wp_at_zero Go.wp_at_succ

section
variable {g : Nat} {R0 : Option Nat} {W w : World} {l : List UInt8}
set_option maxRecDepth 100000 in
theorem w_plain (h : Wb g R0 W l w) (n : Int) (h0 : 0 ≤ n) (h1 : n ≤ 9223372036854775807) (hl : l.length + 10 ≤ 1073741824) :
    Calls Try.prog 15 #[.agg #[.pointer (some ⟨g, 0, none⟩)], .int .i64 n] w fun e w' => e = .returned (.tuple #[]) ∧ Wb g R0 W (l ++ lput n.toNat) w' := by
  have hu : IntKind.u64.wrap n = n := wrap_u64_of h0 h1
  have HN := Lib.hid ((h.below ((Below.refl _ _).alloc (Nat.le_refl _) (.cells #[.pointer (some ⟨g, 0, none⟩)] 42))).num n h0 (by omega) hl)
  clear h
  go_enter Try.func15, Try.ntmps15
  go_wp2_with (go_at_call 29; refine HN.out.mono ?_; rintro e w1 ⟨rfl, hW⟩)
  go_returns
  exact ⟨rfl, hW⟩
set_option maxRecDepth 100000 in
theorem w_signed (h : Wb g R0 W l w) (n : Int) (h0 : -9223372036854775808 ≤ n) (h1 : n ≤ 9223372036854775807) (hl : l.length + 10 ≤ 1073741824) :
    Calls Try.prog 49 #[.agg #[.pointer (some ⟨g, 0, none⟩)], .int .i64 n] w fun e w' => e = .returned (.tuple #[]) ∧ Wb g R0 W (l ++ Zig.zput n) w' := by
  have HN := Lib.hid ((h.below ((Below.refl _ _).alloc (Nat.le_refl _) (.cells #[.pointer (some ⟨g, 0, none⟩)] 42))).int n h0 (by omega) hl)
  clear h
  go_enter Try.func49, Try.ntmps49
  go_wp2_with (go_at_call 67; refine HN.out.mono ?_; rintro e w1 ⟨rfl, hW⟩)
  go_returns
  exact ⟨rfl, hW⟩
set_option maxRecDepth 100000 in
theorem w_nothing (h : Wb g R0 W l w) (n : Int) :
    Calls Try.prog 52 #[.agg #[.pointer (some ⟨g, 0, none⟩)], .int .i64 n] w fun e w' => e = .returned (.tuple #[]) ∧ Wb g R0 W l w' := by
  have hW := h.below ((Below.refl _ _).alloc (Nat.le_refl _) (.cells #[.pointer (some ⟨g, 0, none⟩)] 42))
  clear h
  go_enter Try.func52, Try.ntmps52
  go_wp2
  go_returns
  exact ⟨rfl, hW⟩
end

/-- How a node's number is told. -/
def tellW (t : Int) : Nat := if nkind t = 2 then 49 else if nkind t = 1 then 15 else 52
def tellR (t : Int) : Nat := if nkind t = 2 then 50 else if nkind t = 1 then 51 else 53

theorem of_below (w : World) (u v : Value) : Below w.heap.size w (w.alloc (.cells #[u, v] 68)) := (Below.refl _ _).alloc (Nat.le_refl _) _
set_option maxRecDepth 100000 in
theorem of_any (t : Int) (w : World) : Calls Try.prog 31 #[.int .i64 t] w fun e w' => e = .returned (.agg #[.func (.func (tellW t)) #[] #[], .func (.func (tellR t)) #[] #[]]) ∧ Below w.heap.size w w' := by
  by_cases h1 : t = 1
  · subst h1
    go_enter Try.func31, Try.ntmps31
    go_wp2
    go_returns
    exact ⟨rfl, of_below _ _ _⟩
  by_cases h2 : t = 2 ∨ t = 3 ∨ t = 4 ∨ t = 20 ∨ t = 21 ∨ t = 22
  · rcases h2 with rfl | rfl | rfl | rfl | rfl | rfl
    all_goals go_enter Try.func31, Try.ntmps31
    all_goals go_wp2
    all_goals go_returns
    all_goals exact ⟨rfl, of_below _ _ _⟩
  · have hE := Lib.hid (show tellW t = 52 ∧ tellR t = 53 by
      have q : nkind t = 0 := by unfold nkind; rw [if_neg h1, if_neg h2]
      unfold tellW tellR; rw [q]; exact ⟨rfl, rfl⟩)
    have e1 : (t == 1) = false := by simpa using h1
    have e2 : (t == 2) = false := by rw [beq_eq_false_iff_ne]; omega
    have e3 : (t == 3) = false := by rw [beq_eq_false_iff_ne]; omega
    have e4 : (t == 4) = false := by rw [beq_eq_false_iff_ne]; omega
    have e5 : (t == 20) = false := by rw [beq_eq_false_iff_ne]; omega
    have e6 : (t == 21) = false := by rw [beq_eq_false_iff_ne]; omega
    have e7 : (t == 22) = false := by rw [beq_eq_false_iff_ne]; omega
    clear h1 h2
    go_enter Try.func31, Try.ntmps31
    go_wp2
    go_returns
    exact ⟨by rw [hE.out.1, hE.out.2], of_below _ _ _⟩
theorem field_0 (x y : Value) (W : World) : (Instr.field 68 (.agg #[x, y]) 0).run Try.prog W = .ok x W := by kernel_rfl
theorem field_1 (x y : Value) (W : World) : (Instr.field 68 (.agg #[x, y]) 1).run Try.prog W = .ok y W := by kernel_rfl
/-- A node's number is written. -/
theorem tell_w {g : Nat} {R0 : Option Nat} {W w : World} {l : List UInt8} (h : Wb g R0 W l w) (x : Nd) (h1 : nkind x.1 = 1 → 0 ≤ x.2 ∧ x.2 ≤ 1000000) (h2 : nkind x.1 = 2 → -9223372036854775808 ≤ x.2 ∧ x.2 ≤ 9223372036854775807) (hl : l.length + 10 ≤ 1073741824) :
    Calls Try.prog (tellW x.1) #[.agg #[.pointer (some ⟨g, 0, none⟩)], .int .i64 x.2] w fun e w' => e = .returned (.tuple #[]) ∧ Wb g R0 W (l ++ tail x) w' := by
  unfold tellW tail
  rcases nkind_three x.1 with q | q | q
  · rw [q, if_neg (by decide), if_neg (by decide), if_neg (by decide), if_neg (by decide), List.append_nil]
    exact w_nothing h x.2
  · rw [q, if_neg (by decide), if_pos rfl, if_pos rfl]
    have := h1 q
    exact w_plain h x.2 this.1 (by omega) hl
  · rw [q, if_pos rfl, if_neg (by decide), if_pos rfl]
    have := h2 q
    exact w_signed h x.2 this.1 this.2 hl

/-- The same writer, since a later world. -/
theorem Wb.again {g : Nat} {R0 : Option Nat} {W w : World} {l : List UInt8} (h : Wb g R0 W l w) : ∃ R, Wr w g R l ∧ (∀ k, Its g R k → k < w.heap.size) ∧ (∀ k, R = some k → R0 = some k ∨ W.heap.size ≤ k) ∧
    ∀ (w1 : World) (_ : Below w.heap.size w w1) (m : List UInt8) (w2 : World), Wb g R w1 m w2 → Wb g R0 W m w2 := by
  obtain ⟨R, h1, h2, h3⟩ := h
  refine ⟨R, h1, h1.its_lt, h3, fun w1 hb m w2 hw => ?_⟩
  obtain ⟨R2, g1, g2, g3⟩ := hw
  have hs : W.heap.size ≤ w1.heap.size := Nat.le_trans h2.size hb.size
  refine ⟨R2, g1, (h2.below hb).then g2 ?_, fun k hk => ?_⟩
  · rintro i (rfl | hi)
    · exact .inl (.inl rfl)
    · exact (h3 i hi).imp .inr id
  · rcases g3 k hk with q | q
    · exact h3 k q
    · exact .inr (Nat.le_trans hs q)

section
variable {g : Nat} {R0 : Option Nat} {W w : World} {l : List UInt8}
theorem vars_snoc (vs : List Int) (k : Nat) (x : Int) (h : vs[k]? = some x) : (vs.take (k + 1)).map tb = (vs.take k).map tb ++ [tb x] := by
  rw [List.take_add_one, h]; simp
set_option maxRecDepth 100000 in
set_option maxHeartbeats 1000000 in
/-- Variables are written. -/
theorem w_vars (h : Wb g R0 W l w) (B : Nat) (hg : B ≤ g) (hR : ∀ k, R0 = some k → B ≤ k) (hBW : B ≤ W.heap.size) (A : Option Addr) (c : Nat) (vs : List Int) (hA : IRow w B A vs) (hv : ∀ t ∈ vs, 0 ≤ t ∧ t ≤ 255) (hvl : vs.length ≤ 1000) (hl : l.length ≤ 1000000) :
    Calls Try.prog 16 #[.agg #[.pointer (some ⟨g, 0, none⟩)], .slice A vs.length c] w fun e w' => e = .returned (.tuple #[]) ∧ Wb g R0 W (l ++ lput vs.length ++ vs.map tb) w' := by
  have hW := h.size
  obtain ⟨R, h1, h2, h3, h4⟩ := Wb.again h
  have hb0 : Below w.heap.size w (w.alloc (.cells #[.pointer (some ⟨g, 0, none⟩)] 42)) := (Below.refl _ _).alloc (Nat.le_refl _) _
  have hX := Blk.new w 42 #[.pointer (some ⟨g, 0, none⟩)]
  obtain ⟨w1, hw1⟩ : ∃ w1, w.alloc (.cells #[.pointer (some ⟨g, 0, none⟩)] 42) = w1 := ⟨_, rfl⟩
  have hBw : B ≤ w1.heap.size := by rw [← hw1, World.size_alloc]; omega
  rw [hw1] at hb0 hX
  have hS := Wb.start (h1.below hb0)
  have hn : ¬ Its g R w.heap.size := fun q => absurd (h2 _ q) (by omega)
  have HX := Lib.hid (fun (m : List UInt8) (W2 : World) (q : Wb g R w1 m W2) => show W2.cell? ⟨w.heap.size, 0, none⟩ = some (.pointer (some ⟨g, 0, none⟩)) from (q.blk hX hn).cell 0)
  have HA := Lib.hid (fun (m : List UInt8) (W2 : World) (q : Wb g R w1 m W2) => IRow.below hA ((hb0.mono (Nat.le_trans hBW hW)).trans (q.to_below hBw hg (fun k hk => (h3 k hk).elim (hR k) (fun z => Nat.le_trans hBW z)))))
  have HE := Lib.hid (h4 _ hb0 (l ++ lput vs.length ++ vs.map tb))
  have hP := w_plain hS (vs.length : Int) (by omega) (by omega) (by omega)
  rw [Int.toNat_natCast] at hP
  have HP := Lib.hid hP
  have hpl := lput_len10 (n := vs.length) (by omega)
  have HV := Lib.hid hv
  have c0 := HX.out _ _ hS
  have HW1 := Lib.hid hw1
  clear h h1 h2 h3 h4 hb0 hX hn hA hP hv hw1
  go_enter Try.func16, Try.ntmps16
  go_wp2_with (go_at_call 15; rw [HW1.out]; refine HP.out.mono ?_; rintro e w2 ⟨rfl, hW2⟩)
  go_loopw [12] (fun i wr => ∃ k : Nat, k ≤ vs.length ∧ i = .int .i64 k ∧ Wb g R w1 (l ++ lput vs.length ++ (vs.take k).map tb) wr) (fun i _ => vs.length - (intOf i).toNat)
  case atStart => exact ⟨0, by omega, rfl, by simpa using hW2⟩
  case round =>
    obtain ⟨k, hk, rfl, hWb⟩ := hrel
    have b0 := HX.out _ _ hWb
    by_cases hlt : k < vs.length
    · obtain ⟨x, hxk⟩ : ∃ x, vs[k]? = some x := ⟨_, List.getElem?_eq_getElem hlt⟩
      obtain ⟨ad, rfl, hbk, hc0⟩ := (HA.out _ _ hWb) k x hxk
      have hr := HV.out x (List.mem_of_getElem? hxk)
      have HB := Lib.hid (Wb.byte hWb (tb x) (by rw [List.length_append, List.length_append, List.length_map, List.length_take]; omega))
      rw [tb_val hr.1 hr.2] at HB
      have hm : x % 256 = x := by omega
      have HS := Lib.hid (vars_snoc vs k x hxk)
      have j1 : (k : Int) < (vs.length : Int) := by omega
      have j2 : (0 : Int) ≤ (k : Int) := by omega
      clear hxk
      go_wp2_with (go_at_call 30; refine HB.out.mono ?_; rintro e w3 ⟨rfl, hW3⟩)
      go_roundw
      case rel => exact ⟨k + 1, by omega, by go_num, by rw [HS.out, ← List.append_assoc]; exact hW3⟩
      case measure => simp [intOf]; omega
    · have hk9 : k = vs.length := by omega
      subst hk9
      rw [List.take_length] at hWb
      have j1 : ¬ (vs.length : Int) < (vs.length : Int) := by omega
      go_wp2
      go_returns
      exact ⟨rfl, by have q := HE.out _ hWb; rw [List.append_assoc] at q; exact q⟩
end

end Go.Proofs.Ytpjijdgenojpcaa.Code

namespace Go.Proofs.Ytpjijdgenojpcaa.Code
open Go.RowKit Leb Mem Wire _root_.Go.Proofs.Ytpjijdgenojpcaa.Arena _root_.Go.Proofs.Ytpjijdgenojpcaa.Kinds
set_option linter.unusedVariables false
attribute [local go_sem ↓] Go.wp_at_zero Go.wp_at_succ

section
variable {g : Nat} {R0 : Option Nat} {W w : World} {l : List UInt8}
set_option maxRecDepth 100000 in
set_option maxHeartbeats 2000000 in
/-- Nodes are written. -/
theorem w_body (h : Wb g R0 W l w) (B : Nat) (hg : B ≤ g) (hR : ∀ k, R0 = some k → B ≤ k) (hBW : B ≤ W.heap.size) (A : Option Addr) (c : Nat) (xs : List Nd) (hA : Nodes w B A xs)
    (hx : ∀ x ∈ xs, 0 ≤ x.1 ∧ x.1 ≤ 255 ∧ (nkind x.1 = 1 → 0 ≤ x.2 ∧ x.2 ≤ 1000000) ∧ (nkind x.1 = 2 → -9223372036854775808 ≤ x.2 ∧ x.2 ≤ 9223372036854775807)) (hxl : xs.length ≤ 1000) (hl : l.length ≤ 1000000) :
    Calls Try.prog 17 #[.agg #[.pointer (some ⟨g, 0, none⟩)], .slice A xs.length c] w fun e w' => e = .returned (.tuple #[]) ∧ Wb g R0 W (l ++ lput xs.length ++ xs.flatMap nb) w' := by
  have hW := h.size
  obtain ⟨R, h1, h2, h3, h4⟩ := Wb.again h
  have hb0 : Below w.heap.size w (w.alloc (.cells #[.pointer (some ⟨g, 0, none⟩)] 42)) := (Below.refl _ _).alloc (Nat.le_refl _) _
  have hX := Blk.new w 42 #[.pointer (some ⟨g, 0, none⟩)]
  obtain ⟨w1, hw1⟩ : ∃ w1, w.alloc (.cells #[.pointer (some ⟨g, 0, none⟩)] 42) = w1 := ⟨_, rfl⟩
  have hBw : B ≤ w1.heap.size := by rw [← hw1, World.size_alloc]; omega
  rw [hw1] at hb0 hX
  have hS := Wb.start (h1.below hb0)
  have hn : ¬ Its g R w.heap.size := fun q => absurd (h2 _ q) (by omega)
  have HX := Lib.hid (fun (m : List UInt8) (W2 : World) (q : Wb g R w1 m W2) => show W2.cell? ⟨w.heap.size, 0, none⟩ = some (.pointer (some ⟨g, 0, none⟩)) from (q.blk hX hn).cell 0)
  have HA := Lib.hid (fun (m : List UInt8) (W2 : World) (q : Wb g R w1 m W2) => Nodes.below hA ((hb0.mono (Nat.le_trans hBW hW)).trans (q.to_below hBw hg (fun k hk => (h3 k hk).elim (hR k) (fun z => Nat.le_trans hBW z)))))
  have HE := Lib.hid (h4 _ hb0 (l ++ lput xs.length ++ xs.flatMap nb))
  have hP := w_plain hS (xs.length : Int) (by omega) (by omega) (by omega)
  rw [Int.toNat_natCast] at hP
  have HP := Lib.hid hP
  have hpl := lput_len10 (n := xs.length) (by omega)
  have HV := Lib.hid hx
  have HFL := Lib.hid (fun k => flat_len (xs.take k) (fun x q => tail_len (hx x (List.mem_of_mem_take q)).2.2.1 (hx x (List.mem_of_mem_take q)).2.2.2))
  have HW1 := Lib.hid hw1
  clear h h1 h2 h3 h4 hb0 hX hn hA hP hx hw1
  go_enter Try.func17, Try.ntmps17
  go_wp2_with fail
  rw [HW1.out]
  have c0 := HX.out _ _ hS
  refine HP.out.mono ?_
  rintro e w2 ⟨rfl, hW2⟩
  go_wp2_with fail
  go_loopw [12] (fun i wr => ∃ k : Nat, k ≤ xs.length ∧ i = .int .i64 k ∧ Wb g R w1 (l ++ lput xs.length ++ (xs.take k).flatMap nb) wr) (fun i _ => xs.length - (intOf i).toNat)
  case atStart => exact ⟨0, by omega, rfl, by simpa using hW2⟩
  case round =>
    obtain ⟨k, hk, rfl, hWb⟩ := hrel
    by_cases hlt : k < xs.length
    · obtain ⟨⟨t, n⟩, hxk⟩ : ∃ x, xs[k]? = some x := ⟨_, List.getElem?_eq_getElem hlt⟩
      obtain ⟨ad, rfl, hbk, g0, g1⟩ := (HA.out _ _ hWb) k _ hxk
      obtain ⟨r0, r1, r2, r3⟩ := HV.out _ (List.mem_of_getElem? hxk)
      simp only at g0 g1 r0 r1 r2 r3
      have hfl := HFL.out k
      have hll : (l ++ lput xs.length ++ (xs.take k).flatMap nb).length ≤ 1100000 := by
        have h9 : (xs.take k).length ≤ 1000 := by rw [List.length_take]; omega
        rw [List.length_append, List.length_append]; omega
      have HS := Lib.hid (flat_snoc xs k _ hxk)
      -- the node's own variable
      obtain ⟨w4, hw4⟩ : ∃ w4, wr.alloc (.cells #[.int .i64 t, .int .i64 n] 38) = w4 := ⟨_, rfl⟩
      have hb4 : Below wr.heap.size wr w4 := hw4 ▸ (Below.refl _ _).alloc (Nat.le_refl _) _
      have hY : Blk w4 wr.heap.size 38 #[.int .i64 t, .int .i64 n] := hw4 ▸ Blk.new wr _ _
      have hW4 := hWb.below hb4
      obtain ⟨R2, q1, q2, q3, q4⟩ := Wb.again hWb
      have hW4b := Wb.start (q1.below hb4)
      have hny : ¬ Its g R2 wr.heap.size := fun q => absurd (q2 _ q) (by omega)
      have HY := Lib.hid (fun (m : List UInt8) (W2 : World) (q : Wb g R2 w4 m W2) => show W2.cell? ⟨w.heap.size, 0, none⟩ = some (.pointer (some ⟨g, 0, none⟩)) ∧ W2.cell? ⟨wr.heap.size, 0, none⟩ = some (.int .i64 t) ∧ W2.cell? ⟨wr.heap.size, 1, none⟩ = some (.int .i64 n) from ⟨HX.out _ _ (q4 _ hb4 _ _ q), (q.blk hY hny).two.1, (q.blk hY hny).two.2⟩)
      have HB := Lib.hid (Wb.byte hW4b (tb t) (by omega))
      rw [tb_val r0 r1] at HB
      have HT := Lib.hid (fun W2 (q : Wb g R2 w4 ((l ++ lput xs.length ++ (xs.take k).flatMap nb) ++ [tb t]) W2) => tell_w q (t, n) r2 r3 (by rw [List.length_append, List.length_singleton]; omega))
      have HO := Lib.hid (fun W2 => of_any t W2)
      simp only at HT
      have HEE := Lib.hid (q4 _ hb4 (l ++ lput xs.length ++ (xs.take k).flatMap nb ++ [tb t] ++ tail (t, n)))
      have HNB := Lib.hid (show nb (t, n) = [tb t] ++ tail (t, n) from rfl)
      have hm : t % 256 = t := by omega
      have j1 : (k : Int) < (xs.length : Int) := by omega
      have j2 : (0 : Int) ≤ (k : Int) := by omega
      have HW4 := Lib.hid hw4
      have c0 := HX.out _ _ hWb
      have c1 := (HY.out _ _ hW4b).1
      rw [← hw4] at c1
      clear hxk q1 q2 q3 q4 hw4 hb4 hY hny hW4
      generalize hLL : l ++ lput xs.length ++ (xs.take k).flatMap nb = LL at *
      have HLL := Lib.hid hLL
      clear hLL
      have hf0 := field_0
      rcases nkind_three t with hq | hq | hq
      · have ht : tellW t = 52 := by unfold tellW; rw [hq]; rfl
        rw [ht] at HO HT
        clear ht hq
        go_wp2_with (go_at_call 30; rw [HW4.out]; refine HB.out.mono ?_; rintro e w5 ⟨rfl, hW5⟩)
        have hC := HY.out _ _ hW5
        go_region_held3 (fun w' => w'.cell? ⟨w.heap.size, 0, none⟩ = some (.pointer (some ⟨g, 0, none⟩)) ∧ w'.cell? ⟨wr.heap.size, 0, none⟩ = some (.int .i64 t) ∧ w'.cell? ⟨wr.heap.size, 1, none⟩ = some (.int .i64 n)) (exact hC) (first
          | (go_at_call 31; refine (HO.out _).mono ?_; rintro e w6 ⟨rfl, hb6⟩; have hW6 := hW5.drew.below hb6; have hC := HY.out _ _ hW6)
          | (go_at_call 52; refine (HT.out _ hW6).mono ?_; rintro e w7 ⟨rfl, hW7⟩; have hC := HY.out _ _ hW7)
          | fail)
        go_wp2_with fail
        go_roundw
        case rel => exact ⟨k + 1, by omega, by go_num, by rw [HS.out, HNB.out, ← List.append_assoc, HLL.out, ← List.append_assoc]; exact HEE.out _ hW7⟩
        case measure => simp [intOf]; omega
      · have ht : tellW t = 15 := by unfold tellW; rw [hq]; rfl
        rw [ht] at HO HT
        clear ht hq
        go_wp2_with (go_at_call 30; rw [HW4.out]; refine HB.out.mono ?_; rintro e w5 ⟨rfl, hW5⟩)
        have hC := HY.out _ _ hW5
        go_region_held3 (fun w' => w'.cell? ⟨w.heap.size, 0, none⟩ = some (.pointer (some ⟨g, 0, none⟩)) ∧ w'.cell? ⟨wr.heap.size, 0, none⟩ = some (.int .i64 t) ∧ w'.cell? ⟨wr.heap.size, 1, none⟩ = some (.int .i64 n)) (exact hC) (first
          | (go_at_call 31; refine (HO.out _).mono ?_; rintro e w6 ⟨rfl, hb6⟩; have hW6 := hW5.drew.below hb6; have hC := HY.out _ _ hW6)
          | (go_at_call 15; refine (HT.out _ hW6).mono ?_; rintro e w7 ⟨rfl, hW7⟩; have hC := HY.out _ _ hW7)
          | fail)
        go_wp2_with fail
        go_roundw
        case rel => exact ⟨k + 1, by omega, by go_num, by rw [HS.out, HNB.out, ← List.append_assoc, HLL.out, ← List.append_assoc]; exact HEE.out _ hW7⟩
        case measure => simp [intOf]; omega
      · have ht : tellW t = 49 := by unfold tellW; rw [hq]; rfl
        rw [ht] at HO HT
        clear ht hq
        go_wp2_with (go_at_call 30; rw [HW4.out]; refine HB.out.mono ?_; rintro e w5 ⟨rfl, hW5⟩)
        have hC := HY.out _ _ hW5
        go_region_held3 (fun w' => w'.cell? ⟨w.heap.size, 0, none⟩ = some (.pointer (some ⟨g, 0, none⟩)) ∧ w'.cell? ⟨wr.heap.size, 0, none⟩ = some (.int .i64 t) ∧ w'.cell? ⟨wr.heap.size, 1, none⟩ = some (.int .i64 n)) (exact hC) (first
          | (go_at_call 31; refine (HO.out _).mono ?_; rintro e w6 ⟨rfl, hb6⟩; have hW6 := hW5.drew.below hb6; have hC := HY.out _ _ hW6)
          | (go_at_call 49; refine (HT.out _ hW6).mono ?_; rintro e w7 ⟨rfl, hW7⟩; have hC := HY.out _ _ hW7)
          | fail)
        go_wp2_with fail
        go_roundw
        case rel => exact ⟨k + 1, by omega, by go_num, by rw [HS.out, HNB.out, ← List.append_assoc, HLL.out, ← List.append_assoc]; exact HEE.out _ hW7⟩
        case measure => simp [intOf]; omega
    · have hk9 : k = xs.length := by omega
      subst hk9
      rw [List.take_length] at hWb
      have j1 : ¬ (xs.length : Int) < (xs.length : Int) := by omega
      go_wp2
      go_returns
      exact ⟨rfl, by have q := HE.out _ hWb; rw [List.append_assoc] at q; exact q⟩
end

end Go.Proofs.Ytpjijdgenojpcaa.Code

namespace Go.Proofs.Ytpjijdgenojpcaa.Code
open Go.RowKit Leb Mem Wire _root_.Go.Proofs.Ytpjijdgenojpcaa.Arena _root_.Go.Proofs.Ytpjijdgenojpcaa.Kinds
set_option linter.unusedVariables false
attribute [local go_sem ↓] Go.wp_at_zero Go.wp_at_succ

set_option maxRecDepth 100000 in
set_option maxHeartbeats 2000000 in
/-- What may be put, is. -/
theorem PPut_good (p : Prg) (hb : NB p.xs) (w : World) (hp : p.Ok w) (hc : pcheck p.ps p.vs p.xs = 0) :
    Calls Try.prog 9 #[.agg #[.int .i64 p.ps, .slice p.A p.vs.length p.c, .slice p.B p.xs.length p.e]] w fun e w' => e = .returned (.tuple #[.string ⟨(cput p.ps p.vs p.xs).toArray⟩, .int .i64 0]) ∧ Below w.heap.size w w' := by
  have g := good_of hc hb
  have hB0 : Below w.heap.size w (w.alloc (.cells #[.int .i64 p.ps, .slice p.A p.vs.length p.c, .slice p.B p.xs.length p.e] 25)) := (Below.refl _ _).alloc (Nat.le_refl _) _
  have bX := Blk.new w 25 #[.int .i64 p.ps, .slice p.A p.vs.length p.c, .slice p.B p.xs.length p.e]
  obtain ⟨wQ, hwQ⟩ : ∃ wQ, w.alloc (.cells #[.int .i64 p.ps, .slice p.A p.vs.length p.c, .slice p.B p.xs.length p.e] 25) = wQ := ⟨_, rfl⟩
  rw [hwQ] at hB0 bX
  have hgl := bX.lt
  have HBX := Lib.hid (fun W (h : Below wQ.heap.size wQ W) => (bX.below h hgl).three)
  have HP := Lib.hid (hp.at hB0)
  have HC := Lib.hid (fun W (h : p.Ok W) => Kinds.PCheck_any p W h)
  rw [hc] at HC
  have HW := Lib.hid hwQ
  have HG := Lib.hid g
  have HR := Lib.hid (show cput p.ps p.vs p.xs = [] ++ lput p.ps.toNat ++ lput p.vs.length ++ p.vs.map tb ++ lput p.xs.length ++ p.xs.flatMap nb by unfold cput; simp)
  generalize cput p.ps p.vs p.xs = CC at *
  clear hp bX hc hwQ
  obtain ⟨b0, b1, b2⟩ := HBX.out _ (Below.refl _ _)
  go_enter Try.func9, Try.ntmps9
  go_wp2_with fail
  rw [HW.out]
  refine (HC.out _ HP.out).mono ?_
  rintro e w1 ⟨rfl, hb1⟩
  have hP1 := HP.out.at hb1
  go_wp2_with fail
  refine (New_any _).mono ?_
  rintro e w2 ⟨rfl, hWr, hb2⟩
  have hb3 : Below w2.heap.size w2 (w2.alloc (.cells #[.pointer (some ⟨w1.heap.size, 0, none⟩)] 42)) := (Below.refl _ _).alloc (Nat.le_refl _) _
  have bY := Blk.new w2 42 #[.pointer (some ⟨w1.heap.size, 0, none⟩)]
  obtain ⟨w3, hw3⟩ : ∃ w3, w2.alloc (.cells #[.pointer (some ⟨w1.heap.size, 0, none⟩)] 42) = w3 := ⟨_, rfl⟩
  rw [hw3] at hb3 bY
  have hg1 : w1.heap.size < w2.heap.size := hWr.lt
  have h13 : Below w1.heap.size w1 w3 := hb2.trans (hb3.mono hb2.size)
  have h03 : Below wQ.heap.size wQ w3 := hb1.trans (h13.mono hb1.size)
  have h01 : wQ.heap.size ≤ w1.heap.size := hb1.size
  have hS := Wb.start (hWr.below hb3)
  have HTB := Lib.hid (fun (m : List UInt8) (W : World) (q : Wb w1.heap.size none w3 m W) => q.to_below (B := w1.heap.size) h13.size (Nat.le_refl _) (fun k e => by cases e))
  have HY := Lib.hid (fun (m : List UInt8) (W : World) (q : Wb w1.heap.size none w3 m W) => show W.cell? ⟨w2.heap.size, 0, none⟩ = some (.pointer (some ⟨w1.heap.size, 0, none⟩)) ∧ W.cell? ⟨w.heap.size, 0, none⟩ = some (.int .i64 p.ps) ∧ W.cell? ⟨w.heap.size, 1, none⟩ = some (.slice p.A p.vs.length p.c) ∧ W.cell? ⟨w.heap.size, 2, none⟩ = some (.slice p.B p.xs.length p.e) from by
    have c := (q.blk bY (by rintro (e | e); omega; cases e)).cell 0
    have z := HBX.out _ (h03.trans ((HTB.out _ _ q).mono h01))
    exact ⟨c, z.1, z.2.1, z.2.2⟩)
  have HV := Lib.hid (fun (m : List UInt8) (W : World) (q : Wb w1.heap.size none w3 m W) => IRow.below (hP1.vars) (h13.trans (HTB.out _ _ q)))
  have HN := Lib.hid (fun (m : List UInt8) (W : World) (q : Wb w1.heap.size none w3 m W) => Nodes.below (hP1.body) (h13.trans (HTB.out _ _ q)))
  have p0 := HG.out.ps0
  have p1 := HG.out.ps1
  have vl := HG.out.vl
  have xl := HG.out.xl
  have l1 := lput_len10 (n := p.ps.toNat) (by omega)
  have l2 := lput_len10 (n := p.vs.length) (by omega)
  have K1 := Lib.hid (w_plain hS p.ps p0 (by omega) (by simp))
  have K2 := Lib.hid (fun W (q : Wb w1.heap.size none w3 ([] ++ lput p.ps.toNat) W) => w_vars q w1.heap.size (Nat.le_refl _) (fun k e => by cases e) h13.size p.A p.c p.vs (HV.out _ _ q) HG.out.vs0 (by omega) (by simp; omega))
  have K3 := Lib.hid (fun W (q : Wb w1.heap.size none w3 ([] ++ lput p.ps.toNat ++ lput p.vs.length ++ p.vs.map tb) W) => w_body q w1.heap.size (Nat.le_refl _) (fun k e => by cases e) h13.size p.B p.e p.xs (HN.out _ _ q) (fun x hx => by obtain ⟨z0, z1, z2, z3, -⟩ := HG.out.xs0 x hx; exact ⟨z0, z1, z2, z3⟩) (by omega) (by simp; omega))
  rw [← HR.out] at K3
  have HEND := Lib.hid (fun W (q : Wb w1.heap.size none w3 CC W) => show Below w.heap.size w W from hB0.trans ((h03.trans ((HTB.out _ _ q).mono h01)).mono hB0.size))
  obtain ⟨c0, c1, c2, c3⟩ := HY.out _ _ hS
  have HW3 := Lib.hid hw3
  rw [← hw3] at c0 c1
  clear hw3 hb1 hb2 hb3 bY hWr h13 h03 h01 hB0 HTB HP HR HG p0 p1 vl xl l1 l2
  go_wp2_with (first
    | (go_at_call 15; rw [HW3.out]; refine K1.out.mono ?_; rintro e w4 ⟨rfl, hW4⟩; obtain ⟨c0, c1, c2, c3⟩ := HY.out _ _ hW4)
    | (go_at_call 16; refine (K2.out _ hW4).mono ?_; rintro e w5 ⟨rfl, hW5⟩; obtain ⟨c0, c1, c2, c3⟩ := HY.out _ _ hW5)
    | (go_at_call 17; refine (K3.out _ hW5).mono ?_; rintro e w6 ⟨rfl, hW6⟩; obtain ⟨c0, c1, c2, c3⟩ := HY.out _ _ hW6)
    | (go_at_call 18; refine hW6.bytes.mono ?_; rintro e w7 ⟨rfl, rfl⟩))
  go_returns
  exact ⟨rfl, HEND.out _ hW6⟩

set_option maxRecDepth 100000 in
set_option maxHeartbeats 2000000 in
theorem PPut_bad (p : Prg) (w : World) (hp : p.Ok w) (hc : pcheck p.ps p.vs p.xs ≠ 0) :
    Calls Try.prog 9 #[.agg #[.int .i64 p.ps, .slice p.A p.vs.length p.c, .slice p.B p.xs.length p.e]] w fun e w' => e = .returned (.tuple #[.string ⟨#[]⟩, .int .i64 (pcheck p.ps p.vs p.xs)]) ∧ Below w.heap.size w w' := by
  have hB0 : Below w.heap.size w (w.alloc (.cells #[.int .i64 p.ps, .slice p.A p.vs.length p.c, .slice p.B p.xs.length p.e] 25)) := (Below.refl _ _).alloc (Nat.le_refl _) _
  have HC := Lib.hid (Kinds.PCheck_any p _ (hp.at hB0))
  obtain ⟨b0, b1, b2⟩ := (Blk.new w 25 #[.int .i64 p.ps, .slice p.A p.vs.length p.c, .slice p.B p.xs.length p.e]).three
  obtain ⟨c, hcc⟩ : ∃ c, pcheck p.ps p.vs p.xs = c := ⟨_, rfl⟩
  rw [hcc] at HC hc ⊢
  have e1 : (c == 0) = false := by simpa using hc
  have e2 : (c != 0) = true := by simpa using hc
  clear hcc hc hp
  go_enter Try.func9, Try.ntmps9
  go_wp2_with (go_at_call 10; refine HC.out.mono ?_; rintro e w1 ⟨rfl, hb1⟩)
  go_returns
  exact ⟨rfl, hB0.trans (hb1.mono hB0.size)⟩
/-- A program's bytes, and what is wrong with it. -/
theorem PPut_any (p : Prg) (w : World) (hp : p.Ok w) (hb : NB p.xs) :
    Calls Try.prog 9 #[.agg #[.int .i64 p.ps, .slice p.A p.vs.length p.c, .slice p.B p.xs.length p.e]] w fun e w' => e = .returned (.tuple #[.string ⟨(pput p.ps p.vs p.xs).toArray⟩, .int .i64 (pcheck p.ps p.vs p.xs)]) ∧ Below w.heap.size w w' := by
  by_cases hc : pcheck p.ps p.vs p.xs = 0
  · refine (PPut_good p hb w hp hc).mono (fun e w' h => ?_)
    unfold pput
    rw [if_pos hc, hc]
    exact h
  · refine (PPut_bad p w hp hc).mono (fun e w' h => ?_)
    unfold pput
    rw [if_neg hc]
    exact h

end Go.Proofs.Ytpjijdgenojpcaa.Code

namespace Go.Proofs.Ytpjijdgenojpcaa.Code
open Go.RowKit Leb Mem Wire _root_.Go.Proofs.Ytpjijdgenojpcaa.Arena _root_.Go.Proofs.Ytpjijdgenojpcaa.Kinds
set_option linter.unusedVariables false
attribute [local go_sem ↓] Go.wp_at_zero Go.wp_at_succ

/-- Since W the reader g has come to stand at s; all else is as it was. -/
structure Rs (g : Nat) (S : ByteArray) (W : World) (s : Int × Int) (w : World) : Prop where
  rd : Rd w g S s.1 s.2
  kept : Kept (· = g) W w
  p0 : 0 ≤ s.1
  p1 : s.1 ≤ S.size
  sz : S.size ≤ 1000000

section
variable {g : Nat} {S : ByteArray} {W w w' : World} {s : Int × Int}
theorem Rs.below (h : Rs g S W s w) (hb : Below w.heap.size w w') : Rs g S W s w' := ⟨h.rd.below hb h.rd.lt, h.kept.below hb, h.p0, h.p1, h.sz⟩
theorem Rs.drew (h : Rs g S W s w) : Rs g S W s w.drew := h.below ((Below.refl _ _).drew)
theorem Rs.again (h : Rs g S W s w) (hb : Below w.heap.size w w') : Rs g S w' s w' := ⟨h.rd.below hb h.rd.lt, Kept.refl _ _, h.p0, h.p1, h.sz⟩
theorem Rs.back {w1 w2 : World} {t : Int × Int} (h : Rs g S W s w) (hb : Below w.heap.size w w1) (k : Rs g S w1 t w2) : Rs g S W t w2 := ⟨k.rd, (h.kept.below hb).trans k.kept, k.p0, k.p1, k.sz⟩
theorem Rs.blk (h : Rs g S W s w) {k : Nat} {t : TypeId} {cs : Array Value} (hb : Blk W k t cs) (hn : k ≠ g) : Blk w k t cs := hb.kept h.kept hn
theorem Rs.row (h : Rs g S W s w) {base : Nat} {e : TypeId} {n m : Nat} {v : Value} {xs : List Value} (hr : W.ownsRow base e n v m xs) (hb : g < base) : w.ownsRow base e n v m xs :=
  own_of_block hr (fun k hk => by have := hr.lt k hk; exact h.kept.block k this.2 (by omega))
theorem Rs.set (h : Rs g S W s w) {q : Addr} (hg : g ≠ q.block) (hq : W.heap.size ≤ q.block) (v : Value) : Rs g S W s (w.setCell q v) := ⟨h.rd.apart hg v, h.kept.setCell (.inr hq) v, h.p0, h.p1, h.sz⟩
theorem Rs.wide (h : Rs g S W s w) : W.heap.size ≤ w.heap.size := h.kept.size
theorem byte_rng (S : ByteArray) (s : Int × Int) : 0 ≤ (askP S s 0 0).2 ∧ (askP S s 0 0).2 ≤ 255 := by
  unfold askP
  simp only
  rw [if_neg (by decide)]
  rcases fin_num_or (outOf S s.1.toNat 0 0) s.2 s.1.toNat with q | q
  · rw [q]
    unfold outOf
    rw [if_pos rfl]
    split
    · exact byte_le _
    · simp
  · rw [q]; omega
theorem Rs.of_rf {f : Out} {v : Value} {e : Ending} {t : Int × Int} (h : Rs g S W s w) (hf : RF g S f v w e w') (ht : t = (f.to, f.er)) (h0 : 0 ≤ f.to) (h1 : f.to ≤ S.size) : e = .returned v ∧ Rs g S W t w' := by
  obtain ⟨e1, e2, e3⟩ := hf
  subst ht
  exact ⟨e1, e2, h.kept.trans e3, h0, h1, h.sz⟩
theorem Rs.count (h : Rs g S W s w) (N : Int) (hN : N ≤ 9223372036854775807) :
    Calls Try.prog 43 #[.pointer (some ⟨g, 0, none⟩), .int .i64 N] w fun e w' => e = .returned (.int .i64 (askP S s 2 N).2) ∧ Rs g S W (askP S s 2 N).1 w' := by
  obtain ⟨p, hp⟩ := Int.eq_ofNat_of_zero_le h.p0
  have q := h.rd
  have r := askP_range (S := S) (s := s) (k := 2) (N := N) h.p0 h.p1
  have sz := h.sz
  rw [hp] at q
  refine (RCount_any g S p s.2 N w (by omega) hN q).mono (fun e w' hE => ?_)
  have hpt : s.1.toNat = p := by omega
  have hf : RF g S ((outOf S p 2 N).fin s.2 p) (.int .i64 ((outOf S p 2 N).fin s.2 p).num) w e w' := by
    have e2 := @outOf_2 S p N
    rw [e2]
    exact RdEnds.num hE
  rw [show (askP S s 2 N).2 = ((outOf S p 2 N).fin s.2 p).num by unfold askP; rw [hpt]; rfl]
  have ht : (askP S s 2 N).1 = (((outOf S p 2 N).fin s.2 p).to, ((outOf S p 2 N).fin s.2 p).er) := by unfold askP; rw [hpt]
  rw [ht] at r
  exact h.of_rf hf ht r.1 r.2
theorem Rs.int (h : Rs g S W s w) :
    Calls Try.prog 68 #[.pointer (some ⟨g, 0, none⟩)] w fun e w' => e = .returned (.int .i64 (askP S s 3 0).2) ∧ Rs g S W (askP S s 3 0).1 w' := by
  obtain ⟨p, hp⟩ := Int.eq_ofNat_of_zero_le h.p0
  have q := h.rd
  have r := askP_range (S := S) (s := s) (k := 3) (N := 0) h.p0 h.p1
  have sz := h.sz
  rw [hp] at q
  refine (RInt_any g S p s.2 w (by omega) q).mono (fun e w' hE => ?_)
  have hpt : s.1.toNat = p := by omega
  have hf : RF g S ((outOf S p 3 0).fin s.2 p) (.int .i64 ((outOf S p 3 0).fin s.2 p).int) w e w' := by
    have e2 := @outOf_3 S p 0
    rw [e2]
    exact RdEnds.int hE
  rw [show (askP S s 3 0).2 = ((outOf S p 3 0).fin s.2 p).int by unfold askP; rw [hpt]; rfl]
  have ht : (askP S s 3 0).1 = (((outOf S p 3 0).fin s.2 p).to, ((outOf S p 3 0).fin s.2 p).er) := by unfold askP; rw [hpt]
  rw [ht] at r
  exact h.of_rf hf ht r.1 r.2
theorem Rs.byte (h : Rs g S W s w) :
    Calls Try.prog 63 #[.pointer (some ⟨g, 0, none⟩)] w fun e w' => e = .returned (.int .u8 (askP S s 0 0).2) ∧ Rs g S W (askP S s 0 0).1 w' := by
  obtain ⟨p, hp⟩ := Int.eq_ofNat_of_zero_le h.p0
  have q := h.rd
  have r := askP_range (S := S) (s := s) (k := 0) (N := 0) h.p0 h.p1
  have sz := h.sz
  have p1 := h.p1
  rw [hp] at q p1
  have hpt : s.1.toNat = p := by omega
  have hcall : Calls Try.prog 63 #[.pointer (some ⟨g, 0, none⟩)] w (RF g S ((outOf S p 0 0).fin s.2 p) (.int .u8 ((outOf S p 0 0).fin s.2 p).num) w) := by
    by_cases hlt : p < S.size
    · rw [outOf_0a hlt]
      exact (Byte_ok g S p s.2 w (by omega) hlt q).mono (fun e w' hE => RdEnds.num hE)
    · obtain rfl : p = S.size := by omega
      rw [outOf_0b hlt]
      exact (Byte_no g S s.2 w (by omega) q).mono (fun e w' hE => RdEnds.num hE)
  refine hcall.mono (fun e w' hf => ?_)
  rw [show (askP S s 0 0).2 = ((outOf S p 0 0).fin s.2 p).num by unfold askP; rw [hpt]; rfl]
  have ht : (askP S s 0 0).1 = (((outOf S p 0 0).fin s.2 p).to, ((outOf S p 0 0).fin s.2 p).er) := by unfold askP; rw [hpt]
  rw [ht] at r
  exact h.of_rf hf ht r.1 r.2
theorem Rs.endd (h : Rs g S W s w) :
    Calls Try.prog 65 #[.pointer (some ⟨g, 0, none⟩)] w fun e w' => e = .returned (.int .i64 (endOf S s.1 s.2)) ∧ Below w.heap.size w w' := by
  obtain ⟨p, hp⟩ := Int.eq_ofNat_of_zero_le h.p0
  have q := h.rd
  have p1 := h.p1
  have sz := h.sz
  rw [hp] at q p1 ⊢
  exact End_any g S p s.2 w (by omega) (by omega) q

set_option maxRecDepth 100000 in
theorem r_plain (h : Rs g S W s w) :
    Calls Try.prog 51 #[.agg #[.pointer (some ⟨g, 0, none⟩)]] w fun e w' => e = .returned (.int .i64 (askP S s 2 200).2) ∧ Rs g S W (askP S s 2 200).1 w' := by
  have HN := Lib.hid ((h.below ((Below.refl _ _).alloc (Nat.le_refl _) (.cells #[.pointer (some ⟨g, 0, none⟩)] 55))).count 200 (by omega))
  clear h
  go_enter Try.func51, Try.ntmps51
  go_wp2_with (go_at_call 43; refine HN.out.mono ?_; rintro e w1 ⟨rfl, hW⟩)
  go_returns
  exact ⟨rfl, hW⟩
set_option maxRecDepth 100000 in
theorem r_signed (h : Rs g S W s w) :
    Calls Try.prog 50 #[.agg #[.pointer (some ⟨g, 0, none⟩)]] w fun e w' => e = .returned (.int .i64 (askP S s 3 0).2) ∧ Rs g S W (askP S s 3 0).1 w' := by
  have HN := Lib.hid ((h.below ((Below.refl _ _).alloc (Nat.le_refl _) (.cells #[.pointer (some ⟨g, 0, none⟩)] 55))).int)
  clear h
  go_enter Try.func50, Try.ntmps50
  go_wp2_with (go_at_call 68; refine HN.out.mono ?_; rintro e w1 ⟨rfl, hW⟩)
  go_returns
  exact ⟨rfl, hW⟩
set_option maxRecDepth 100000 in
theorem r_nothing (h : Rs g S W s w) :
    Calls Try.prog 53 #[.agg #[.pointer (some ⟨g, 0, none⟩)]] w fun e w' => e = .returned (.int .i64 0) ∧ Rs g S W s w' := by
  have hW := h.below ((Below.refl _ _).alloc (Nat.le_refl _) (.cells #[.pointer (some ⟨g, 0, none⟩)] 55))
  clear h
  go_enter Try.func53, Try.ntmps53
  go_wp2
  go_returns
  exact ⟨rfl, hW⟩
/-- A node's number is read. -/
theorem tell_r (h : Rs g S W s w) (t : Int) :
    Calls Try.prog (tellR t) #[.agg #[.pointer (some ⟨g, 0, none⟩)]] w fun e w' => e = .returned (.int .i64 (pnum S s t).2) ∧ Rs g S W (pnum S s t).1 w' := by
  unfold tellR pnum
  rcases nkind_three t with q | q | q
  · rw [q, if_neg (by decide), if_neg (by decide), if_neg (by decide), if_neg (by decide)]
    exact r_nothing h
  · rw [q, if_neg (by decide), if_pos rfl, if_pos rfl]
    exact r_plain h
  · rw [q, if_pos rfl, if_neg (by decide), if_pos rfl]
    exact r_signed h

/-- The node that stands there. -/
def pnode (S : ByteArray) (s : Int × Int) : (Int × Int) × Nd := ((pnum S (askP S s 0 0).1 (askP S s 0 0).2).1, ((askP S s 0 0).2, (pnum S (askP S s 0 0).1 (askP S s 0 0).2).2))
set_option maxRecDepth 100000 in
set_option maxHeartbeats 2000000 in
theorem r_node (h : Rs g S W s w) :
    Calls Try.prog 64 #[.agg #[.pointer (some ⟨g, 0, none⟩)]] w fun e w' => e = .returned (.agg #[.int .i64 (pnode S s).2.1, .int .i64 (pnode S s).2.2]) ∧ Rs g S W (pnode S s).1 w' := by
  have hgw : g < w.heap.size := h.rd.lt
  have hb1 : Below w.heap.size w (w.alloc (.cells #[.pointer (some ⟨g, 0, none⟩)] 55)) := (Below.refl _ _).alloc (Nat.le_refl _) _
  have hb2 : Below w.heap.size w ((w.alloc (.cells #[.pointer (some ⟨g, 0, none⟩)] 55)).alloc (.cells #[.int .i64 0, .int .i64 0] 38)) := hb1.alloc hb1.size _
  have bX := (Blk.new w 55 #[.pointer (some ⟨g, 0, none⟩)]).alloc (.cells #[.int .i64 0, .int .i64 0] 38)
  obtain ⟨w1, hw1⟩ : ∃ w1, (w.alloc (.cells #[.pointer (some ⟨g, 0, none⟩)] 55)).alloc (.cells #[.int .i64 0, .int .i64 0] 38) = w1 := ⟨_, rfl⟩
  rw [hw1] at hb2 bX
  have h1 := h.again hb2
  have HX := Lib.hid (fun t W2 (q : Rs g S w1 t W2) => show W2.cell? ⟨w.heap.size, 0, none⟩ = some (.pointer (some ⟨g, 0, none⟩)) from (q.blk bX (by omega)).cell 0)
  have HB := Lib.hid h1.byte
  have bR := Blk.new (w.alloc (.cells #[.pointer (some ⟨g, 0, none⟩)] 55)) 38 #[.int .i64 0, .int .i64 0]
  rw [hw1, World.size_alloc] at bR
  have HR := Lib.hid (fun t W2 (q : Rs g S w1 t W2) => show W2.cell? ⟨w.heap.size, 0, none⟩ = some (.pointer (some ⟨g, 0, none⟩)) ∧ (W2.cell? ⟨w.heap.size + 1, 0, none⟩ = some (.int .i64 0) ∧ W2.cell? ⟨w.heap.size + 1, 1, none⟩ = some (.int .i64 0)) ∧ W2.frozen? ⟨w.heap.size + 1, 0, none⟩ = false ∧ W2.frozen? ⟨w.heap.size + 1, 1, none⟩ = false from ⟨(q.blk bX (by omega)).cell 0, (q.blk bR (by omega)).two, (q.blk bR (by omega)).frozen 0, (q.blk bR (by omega)).frozen 1⟩)
  have hrng := byte_rng S s
  unfold pnode
  generalize (askP S s 0 0).2 = t at *
  generalize (askP S s 0 0).1 = s1 at *
  have HT := Lib.hid (fun W2 (q : Rs g S w1 s1 W2) => tell_r q t)
  generalize (pnum S s1 t).2 = n at *
  generalize (pnum S s1 t).1 = s2 at *
  have HO := Lib.hid (fun W2 => of_any t W2)
  have hWw := h.wide
  have HE := Lib.hid (fun W2 (q : Rs g S w1 s2 W2) v u => show Rs g S W s2 ((W2.setCell ⟨w.heap.size + 1, 0, none⟩ v).setCell ⟨w.heap.size + 1, 1, none⟩ u) from ((h.back hb2 q).set (q := ⟨w.heap.size + 1, 0, none⟩) (by simp; omega) (by simp; omega) v).set (q := ⟨w.heap.size + 1, 1, none⟩) (by simp; omega) (by simp; omega) u)
  have HW1 := Lib.hid hw1
  have c0 := HX.out _ _ h1
  rw [← hw1] at c0
  have hf1 := field_1
  have hu : IntKind.i64.wrap t = t := IntWalk.i64_in _ (by omega)
  have ne : ∀ j, (⟨w.heap.size + 1, j, none⟩ : Addr) ≠ ⟨w.heap.size, 0, none⟩ := fun j e => by simp at e
  clear hb1 hb2 bX bR hw1 hrng hWw h HX
  rcases nkind_three t with hq | hq | hq
  · have ht : tellR t = 53 := by unfold tellR; rw [hq]; rfl
    rw [ht] at HO HT
    clear ht hq
    go_enter Try.func64, Try.ntmps64
    go_wp2_with (go_at_call 63; rw [HW1.out]; refine HB.out.mono ?_; rintro e w5 ⟨rfl, hW5⟩)
    obtain ⟨c0, c1, c2⟩ := HR.out _ _ hW5
    go_region_held3 (fun w' => w'.cell? ⟨w.heap.size, 0, none⟩ = some (.pointer (some ⟨g, 0, none⟩))) (first | exact c0 | ((repeat rw [World.cell?_setCell_other _ _ _ _ (ne _)]); exact c0)) (first
      | (go_at_call 31; refine (HO.out _).mono ?_; rintro e w6 ⟨rfl, hb6⟩; have hW6 := hW5.drew.below hb6; obtain ⟨c0, c1, c2⟩ := HR.out _ _ hW6)
      | (go_at_call 53; refine (HT.out _ hW6).mono ?_; rintro e w7 ⟨rfl, hW7⟩; obtain ⟨c0, ⟨c1, c2⟩, c3, c4⟩ := HR.out _ _ hW7)
      | fail)
    go_wp2_with fail
    refine bodyPost_ret (v := .agg #[.int .i64 t, .int .i64 n]) (by simp [results, Try.results64, go_sem, c1, c2]) rfl ?_
    exact ⟨rfl, HE.out _ hW7 _ _⟩
  · have ht : tellR t = 51 := by unfold tellR; rw [hq]; rfl
    rw [ht] at HO HT
    clear ht hq
    go_enter Try.func64, Try.ntmps64
    go_wp2_with (go_at_call 63; rw [HW1.out]; refine HB.out.mono ?_; rintro e w5 ⟨rfl, hW5⟩)
    obtain ⟨c0, c1, c2⟩ := HR.out _ _ hW5
    go_region_held3 (fun w' => w'.cell? ⟨w.heap.size, 0, none⟩ = some (.pointer (some ⟨g, 0, none⟩))) (first | exact c0 | ((repeat rw [World.cell?_setCell_other _ _ _ _ (ne _)]); exact c0)) (first
      | (go_at_call 31; refine (HO.out _).mono ?_; rintro e w6 ⟨rfl, hb6⟩; have hW6 := hW5.drew.below hb6; obtain ⟨c0, c1, c2⟩ := HR.out _ _ hW6)
      | (go_at_call 51; refine (HT.out _ hW6).mono ?_; rintro e w7 ⟨rfl, hW7⟩; obtain ⟨c0, ⟨c1, c2⟩, c3, c4⟩ := HR.out _ _ hW7)
      | fail)
    go_wp2_with fail
    refine bodyPost_ret (v := .agg #[.int .i64 t, .int .i64 n]) (by simp [results, Try.results64, go_sem, c1, c2]) rfl ?_
    exact ⟨rfl, HE.out _ hW7 _ _⟩
  · have ht : tellR t = 50 := by unfold tellR; rw [hq]; rfl
    rw [ht] at HO HT
    clear ht hq
    go_enter Try.func64, Try.ntmps64
    go_wp2_with (go_at_call 63; rw [HW1.out]; refine HB.out.mono ?_; rintro e w5 ⟨rfl, hW5⟩)
    obtain ⟨c0, c1, c2⟩ := HR.out _ _ hW5
    go_region_held3 (fun w' => w'.cell? ⟨w.heap.size, 0, none⟩ = some (.pointer (some ⟨g, 0, none⟩))) (first | exact c0 | ((repeat rw [World.cell?_setCell_other _ _ _ _ (ne _)]); exact c0)) (first
      | (go_at_call 31; refine (HO.out _).mono ?_; rintro e w6 ⟨rfl, hb6⟩; have hW6 := hW5.drew.below hb6; obtain ⟨c0, c1, c2⟩ := HR.out _ _ hW6)
      | (go_at_call 50; refine (HT.out _ hW6).mono ?_; rintro e w7 ⟨rfl, hW7⟩; obtain ⟨c0, ⟨c1, c2⟩, c3, c4⟩ := HR.out _ _ hW7)
      | fail)
    go_wp2_with fail
    refine bodyPost_ret (v := .agg #[.int .i64 t, .int .i64 n]) (by simp [results, Try.results64, go_sem, c1, c2]) rfl ?_
    exact ⟨rfl, HE.out _ hW7 _ _⟩
end

end Go.Proofs.Ytpjijdgenojpcaa.Code

namespace Go.Proofs.Ytpjijdgenojpcaa.Code
open Go.RowKit Leb Mem Wire _root_.Go.Proofs.Ytpjijdgenojpcaa.Arena _root_.Go.Proofs.Ytpjijdgenojpcaa.Kinds
set_option linter.unusedVariables false
attribute [local go_sem ↓] Go.wp_at_zero Go.wp_at_succ

/-- A row of numbers that the call owns, as numbers. -/
theorem own_ints2 {w : World} {base : Nat} {v : Value} {ks : List Int} (h : w.ownsRow base 3 1 v ks.length (icells ks)) :
    ∃ A c, v = .slice A ks.length c ∧ ks.length ≤ c ∧ (A = none → c = 0) ∧ IRow w w.heap.size A ks ∧ ∀ ad, A = some ad → base ≤ ad.block := by
  have hc := fun g hg => h.cells (g := g) hg
  rcases h.2 with ⟨rfl, h0⟩ | ⟨g, cap, cur, rfl, hbg, hg, hn, -⟩
  · obtain rfl := List.length_eq_zero_iff.1 h0
    exact ⟨none, 0, rfl, Nat.le_refl _, fun _ => rfl, fun i x h => by simp at h, fun ad e => by cases e⟩
  · refine ⟨_, _, rfl, hn, (fun e => by cases e), fun i x hx => ⟨_, rfl, (Array.getElem?_eq_some_iff.1 hg).1, ?_⟩, fun ad e => by cases e; exact hbg⟩
    exact hc g rfl _ _ (by unfold icells; rw [List.getElem?_map, hx]; rfl)
theorem own_nodes2 {w : World} {base : Nat} {v : Value} {xs : List Nd} (h : w.ownsRow base 38 2 v xs.length (ncells xs)) :
    ∃ A c, v = .slice A xs.length c ∧ xs.length ≤ c ∧ (A = none → c = 0) ∧ Nodes w w.heap.size A xs ∧ ∀ ad, A = some ad → base ≤ ad.block := by
  obtain ⟨A, c, rfl, h1, h2, h3⟩ := own_nodes h
  refine ⟨A, c, rfl, h1, h2, h3, fun ad e => ?_⟩
  subst e
  have := (h.lt ad.block rfl).1
  exact this
section
variable {g : Nat} {S : ByteArray} {W w w' : World} {s : Int × Int}
theorem Rs.grown {row : Option Nat} (h : Rs g S W s w) (hgl : g < W.heap.size) (hg : w.grownBy w' row) (hr : ∀ k, row = some k → W.heap.size ≤ k) : Rs g S W s w' :=
  ⟨h.rd.grown hg (fun e => by have := hr g e.symm; omega), h.kept.grown hg (fun k hk => .inr (hr k hk)), h.p0, h.p1, h.sz⟩
theorem row_kept {A : Option Addr} {ks : List Int} (h : IRow w w.heap.size A ks) (hA : ∀ ad, A = some ad → ad.block ≠ g) (k : Kept (· = g) w w') : IRow w' w'.heap.size A ks := by
  intro i x hx
  obtain ⟨ad, h0, h1, h3⟩ := h i x hx
  have hne := hA ad h0
  refine ⟨ad, h0, Nat.lt_of_lt_of_le h1 k.size, ?_⟩
  rw [k.cell (by rw [add_blockN]; exact h1) (by rw [add_blockN]; exact hne)]
  exact h3
theorem nodes_kept {A : Option Addr} {xs : List Nd} (h : Nodes w w.heap.size A xs) (hA : ∀ ad, A = some ad → ad.block ≠ g) (k : Kept (· = g) w w') : Nodes w' w'.heap.size A xs := by
  intro i x hx
  obtain ⟨ad, h0, h1, h3, h4⟩ := h i x hx
  have hne := hA ad h0
  refine ⟨ad, h0, Nat.lt_of_lt_of_le h1 k.size, ?_, ?_⟩
  · rw [k.cell (by rw [add_blockN]; exact h1) (by rw [add_blockN]; exact hne)]
    exact h3
  · rw [k.cell (by show (ad.add (i * 2)).block < _; rw [add_blockN]; exact h1) (by show ¬ (ad.add (i * 2)).block = g; rw [add_blockN]; exact hne)]
    exact h4
/-- The state behind the variables. -/
def vstate (S : ByteArray) (s : Int × Int) : List Int × (Int × Int) := pv S (askP S s 2 12).1 (askP S s 2 12).2.toNat
/-- What reading variables comes to. -/
def VarsEnds (g : Nat) (S : ByteArray) (W : World) (s : Int × Int) (w : World) (e : Ending) (w' : World) : Prop :=
  Rs g S W (vstate S s).2 w' ∧ ∃ A c, e = .returned (.slice A (vstate S s).1.length c) ∧ (vstate S s).1.length ≤ c ∧ (A = none → c = 0) ∧ IRow w' w'.heap.size A (vstate S s).1 ∧ ∀ ad, A = some ad → w.heap.size ≤ ad.block
set_option maxRecDepth 100000 in
set_option maxHeartbeats 2000000 in
theorem r_vars (h : Rs g S W s w) :
    Calls Try.prog 44 #[.agg #[.pointer (some ⟨g, 0, none⟩)]] w (VarsEnds g S W s w) := by
  have hgw : g < w.heap.size := h.rd.lt
  have hb1 : Below w.heap.size w (w.alloc (.cells #[.pointer (some ⟨g, 0, none⟩)] 55)) := (Below.refl _ _).alloc (Nat.le_refl _) _
  have bX := Blk.new w 55 #[.pointer (some ⟨g, 0, none⟩)]
  obtain ⟨w1, hw1⟩ : ∃ w1, w.alloc (.cells #[.pointer (some ⟨g, 0, none⟩)] 55) = w1 := ⟨_, rfl⟩
  rw [hw1] at hb1 bX
  have h1 := h.again hb1
  have hg1 : g < w1.heap.size := Nat.lt_of_lt_of_le hgw hb1.size
  have HX := Lib.hid (fun t W2 (q : Rs g S w1 t W2) => show W2.cell? ⟨w.heap.size, 0, none⟩ = some (.pointer (some ⟨g, 0, none⟩)) from (q.blk bX (by omega)).cell 0)
  have HN := Lib.hid (h1.count 12 (by omega))
  have hN := askP_count (S := S) (s := s) (N := 12) (by omega) (by omega)
  have c0 := HX.out _ _ h1
  rw [← hw1] at c0
  have HW1 := Lib.hid hw1
  have HE := Lib.hid (fun t W2 (q : Rs g S w1 t W2) => h.back hb1 q)
  obtain ⟨ig, hig, hz0, hz1, hz2⟩ := info_parts info_int
  have hw9 : w.heap.size ≤ w1.heap.size := hb1.size
  unfold VarsEnds vstate
  generalize (askP S s 2 12).1 = s1 at *
  generalize (askP S s 2 12).2 = n at *
  obtain ⟨m, rfl⟩ := Int.eq_ofNat_of_zero_le hN.1
  rw [Int.toNat_natCast]
  have hm : m ≤ 12 := by omega
  clear h hb1 bX hw1 hN
  go_enter Try.func44, Try.ntmps44
  go_wp2_with (go_at_call 43; rw [HW1.out]; refine HN.out.mono ?_; rintro e w2 ⟨rfl, hR2⟩)
  go_loopw [3, 7] (fun v i wr => ∃ k : Nat, k ≤ m ∧ i = .int .i64 k ∧ Rs g S w1 (pv S s1 k).2 wr ∧ wr.ownsRow w1.heap.size 3 1 v k (icells (pv S s1 k).1)) (fun _ i _ => m - (intOf i).toNat)
  case atStart => exact ⟨0, by omega, rfl, hR2, World.ownsRow_nil _ _ _ _⟩
  case round =>
    obtain ⟨k, hk, rfl, hR, hO⟩ := hrel
    have c0 := HX.out _ _ hR
    by_cases hlt : k < m
    · have j1 : (k : Int) < (m : Int) := by omega
      have hrr := byte_rng S (pv S s1 k).2
      have hst : pv S s1 (k + 1) = ((pv S s1 k).1 ++ [(askP S (pv S s1 k).2 0 0).2], (askP S (pv S s1 k).2 0 0).1) := rfl
      have HB := Lib.hid ((hR.again (Below.refl _ _)).byte)
      generalize (askP S (pv S s1 k).2 0 0).2 = t at *
      generalize (askP S (pv S s1 k).2 0 0).1 = s2 at *
      have hu : IntKind.i64.wrap t = t := IntWalk.i64_in _ (by omega)
      have hrow := fun i (hi : u3.ownBlock = some i) => hO.lt i hi
      have HS := Lib.hid hst
      clear hst hrr
      generalize (pv S s1 k).1 = L at *
      go_wp2_with (first
        | (go_at_call 63; refine HB.out.mono ?_; rintro e w4 ⟨rfl, hR4⟩
           have hO1 := own_of_block hO (fun i hi => hR4.kept.block i (hrow i hi).2 (by have := (hrow i hi).1; omega))
           have hR5 := hR.back (Below.refl _ _) hR4
           have HNB := Lib.hid (heap_alloc_new w4 (.cells #[.int .i64 t] 3))
           have hsz3 : w1.heap.size ≤ (w4.alloc (.cells #[.int .i64 t] 3)).heap.size := by rw [World.size_alloc]; have := hR5.wide; omega)
        | (at_builtin; refine wpList_append_own_at _ rfl _ _ 22 rfl w1.heap.size 3 ig (.int .i64 0) 1 8 Try.underlying22 hig hz0 hz1 hz2 rfl (by decide) _ k _ rfl (hO1.alloc _) ⟨w4.heap.size, 0, none⟩ 1 1 [.int .i64 t] rfl rfl (World.news_of_block (cs := #[.int .i64 t]) (t := 3) (fr := (0, 0)) HNB.out) (by simp [Value.oneCell']) (by simp only [maxLen]; omega) (by omega) hsz3 ?_; intro v7 w7 hown hg _ _; have hR7 : Rs g S w1 s2 w7 := (hR5.below ((Below.refl _ _).alloc (Nat.le_refl _) (.cells #[.int .i64 t] 3))).grown hg1 hg (fun i e => (hrow i e).1)))
      go_roundw
      case rel => exact ⟨k + 1, by omega, by go_num, by rw [HS.out]; exact hR7, by rw [HS.out, icells_snoc]; exact hown⟩
      case measure => simp [intOf]; omega
    · have hk9 : k = m := by omega
      subst hk9
      have hl := pv_len S s1 k
      have hO' : wr.ownsRow w1.heap.size 3 1 u3 (pv S s1 k).1.length (icells (pv S s1 k).1) := by rw [hl]; exact hO
      obtain ⟨A2, c2, hv, h2, h3, h4, h5⟩ := own_ints2 hO'
      rw [hl] at hv h2
      have HV := Lib.hid hv
      have HL := Lib.hid hl
      have j1 : ¬ (k : Int) < (k : Int) := by omega
      clear hl hv hO hO'
      go_wp2
      go_returns
      exact ⟨HE.out _ _ hR, A2, c2, by rw [HL.out, ← HV.out]; rfl, by rw [HL.out]; exact h2, h3, h4, fun ad e => Nat.le_trans hw9 (h5 ad e)⟩
end

end Go.Proofs.Ytpjijdgenojpcaa.Code

namespace Go.Proofs.Ytpjijdgenojpcaa.Code
open Go.RowKit Leb Mem Wire _root_.Go.Proofs.Ytpjijdgenojpcaa.Arena _root_.Go.Proofs.Ytpjijdgenojpcaa.Kinds
set_option linter.unusedVariables false
attribute [local go_sem ↓] Go.wp_at_zero Go.wp_at_succ

section
variable {g : Nat} {S : ByteArray} {W w w' : World} {s : Int × Int}
/-- What reading nodes comes to. -/
def BodyEnds (g : Nat) (S : ByteArray) (W : World) (s : Int × Int) (w : World) (e : Ending) (w' : World) : Prop :=
  ∃ (k : Nat) (t : Int × Int), Rs g S W t w' ∧ ((k : Int) ≤ (askP S s 2 200).2 ∧ ((k : Int) = (askP S s 2 200).2 ∨ stops S (pb S (askP S s 2 200).1 (k + 1)).2)) ∧
    ∃ A c, e = .returned (.slice A (pb S (askP S s 2 200).1 k).1.length c) ∧ (pb S (askP S s 2 200).1 k).1.length ≤ c ∧ (A = none → c = 0) ∧ Nodes w' w'.heap.size A (pb S (askP S s 2 200).1 k).1 ∧ ∀ ad, A = some ad → w.heap.size ≤ ad.block
set_option maxRecDepth 100000 in
set_option maxHeartbeats 2000000 in
theorem r_body (h : Rs g S W s w) :
    Calls Try.prog 45 #[.agg #[.pointer (some ⟨g, 0, none⟩)]] w (BodyEnds g S W s w) := by
  have hgw : g < w.heap.size := h.rd.lt
  have hb1 : Below w.heap.size w (w.alloc (.cells #[.pointer (some ⟨g, 0, none⟩)] 55)) := (Below.refl _ _).alloc (Nat.le_refl _) _
  have bX := Blk.new w 55 #[.pointer (some ⟨g, 0, none⟩)]
  obtain ⟨w1, hw1⟩ : ∃ w1, w.alloc (.cells #[.pointer (some ⟨g, 0, none⟩)] 55) = w1 := ⟨_, rfl⟩
  rw [hw1] at hb1 bX
  have h1 := h.again hb1
  have hg1 : g < w1.heap.size := Nat.lt_of_lt_of_le hgw hb1.size
  have HX := Lib.hid (fun t W2 (q : Rs g S w1 t W2) => show W2.cell? ⟨w.heap.size, 0, none⟩ = some (.pointer (some ⟨g, 0, none⟩)) from (q.blk bX (by omega)).cell 0)
  have HN := Lib.hid (h1.count 200 (by omega))
  have hN := askP_count (S := S) (s := s) (N := 200) (by omega) (by omega)
  have c0 := HX.out _ _ h1
  rw [← hw1] at c0
  have HW1 := Lib.hid hw1
  have HE := Lib.hid (fun t W2 (q : Rs g S w1 t W2) => h.back hb1 q)
  have hw9 : w.heap.size ≤ w1.heap.size := hb1.size
  unfold BodyEnds
  generalize (askP S s 2 200).1 = s1 at *
  generalize (askP S s 2 200).2 = n at *
  obtain ⟨m, rfl⟩ := Int.eq_ofNat_of_zero_le hN.1
  have hm : m ≤ 200 := by omega
  clear h hb1 bX hw1 hN
  go_enter Try.func45, Try.ntmps45
  go_wp2_with fail
  go_step3
  go_wp2_with fail
  go_step3
  go_wp2_with (go_at_call 43; rw [HW1.out]; refine HN.out.mono ?_; rintro e w2 ⟨rfl, hR2⟩)
  go_loopw [3, 8] (fun v i wr => ∃ k : Nat, k ≤ m ∧ i = .int .i64 k ∧ Rs g S w1 (pb S s1 k).2 wr ∧ wr.ownsRow w1.heap.size 38 2 v (pb S s1 k).1.length (ncells (pb S s1 k).1)) (fun _ i _ => m - (intOf i).toNat)
  case atStart => exact ⟨0, by omega, rfl, hR2, World.ownsRow_nil _ _ _ _⟩
  case round =>
    obtain ⟨k, hk, rfl, hR, hO⟩ := hrel
    have c0 := HX.out _ _ hR
    have hlen := pb_len S s1 k
    by_cases hlt : k < m
    · have j1 : (k : Int) < (m : Int) := by omega
      have hst : pb S s1 (k + 1) = ((pb S s1 k).1 ++ [((pnode S (pb S s1 k).2).2.1, (pnode S (pb S s1 k).2).2.2)], (pnode S (pb S s1 k).2).1) := rfl
      have HB := Lib.hid (r_node (hR.again (Below.refl _ _)))
      generalize (pnode S (pb S s1 k).2).2.1 = t at *
      generalize (pnode S (pb S s1 k).2).2.2 = n at *
      generalize (pnode S (pb S s1 k).2).1 = s2 at *
      obtain ⟨ev, hev⟩ : ∃ ev, endOf S s2.1 s2.2 = ev := ⟨_, rfl⟩
      have HQ := Lib.hid (fun W2 (q : Rs g S w1 s2 W2) => show Calls Try.prog 65 #[.pointer (some ⟨g, 0, none⟩)] W2 (fun e w' => e = .returned (.int .i64 ev) ∧ Below W2.heap.size W2 w') from hev ▸ q.endd)
      have hrow := fun i (hi : u3.ownBlock = some i) => hO.lt i hi
      have HS := Lib.hid hst
      have HEV := Lib.hid hev
      clear hst hev
      by_cases e0 : ev = 0
      · subst e0
        go_wp2_with (first
          | (go_at_call 64; refine HB.out.mono ?_; rintro e w4 ⟨rfl, hR4⟩
             have hO4 := own_of_block hO (fun i hi => hR4.kept.block i (hrow i hi).2 (by have := (hrow i hi).1; omega))
             have hR4 := hR.back (Below.refl _ _) hR4
             have hb5 : Below w4.heap.size w4 (w4.alloc (.cells #[.int .i64 t, .int .i64 n] 38)) := (Below.refl _ _).alloc (Nat.le_refl _) _
             have hR5 := hR4.below hb5
             have c1 := HX.out _ _ hR5
             have bZ := Blk.new w4 38 #[.int .i64 t, .int .i64 n]
             have hlz := bZ.lt)
          | (go_at_call 65; refine (HQ.out _ hR5).mono ?_; rintro e w6 ⟨rfl, hb6⟩
             have hR6 := hR5.below hb6
             have hO6 := own_of_block (hO4.alloc (.cells #[.int .i64 t, .int .i64 n] 38)) (fun i hi => hb6.block i ((hO4.alloc (.cells #[.int .i64 t, .int .i64 n] 38)).lt i hi).2)
             obtain ⟨z0, z1⟩ := (bZ.below hb6 hlz).two
             have c2 := HX.out _ _ hR6
             have bN := Blk.new w6 38 #[.int .i64 t, .int .i64 n]
             have hN7 : Nodes (w6.alloc (.cells #[.int .i64 t, .int .i64 n] 38)) (w6.heap.size + 1) (some ⟨w6.heap.size, 0, none⟩) [(t, n)] := Nodes.of_blk bN (Nat.lt_succ_self _)
             have hO7 := hO6.alloc (.cells #[.int .i64 t, .int .i64 n] 38)
             have hR7 := hR6.below ((Below.refl _ _).alloc (Nat.le_refl _) (.cells #[.int .i64 t, .int .i64 n] 38))
             have hw7 := hR7.wide)
          | (at_builtin; refine append_nodes rfl _ _ rfl w1.heap.size hw7 _ _ rfl hO7 _ (some ⟨w6.heap.size, 0, none⟩) 1 [(t, n)] 1 rfl rfl (fun e => by cases e) hN7 (by simp; omega) ?_; intro v8 w8 hown hgr _; have hR8 : Rs g S w1 s2 w8 := hR7.grown hg1 hgr (fun i e => (hrow i e).1)))
        go_roundw
        case rel => exact ⟨k + 1, by omega, by go_num, by rw [HS.out]; exact hR8, by rw [HS.out]; exact hown⟩
        case measure => simp [intOf]; omega
      by_cases e5 : ev = 5
      · subst e5
        go_wp2_with (first
          | (go_at_call 64; refine HB.out.mono ?_; rintro e w4 ⟨rfl, hR4⟩
             have hO4 := own_of_block hO (fun i hi => hR4.kept.block i (hrow i hi).2 (by have := (hrow i hi).1; omega))
             have hR4 := hR.back (Below.refl _ _) hR4
             have hb5 : Below w4.heap.size w4 (w4.alloc (.cells #[.int .i64 t, .int .i64 n] 38)) := (Below.refl _ _).alloc (Nat.le_refl _) _
             have hR5 := hR4.below hb5
             have c1 := HX.out _ _ hR5
             have bZ := Blk.new w4 38 #[.int .i64 t, .int .i64 n]
             have hlz := bZ.lt)
          | (go_at_call 65; refine (HQ.out _ hR5).mono ?_; rintro e w6 ⟨rfl, hb6⟩
             have hR6 := hR5.below hb6
             have hO6 := own_of_block (hO4.alloc (.cells #[.int .i64 t, .int .i64 n] 38)) (fun i hi => hb6.block i ((hO4.alloc (.cells #[.int .i64 t, .int .i64 n] 38)).lt i hi).2)
             obtain ⟨z0, z1⟩ := (bZ.below hb6 hlz).two
             have c2 := HX.out _ _ hR6
             have bN := Blk.new w6 38 #[.int .i64 t, .int .i64 n]
             have hN7 : Nodes (w6.alloc (.cells #[.int .i64 t, .int .i64 n] 38)) (w6.heap.size + 1) (some ⟨w6.heap.size, 0, none⟩) [(t, n)] := Nodes.of_blk bN (Nat.lt_succ_self _)
             have hO7 := hO6.alloc (.cells #[.int .i64 t, .int .i64 n] 38)
             have hR7 := hR6.below ((Below.refl _ _).alloc (Nat.le_refl _) (.cells #[.int .i64 t, .int .i64 n] 38))
             have hw7 := hR7.wide)
          | (at_builtin; refine append_nodes rfl _ _ rfl w1.heap.size hw7 _ _ rfl hO7 _ (some ⟨w6.heap.size, 0, none⟩) 1 [(t, n)] 1 rfl rfl (fun e => by cases e) hN7 (by simp; omega) ?_; intro v8 w8 hown hgr _; have hR8 : Rs g S w1 s2 w8 := hR7.grown hg1 hgr (fun i e => (hrow i e).1)))
        go_roundw
        case rel => exact ⟨k + 1, by omega, by go_num, by rw [HS.out]; exact hR8, by rw [HS.out]; exact hown⟩
        case measure => simp [intOf]; omega
      have q0 : (ev == 0) = false := by simpa using e0
      have q5 : (ev == 5) = false := by simpa using e5
      have HST := Lib.hid (show stops S s2 by unfold stops; rw [HEV.out]; exact ⟨e0, e5⟩)
      clear e0 e5
      go_wp2_with (first
        | (go_at_call 64; refine HB.out.mono ?_; rintro e w4 ⟨rfl, hR4⟩
           have hO4 := own_of_block hO (fun i hi => hR4.kept.block i (hrow i hi).2 (by have := (hrow i hi).1; omega))
           have hR4 := hR.back (Below.refl _ _) hR4
           have hb5 : Below w4.heap.size w4 (w4.alloc (.cells #[.int .i64 t, .int .i64 n] 38)) := (Below.refl _ _).alloc (Nat.le_refl _) _
           have hR5 := hR4.below hb5
           have c1 := HX.out _ _ hR5)
        | (go_at_call 65; refine (HQ.out _ hR5).mono ?_; rintro e w6 ⟨rfl, hb6⟩
           have hR6 := hR5.below hb6
           have hO6 := own_of_block (hO4.alloc (.cells #[.int .i64 t, .int .i64 n] 38)) (fun i hi => hb6.block i ((hO4.alloc (.cells #[.int .i64 t, .int .i64 n] 38)).lt i hi).2)
           obtain ⟨A2, c9, hv, h2, h3, h4, h5⟩ := own_nodes2 hO6
           have HV := Lib.hid hv
           clear hv))
      rw [Exit.noGoto_ret]
      go_returns
      exact ⟨k, s2, HE.out _ _ hR6, ⟨by omega, .inr (by rw [HS.out]; exact HST.out)⟩, A2, c9, by rw [← HV.out]; rfl, h2, h3, h4, fun ad e => Nat.le_trans hw9 (h5 ad e)⟩
    · have hk9 : k = m := by omega
      subst hk9
      obtain ⟨A2, c2, hv, h2, h3, h4, h5⟩ := own_nodes2 hO
      have HV := Lib.hid hv
      have j1 : ¬ (k : Int) < (k : Int) := by omega
      clear hv hO
      go_wp2_with fail
      go_returns
      exact ⟨k, _, HE.out _ _ hR, ⟨by omega, .inl rfl⟩, A2, c2, by rw [← HV.out]; rfl, h2, h3, h4, fun ad e => Nat.le_trans hw9 (h5 ad e)⟩
end

end Go.Proofs.Ytpjijdgenojpcaa.Code

namespace Go.Proofs.Ytpjijdgenojpcaa.Code
open Go.RowKit Leb Mem Wire _root_.Go.Proofs.Ytpjijdgenojpcaa.Arena _root_.Go.Proofs.Ytpjijdgenojpcaa.Kinds
set_option linter.unusedVariables false
attribute [local go_sem ↓] Go.wp_at_zero Go.wp_at_succ

section
variable {g : Nat} {S : ByteArray} {W w w' : World} {s : Int × Int}
/-- What reading a program comes to. -/
def ProgEnds (g : Nat) (S : ByteArray) (w : World) (e : Ending) (w' : World) : Prop :=
  ∃ (k : Nat) (A : Option Addr) (c : Nat) (B : Option Addr) (ce : Nat), ReadTo S k ∧ e = .returned (.agg #[.int .i64 (st1 S).2, .slice A (st3 S).1.length c, .slice B (pb S (st4 S).1 k).1.length ce]) ∧
    Prg.Ok ⟨(st1 S).2, A, c, (st3 S).1, B, ce, (pb S (st4 S).1 k).1⟩ w' ∧ Kept (· = g) w w' ∧ (∀ ad, A = some ad → w.heap.size ≤ ad.block) ∧ (∀ ad, B = some ad → w.heap.size ≤ ad.block)
theorem kept_set (w : World) (p : Addr) (v : Value) : Kept (· = p.block) w (w.setCell p v) := (Kept.refl (fun x => x = p.block) w).setCell (.inl rfl) v
theorem row_set {A : Option Addr} {ks : List Int} (h : IRow w w.heap.size A ks) (p : Addr) (v : Value) (hA : ∀ ad, A = some ad → ad.block ≠ p.block) : IRow (w.setCell p v) (w.setCell p v).heap.size A ks := row_kept h hA (kept_set w p v)
theorem nodes_set {A : Option Addr} {xs : List Nd} (h : Nodes w w.heap.size A xs) (p : Addr) (v : Value) (hA : ∀ ad, A = some ad → ad.block ≠ p.block) : Nodes (w.setCell p v) (w.setCell p v).heap.size A xs := nodes_kept h hA (kept_set w p v)
set_option maxRecDepth 100000 in
set_option maxHeartbeats 2000000 in
theorem r_program (h : Rs g S w (0, 0) w) :
    Calls Try.prog 24 #[.agg #[.pointer (some ⟨g, 0, none⟩)]] w (ProgEnds g S w) := by
  have hgw : g < w.heap.size := h.rd.lt
  have hn := askP_count (S := S) (s := (st3 S).2) (N := 200) (by omega) (by omega)
  have hb1 : Below w.heap.size w (w.alloc (.cells #[.pointer (some ⟨g, 0, none⟩)] 55)) := (Below.refl _ _).alloc (Nat.le_refl _) _
  have hb2 := hb1.alloc hb1.size (.cells #[.int .i64 0, .slice none 0 0, .slice none 0 0] 25)
  have hb3 := hb2.alloc hb2.size (.cells #[.int .i64 0, .slice none 0 0, .slice none 0 0] 25)
  have bX := ((Blk.new w 55 #[.pointer (some ⟨g, 0, none⟩)]).alloc (.cells #[.int .i64 0, .slice none 0 0, .slice none 0 0] 25)).alloc (.cells #[.int .i64 0, .slice none 0 0, .slice none 0 0] 25)
  have bR := (Blk.new (w.alloc (.cells #[.pointer (some ⟨g, 0, none⟩)] 55)) 25 #[.int .i64 0, .slice none 0 0, .slice none 0 0]).alloc (.cells #[.int .i64 0, .slice none 0 0, .slice none 0 0] 25)
  have bP := Blk.new ((w.alloc (.cells #[.pointer (some ⟨g, 0, none⟩)] 55)).alloc (.cells #[.int .i64 0, .slice none 0 0, .slice none 0 0] 25)) 25 #[.int .i64 0, .slice none 0 0, .slice none 0 0]
  simp only [World.size_alloc] at bR bP
  obtain ⟨w3, hw3⟩ : ∃ w3, ((w.alloc (.cells #[.pointer (some ⟨g, 0, none⟩)] 55)).alloc (.cells #[.int .i64 0, .slice none 0 0, .slice none 0 0] 25)).alloc (.cells #[.int .i64 0, .slice none 0 0, .slice none 0 0] 25) = w3 := ⟨_, rfl⟩
  rw [hw3] at hb3 bX bR bP
  have h3 := h.below hb3
  have hlP := bP.lt
  have HW3 := Lib.hid hw3
  have n1 : w.heap.size ≠ g := by omega
  have n2 : w.heap.size + 1 ≠ g := by omega
  have n3 : w.heap.size + 1 + 1 ≠ g := by omega
  clear hb1 hb2 hb3 hw3 h
  go_enter Try.func24, Try.ntmps24
  go_wp2_with fail
  rw [HW3.out]
  refine ((h3.again (Below.refl _ _)).count 12 (by omega)).mono ?_
  rw [show askP S (0, 0) 2 12 = st1 S from rfl]
  rintro e w4 ⟨rfl, q4⟩
  have h4 := h3.back (Below.refl _ _) q4
  have bX4 := q4.blk bX n1
  have bR4 := q4.blk bR n2
  have bP4 := q4.blk bP n3
  have hl4 : w3.heap.size ≤ w4.heap.size := q4.wide
  clear bX bR bP q4 h3
  obtain ⟨p, hp⟩ : ∃ p, (st1 S).2 = p := ⟨_, rfl⟩
  rw [hp]
  have x0 : w4.cell? ⟨w.heap.size, 0, none⟩ = some (.pointer (some ⟨g, 0, none⟩)) := bX4.cell 0
  obtain ⟨p0, p1, p2⟩ := bP4.three
  have pf := bP4.frozen
  -- the parameters are stored
  have h5 := h4.set (q := ⟨w.heap.size + 1 + 1, 0, none⟩) (by simp <;> omega) (by simp <;> omega) (.int .i64 p)
  have bX5 := bX4.apart (p := ⟨w.heap.size + 1 + 1, 0, none⟩) (by simp <;> omega) (.int .i64 p)
  have bR5 := bR4.apart (p := ⟨w.heap.size + 1 + 1, 0, none⟩) (by simp) (.int .i64 p)
  have bP5 := bP4.set 0 (.int .i64 p)
  have hl5 : w4.heap.size ≤ (w4.setCell ⟨w.heap.size + 1 + 1, 0, none⟩ (.int .i64 p)).heap.size := by simp
  simp only [List.setIfInBounds_toArray, List.set_cons_zero] at bP5
  go_wp2_with fail
  generalize w4.setCell ⟨w.heap.size + 1 + 1, 0, none⟩ (.int .i64 p) = w5 at *
  clear x0 p0 p1 p2 pf bX4 bR4 bP4 h4
  refine (r_vars (h5.again (Below.refl _ _))).mono ?_
  rintro e w6 ⟨q6, A, c, rfl, hlc, hAc, hrow, hfar⟩
  rw [show vstate S (st1 S).1 = st3 S from rfl] at *
  have h6 := h5.back (Below.refl _ _) q6
  have bX6 := q6.blk bX5 n1
  have bR6 := q6.blk bR5 n2
  have bP6 := q6.blk bP5 n3
  have hl6 : w5.heap.size ≤ w6.heap.size := q6.wide
  clear bX5 bR5 bP5 q6 h5
  have x0 : w6.cell? ⟨w.heap.size, 0, none⟩ = some (.pointer (some ⟨g, 0, none⟩)) := bX6.cell 0
  obtain ⟨p0, p1, p2⟩ := bP6.three
  have pf := bP6.frozen
  have h7 := h6.set (q := ⟨w.heap.size + 1 + 1, 1, none⟩) (by simp <;> omega) (by simp <;> omega) (.slice A (st3 S).1.length c)
  have bX7 := bX6.apart (p := ⟨w.heap.size + 1 + 1, 1, none⟩) (by simp <;> omega) (.slice A (st3 S).1.length c)
  have bR7 := bR6.apart (p := ⟨w.heap.size + 1 + 1, 1, none⟩) (by simp) (.slice A (st3 S).1.length c)
  have bP7 := bP6.set 1 (.slice A (st3 S).1.length c)
  have hrow7 := row_set hrow ⟨w.heap.size + 1 + 1, 1, none⟩ (.slice A (st3 S).1.length c) (fun ad e => by have := hfar ad e; simp; omega)
  simp only [List.setIfInBounds_toArray, List.set_cons_zero, List.set_cons_succ] at bP7
  have hAg : ∀ ad, A = some ad → w3.heap.size ≤ ad.block := fun ad e => by have := hfar ad e; omega
  have hl7 : w6.heap.size ≤ (w6.setCell ⟨w.heap.size + 1 + 1, 1, none⟩ (.slice A (st3 S).1.length c)).heap.size := by simp
  go_wp2_with fail
  generalize w6.setCell ⟨w.heap.size + 1 + 1, 1, none⟩ (.slice A (st3 S).1.length c) = w7 at *
  clear x0 p0 p1 p2 pf bX6 bR6 bP6 h6 hrow hfar
  refine (r_body (h7.again (Below.refl _ _))).mono ?_
  rintro e w8 ⟨k, t, q8, hk, B, ce, rfl, hlB, hBc, hnod, hfarB⟩
  rw [show askP S (st3 S).2 2 200 = st4 S from rfl] at *
  have h8 := h7.back (Below.refl _ _) q8
  have bR8 := q8.blk bR7 n2
  have bP8 := q8.blk bP7 n3
  have hrow8 := row_kept hrow7 (fun ad e => by have := hAg ad e; omega) q8.kept
  have hBg : ∀ ad, B = some ad → w3.heap.size ≤ ad.block := fun ad e => by have := hfarB ad e; omega
  have hkk := pb_len S (st4 S).1 k
  have hvl : (st3 S).1.length ≤ 12 := by
    have q := pv_len S (st2 S).1 (st2 S).2.toNat
    have r := askP_count (S := S) (s := (st1 S).1) (N := 12) (by omega) (by omega)
    rw [show askP S (st1 S).1 2 12 = st2 S from rfl] at r
    rw [show st3 S = pv S (st2 S).1 (st2 S).2.toNat from rfl, q]
    omega
  clear bX7 bR7 bP7 q8 h7 hrow7 hfarB
  obtain ⟨p0, p1, p2⟩ := bP8.three
  obtain ⟨r0, r1, r2⟩ := bR8.three
  have pf := bP8.frozen
  have rf := bR8.frozen
  -- nodes are stored, and all is told
  have rowC := row_set (row_set (row_set (row_set hrow8 ⟨w.heap.size + 1 + 1, 2, none⟩ (.slice B (pb S (st4 S).1 k).1.length ce) (fun ad e => by have := hAg ad e; simp; omega))
    ⟨w.heap.size + 1, 0, none⟩ (.int .i64 p) (fun ad e => by have := hAg ad e; simp; omega)) ⟨w.heap.size + 1, 1, none⟩ (.slice A (st3 S).1.length c) (fun ad e => by have := hAg ad e; simp; omega)) ⟨w.heap.size + 1, 2, none⟩ (.slice B (pb S (st4 S).1 k).1.length ce) (fun ad e => by have := hAg ad e; simp; omega)
  have nodC := nodes_set (nodes_set (nodes_set (nodes_set hnod ⟨w.heap.size + 1 + 1, 2, none⟩ (.slice B (pb S (st4 S).1 k).1.length ce) (fun ad e => by have := hBg ad e; simp; omega))
    ⟨w.heap.size + 1, 0, none⟩ (.int .i64 p) (fun ad e => by have := hBg ad e; simp; omega)) ⟨w.heap.size + 1, 1, none⟩ (.slice A (st3 S).1.length c) (fun ad e => by have := hBg ad e; simp; omega)) ⟨w.heap.size + 1, 2, none⟩ (.slice B (pb S (st4 S).1 k).1.length ce) (fun ad e => by have := hBg ad e; simp; omega)
  have hC := (((h8.set (q := ⟨w.heap.size + 1 + 1, 2, none⟩) (by simp <;> omega) (by simp <;> omega) (.slice B (pb S (st4 S).1 k).1.length ce)).set (q := ⟨w.heap.size + 1, 0, none⟩) (by simp <;> omega) (by simp <;> omega) (.int .i64 p)).set (q := ⟨w.heap.size + 1, 1, none⟩) (by simp <;> omega) (by simp <;> omega) (.slice A (st3 S).1.length c)).set (q := ⟨w.heap.size + 1, 2, none⟩) (by simp <;> omega) (by simp <;> omega) (.slice B (pb S (st4 S).1 k).1.length ce)
  have HF := Lib.hid (show Prg.Ok ⟨p, A, c, (st3 S).1, B, ce, (pb S (st4 S).1 k).1⟩ _ from ⟨rowC, nodC, by show (st3 S).1.length ≤ 1000000; omega, by show (pb S (st4 S).1 k).1.length ≤ 1000000; omega, hlc, hlB, hAc, hBc⟩)
  have HK := Lib.hid hC.kept
  have HRT := Lib.hid (show ReadTo S k from hk)
  have HFA := Lib.hid (fun ad (e : A = some ad) => show w.heap.size ≤ ad.block by have := hAg ad e; omega)
  have HFB := Lib.hid (fun ad (e : B = some ad) => show w.heap.size ≤ ad.block by have := hBg ad e; omega)
  clear hrow8 hnod hAg hBg hkk hvl rowC nodC hC hk h8 bR8 bP8
  obtain ⟨xs, hxs⟩ : ∃ xs, (pb S (st4 S).1 k).1 = xs := ⟨_, rfl⟩
  obtain ⟨vs, hvs⟩ : ∃ vs, (st3 S).1 = vs := ⟨_, rfl⟩
  rw [hxs] at HF HK hlB ⊢
  rw [hvs] at HF HK p1 hlc ⊢
  have HXS := Lib.hid hxs
  have HVS := Lib.hid hvs
  have HPP := Lib.hid hp
  clear hxs hvs hp
  go_wp2_with fail
  refine bodyPost_ret (v := .agg #[.int .i64 p, .slice A vs.length c, .slice B xs.length ce]) (by simp [results, Try.results24, go_sem, r0, r1, r2]) rfl ?_
  exact ⟨k, A, c, B, ce, HRT.out, by rw [HXS.out, HVS.out, HPP.out], by rw [HXS.out, HVS.out, HPP.out]; exact HF.out, HK.out, HFA.out, HFB.out⟩
end

end Go.Proofs.Ytpjijdgenojpcaa.Code

namespace Go.Proofs.Ytpjijdgenojpcaa.Code
open Go.RowKit Leb Mem Wire _root_.Go.Proofs.Ytpjijdgenojpcaa.Arena _root_.Go.Proofs.Ytpjijdgenojpcaa.Kinds
set_option linter.unusedVariables false
attribute [local go_sem ↓] Go.wp_at_zero Go.wp_at_succ

theorem zero_ok (w : World) : Prg.Ok ⟨0, none, 0, [], none, 0, []⟩ w := ⟨fun i x h => by simp at h, fun i x h => by simp at h, by decide, by decide, by decide, by decide, fun _ => rfl, fun _ => rfl⟩
set_option maxRecDepth 100000 in
set_option maxHeartbeats 2000000 in
theorem PGet_any (S : ByteArray) (w : World) (hS : S.size ≤ 10000) : Calls Try.prog 11 #[.string S] w (GetEnds S w) := by
  have hb1 : Below w.heap.size w (w.alloc (.cells #[.int .i64 0, .slice none 0 0, .slice none 0 0] 25)) := (Below.refl _ _).alloc (Nat.le_refl _) _
  have bR := Blk.new w 25 #[.int .i64 0, .slice none 0 0, .slice none 0 0]
  obtain ⟨w1, hw1⟩ : ∃ w1, w.alloc (.cells #[.int .i64 0, .slice none 0 0, .slice none 0 0] 25) = w1 := ⟨_, rfl⟩
  rw [hw1] at hb1 bR
  have hlR := bR.lt
  have HW1 := Lib.hid hw1
  clear hw1
  go_enter Try.func11, Try.ntmps11
  go_wp2_with fail
  rw [HW1.out]
  refine (Of_any S _).mono ?_
  rintro e w2 ⟨rfl, hrd, hb2⟩
  have hR2 : Rs w1.heap.size S w2 (0, 0) w2 := ⟨hrd, Kept.refl _ _, Int.le_refl _, by simp, by omega⟩
  have bR2 := bR.below hb2 hlR
  clear bR hrd
  go_wp2_with fail
  refine (r_program hR2).mono ?_
  rintro e w3 ⟨k, A, c, B, ce, hk, rfl, hOk, hkept, hfA, hfB⟩
  have bR3 := bR2.kept hkept (by omega)
  have h12 := hb2.size
  have h13 : Below w1.heap.size w1 w3 := hb2.trans (hkept.to_below hb2.size (fun k e => by omega))
  have h03 : Below w.heap.size w w3 := hb1.trans (h13.mono hb1.size)
  have hiff := read_iff hk
  have hfit := read_fits hk
  have hnb := pb_NB S (st4 S).1 k
  generalize (st1 S).2 = ps at *
  generalize (st3 S).1 = vs at *
  generalize (pb S (st4 S).1 k).1 = xs at *
  clear hk hR2 bR2 hkept hb2 hb1 h13
  have hb4 : Below w3.heap.size w3 (w3.alloc (.cells #[.int .i64 ps, .slice A vs.length c, .slice B xs.length ce] 25)) := (Below.refl _ _).alloc (Nat.le_refl _) _
  have bP := Blk.new w3 25 #[.int .i64 ps, .slice A vs.length c, .slice B xs.length ce]
  obtain ⟨w4, hw4⟩ : ∃ w4, w3.alloc (.cells #[.int .i64 ps, .slice A vs.length c, .slice B xs.length ce] 25) = w4 := ⟨_, rfl⟩
  rw [hw4] at hb4 bP
  have hlP := bP.lt
  have bR4 := bR3.below hb4 bR3.lt
  have hlR4 := bR4.lt
  have hOk4 := hOk.at hb4
  have HP := Lib.hid (PPut_any ⟨ps, A, c, vs, B, ce, xs⟩ w4 hOk4 hnb)
  simp only at HP
  have HW4 := Lib.hid hw4
  have h04 : Below w.heap.size w w4 := h03.trans (hb4.mono h03.size)
  have hRP : w.heap.size < w3.heap.size := bR3.lt
  clear hw4 hb4 hOk bR3 h03
  go_wp2_with fail
  rw [HW4.out]
  refine HP.out.mono ?_
  rintro e w5 ⟨rfl, hb5⟩
  have h05 : Below w.heap.size w w5 := h04.trans (hb5.mono h04.size)
  have hOk5 := hOk4.at hb5
  have bR5 := bR4.below hb5 hlR4
  have bP5 := bP.below hb5 hlP
  obtain ⟨p0, p1, p2⟩ := bP5.three
  obtain ⟨r0, r1, r2⟩ := bR5.three
  have rf := bR5.frozen
  clear HP bR4 bP h04 hOk4 hb5 hlP hlR4
  have hsets : ∀ u0 u1 u2, Below w.heap.size w (((w5.setCell ⟨w.heap.size, 0, none⟩ u0).setCell ⟨w.heap.size, 1, none⟩ u1).setCell ⟨w.heap.size, 2, none⟩ u2) := fun u0 u1 u2 => ((h05.setCell (p := ⟨w.heap.size, 0, none⟩) (Nat.le_refl _) u0).setCell (p := ⟨w.heap.size, 1, none⟩) (Nat.le_refl _) u1).setCell (p := ⟨w.heap.size, 2, none⟩) (Nat.le_refl _) u2
  have HS := Lib.hid hsets
  have h2R : w.heap.size < w2.heap.size := by omega
  have hA9 : ∀ ad, A = some ad → ad.block ≠ w.heap.size := fun ad e => by have := hfA ad e; omega
  have hB9 : ∀ ad, B = some ad → ad.block ≠ w.heap.size := fun ad e => by have := hfB ad e; omega
  have HOK := Lib.hid (fun u0 u1 u2 => show Prg.Ok ⟨ps, A, c, vs, B, ce, xs⟩ (((w5.setCell ⟨w.heap.size, 0, none⟩ u0).setCell ⟨w.heap.size, 1, none⟩ u1).setCell ⟨w.heap.size, 2, none⟩ u2) from
    ⟨row_set (row_set (row_set hOk5.vars _ _ hA9) _ _ hA9) _ _ hA9, nodes_set (nodes_set (nodes_set hOk5.body _ _ hB9) _ _ hB9) _ _ hB9, hOk5.lv, hOk5.lx, hOk5.cv, hOk5.ce, hOk5.nv, hOk5.nb⟩)
  obtain ⟨pc, hpc⟩ : ∃ pc, pcheck ps vs xs = pc := ⟨_, rfl⟩
  by_cases h0 : pc = 0
  · subst h0
    have hpp : pput ps vs xs = cput ps vs xs := by unfold pput; rw [if_pos hpc]
    rw [hpp, hpc]
    obtain ⟨T, hT⟩ : ∃ T : ByteArray, (⟨(cput ps vs xs).toArray⟩ : ByteArray) = T := ⟨_, rfl⟩
    rw [hT]
    have hTl : T.data.toList = cput ps vs xs := by rw [← hT]
    by_cases hTS : T = S
    · subst hTS
      have hf : fits T := hiff.1 ⟨hpc, hTl.symm⟩
      have hrd := hfit hf
      have HF := Lib.hid hf
      have HRD := Lib.hid hrd
      clear hT hTl hiff hfit hf hrd hpc hpp hnb hOk5 h05 hsets hfA hfB hA9 hB9
      go_wp2_with fail
      refine bodyPost_ret (v := .tuple #[.agg #[.int .i64 ps, .slice A vs.length c, .slice B xs.length ce], .int .i64 0]) (by simp [results, Try.results11, go_sem, r0, r1, r2]) rfl ?_
      exact ⟨HS.out _ _ _, .inl ⟨HF.out, A, c, B, ce, by rw [HRD.out], by rw [HRD.out]; exact HOK.out _ _ _⟩⟩
    · have hf : ¬ fits S := fun q => hTS (by
        have := (hiff.2 q).2
        rw [← hTl] at this
        exact ByteArray.ext (Array.toList_inj.1 this))
      have hbe : (T.toList == S.toList) = false := by
        rw [beq_eq_false_iff_ne]
        intro q
        rw [ByteArray.toList_eq, ByteArray.toList_eq] at q
        exact hTS (ByteArray.ext (Array.toList_inj.1 q))
      have HF := Lib.hid hf
      clear hT hTl hiff hfit hf hpc hpp hnb hOk5 h05 hsets hfA hfB hA9 hB9 HOK hTS
      go_wp2_with fail
      refine bodyPost_ret (v := .tuple #[.agg #[.int .i64 0, .slice none 0 0, .slice none 0 0], .int .i64 12]) (by simp [results, Try.results11, go_sem, r0, r1, r2]) rfl ?_
      exact ⟨HS.out _ _ _, .inr ⟨HF.out, none, 0, none, 0, rfl, zero_ok _⟩⟩
  · have hf : ¬ fits S := fun q => h0 (by rw [← hpc]; exact (hiff.2 q).1)
    have e1 : (pc == 0) = false := by simpa using h0
    have e2 : (pc != 0) = true := by simpa using h0
    have HF := Lib.hid hf
    rw [hpc]
    generalize (⟨(pput ps vs xs).toArray⟩ : ByteArray) = T at *
    clear hiff hfit hf hpc hnb hOk5 h05 hsets hfA hfB hA9 hB9 HOK h0
    go_wp2_with fail
    refine bodyPost_ret (v := .tuple #[.agg #[.int .i64 0, .slice none 0 0, .slice none 0 0], .int .i64 12]) (by simp [results, Try.results11, go_sem, r0, r1, r2]) rfl ?_
    exact ⟨HS.out _ _ _, .inr ⟨HF.out, none, 0, none, 0, rfl, zero_ok _⟩⟩

/-- WHAT THE PACKAGE's FUNCTIONS COME TO. -/
theorem pkg : Pkg where
  put := PPut_any
  get := PGet_any

end Go.Proofs.Ytpjijdgenojpcaa.Code
