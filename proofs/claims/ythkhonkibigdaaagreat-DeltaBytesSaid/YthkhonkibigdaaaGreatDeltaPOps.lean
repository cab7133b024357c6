/-
  Package delta, walked: what operators do.
-/
import Derived.Test.YthkhonkibigdaaaGreatDeltaPSmall
import Derived.Test.YthkhonkibigdaaaGreatDeltaPClone
import Derived.Test.YthkhonkibigdaaaGreatArenaH
import Derived.Deep.QuietTactic
import Derived.Handy
namespace Go.Proofs.YthkhonkibigdaaaGreat.Delta
open Go.RowKit Mem _root_.Go.Proofs.YthkhonkibigdaaaGreat.Arena _root_.Go.Proofs.YthkhonkibigdaaaGreat.Kinds _root_.Go.Proofs.YthkhonkibigdaaaGreat.Path
set_option linter.unusedVariables false
attribute [local go_sem ↓] Go.wp_at_zero Go.wp_at_succ

set_option maxRecDepth 100000 in
set_option maxHeartbeats 1000000 in
theorem index_any' (A : Option Addr) (cap : Nat) (p : List Int) (t : Int) (w : World) (hx : IRow w w.heap.size A p) (hl : p.length ≤ 1000000) :
    Calls Tryz.prog 127 #[.slice A p.length cap, .int .i64 t] w fun e w' => (∃ r : Int, e = .returned (.int .i64 r) ∧ decide (0 ≤ r) = decide (t ∈ p)) ∧ w' = w := by
  have HX := Lib.hid hx
  clear hx
  go_enter Tryz.func127, Tryz.ntmps127
  go_wp2
  go_loopw [8] (fun i wr => ∃ k : Nat, k ≤ p.length ∧ i = .int .i64 k ∧ t ∉ p.take k ∧ wr = w) (fun i _ => p.length - (intOf i).toNat)
  case atStart => exact ⟨0, by omega, rfl, by simp, rfl⟩
  case round =>
    obtain ⟨k, hk, rfl, hb0, rfl⟩ := hrel
    by_cases hlt : k < p.length
    · obtain ⟨x, hxk⟩ : ∃ x, p[k]? = some x := ⟨_, List.getElem?_eq_getElem hlt⟩
      obtain ⟨ad, rfl, hbk, h0'⟩ := HX.out k x hxk
      have j1 : (k : Int) < (p.length : Int) := by omega
      have j2 : (0 : Int) ≤ (k : Int) := by omega
      by_cases hbad : t = x
      · have HT := Lib.hid (show t ∈ p by rw [hbad]; exact List.mem_of_getElem? hxk)
        have e1 : (t == x) = true := by simpa using hbad
        clear hb0 hxk hbad
        go_wp2
        go_ret
        exact ⟨⟨_, rfl, by simp [HT.out]⟩, rfl⟩
      · have HSN := Lib.hid (show t ∉ p.take (k + 1) by rw [take_snoc p k x hxk, List.mem_append, List.mem_singleton]; exact fun h => h.elim hb0 hbad)
        have e1 : (t == x) = false := by simpa using hbad
        clear hb0 hxk hbad
        go_wp2
        go_roundw
        case rel => exact ⟨k + 1, by omega, by go_num, HSN.out, by first | rfl | trivial⟩
        case measure => simp [intOf]; omega
    · have hk9 : k = p.length := by omega
      subst hk9
      rw [List.take_length] at hb0
      have HB0 := Lib.hid hb0
      have j1 : ¬ (p.length : Int) < (p.length : Int) := by omega
      clear hb0
      go_wp2
      go_ret
      exact ⟨⟨_, rfl, by simp [HB0.out]⟩, rfl⟩
set_option maxRecDepth 100000 in
theorem contains_any' (A : Option Addr) (cap : Nat) (p : List Int) (t : Int) (w : World) (hx : IRow w w.heap.size A p) (hl : p.length ≤ 1000000) :
    Calls Tryz.prog 113 #[.slice A p.length cap, .int .i64 t] w fun e w' => e = .returned (.bool (decide (t ∈ p))) ∧ w' = w := by
  have HI := Lib.hid (index_any' A cap p t w hx hl)
  clear hx
  generalize decide (t ∈ p) = y at *
  go_enter Tryz.func113, Tryz.ntmps113
  go_wp2_with (go_at_call 127; refine HI.out.mono ?_; rintro e w1 ⟨⟨r, rfl, hr⟩, rfl⟩)
  go_ret
  exact ⟨by rw [← hr]; rfl, rfl⟩

theorem ncells_set : ∀ (xs : List Nd) (a : Nat) (x : Nd), ((ncells xs).set (a * 2) (.int .i64 x.1)).set (a * 2 + 1) (.int .i64 x.2) = ncells (xs.set a x)
  | [], _, _ => rfl
  | y :: ys, 0, x => rfl
  | y :: ys, a + 1, x => by
    have ih := ncells_set ys a x
    have e : ∀ z (zs : List Nd), ncells (z :: zs) = .int .i64 z.1 :: .int .i64 z.2 :: ncells zs := fun z zs => rfl
    rw [List.set_cons_succ, e, e, show (a + 1) * 2 = a * 2 + 1 + 1 by omega, List.set_cons_succ, List.set_cons_succ, List.set_cons_succ, List.set_cons_succ, ih]
theorem set_swap {xs : List Nd} {a : Nat} (x : Nd) (ha : a < xs.length) : xs.set a x = swap xs a (a + 1) [x] := by
  unfold swap
  rw [List.set_eq_take_append_cons_drop, if_pos ha, List.append_assoc]
  rfl

/-- What an operator comes to: another body, or none. -/
def OpEnds (b : Bool) (ys : List Nd) (w : World) (e : Ending) (w' : World) : Prop :=
  Below w.heap.size w w' ∧ ((b = true ∧ ∃ A c, e = .returned (.tuple #[.slice A ys.length c, .bool true]) ∧ ys.length ≤ c ∧ (A = none → c = 0) ∧ Nodes w' w'.heap.size A ys) ∨ (b = false ∧ e = .returned (.tuple #[.slice none 0 0, .bool false])))
section
variable (ps : Int) (VA : Option Addr) (vl vc : Nat) (ad : Addr) (xs : List Nd) (cap a : Nat) (n : Int) (x : Nd)

set_option maxRecDepth 100000 in
theorem node_any (w : World) (hx : Nodes w w.heap.size (some ad) xs) (hxa : xs[a]? = some x) :
    Calls Tryz.prog 93 #[.agg #[.int .i64 ps, .slice VA vl vc, .slice (some ad) xs.length cap, .int .i64 a, .int .i64 n]] w fun e w' => e = .returned (.agg #[.int .i64 x.1, .int .i64 x.2]) ∧ Below w.heap.size w w' := by
  have hb1 : Below w.heap.size w (w.alloc (.cells #[.int .i64 ps, .slice VA vl vc, .slice (some ad) xs.length cap, .int .i64 a, .int .i64 n] 78)) := (Below.refl _ _).alloc (Nat.le_refl _) _
  have hb2 := hb1.alloc hb1.size (.cells #[.int .i64 0, .int .i64 0] 45)
  have HB := Lib.hid hb1
  obtain ⟨ad', e, hbk, h0, h1⟩ := (hx.at hb2) a x hxa
  cases e
  have ha := (List.getElem?_eq_some_iff.1 hxa).1
  have j1 : (a : Int) < (xs.length : Int) := by omega
  have j2 : (0 : Int) ≤ (a : Int) := by omega
  clear hx hxa hb1 hb2
  go_enter Tryz.func93, Tryz.ntmps93
  go_wp2
  go_returns
  exact ⟨rfl, HB.out.alloc HB.out.size _⟩

set_option maxRecDepth 100000 in
theorem is_any (A : Option Addr) (tc : Nat) (ts : List Int) (w : World) (hx : Nodes w w.heap.size (some ad) xs) (hxa : xs[a]? = some x) (ht : IRow w w.heap.size A ts) (hl : ts.length ≤ 1000000) :
    Calls Tryz.prog 92 #[.agg #[.int .i64 ps, .slice VA vl vc, .slice (some ad) xs.length cap, .int .i64 a, .int .i64 n], .slice A ts.length tc] w fun e w' => e = .returned (.bool (decide (x.1 ∈ ts))) ∧ Below w.heap.size w w' := by
  have hb1 : Below w.heap.size w (w.alloc (.cells #[.int .i64 ps, .slice VA vl vc, .slice (some ad) xs.length cap, .int .i64 a, .int .i64 n] 78)) := (Below.refl _ _).alloc (Nat.le_refl _) _
  have HN := Lib.hid (node_any ps VA vl vc ad xs cap a n x _ (hx.at hb1) hxa)
  have HC := Lib.hid (fun W (h : Below (w.alloc (.cells #[.int .i64 ps, .slice VA vl vc, .slice (some ad) xs.length cap, .int .i64 a, .int .i64 n] 78)).heap.size (w.alloc (.cells #[.int .i64 ps, .slice VA vl vc, .slice (some ad) xs.length cap, .int .i64 a, .int .i64 n] 78)) W) => contains_any' A tc ts x.1 W ((ht.at hb1).at h) hl)
  have HB := Lib.hid hb1
  generalize decide (x.1 ∈ ts) = y at *
  obtain ⟨t, v⟩ := x
  have hf : ∀ W, (Instr.field 45 (.agg #[.int .i64 t, .int .i64 v]) 0).run Tryz.prog W = .ok (.int .i64 t) W := fun W => by kernel_rfl
  clear hx hxa hb1 ht
  go_enter Tryz.func92, Tryz.ntmps92
  go_wp2_with (first
    | (go_at_call 93; refine HN.out.mono ?_; rintro e w1 ⟨rfl, hb⟩)
    | (go_at_call 113; refine (HC.out _ hb).mono ?_; rintro e w2 ⟨rfl, rfl⟩))
  go_ret
  exact ⟨rfl, HB.out.trans (hb.mono HB.out.size)⟩

set_option maxRecDepth 100000 in
theorem firstKid_any (m : Nat) (w : World) (hx : Nodes w w.heap.size (some ad) xs) (hl : xs.length ≤ 1000000) (hxa : xs[a]? = some x) (hs : scan 1 (xs.drop a) = some m) (hr : 1 ≤ ar x) :
    Calls Tryz.prog 98 #[.agg #[.int .i64 ps, .slice VA vl vc, .slice (some ad) xs.length cap, .int .i64 a, .int .i64 n]] w fun e w' => e = .returned (.int .i64 ((a : Int) + 1)) ∧ Below w.heap.size w w' := by
  have hb1 : Below w.heap.size w (w.alloc (.cells #[.int .i64 ps, .slice VA vl vc, .slice (some ad) xs.length cap, .int .i64 a, .int .i64 n] 78)) := (Below.refl _ _).alloc (Nat.le_refl _) _
  have HK := Lib.hid (Kids_any (some ad) cap xs (a : Int) _ (hx.at hb1) hl)
  have HB := Lib.hid hb1
  have hk : (akids xs (a : Int))[0]? = some ((a : Int) + 1) := by
    obtain ⟨x', c, k1, k2, k3, k4, k5, k6, k7, k8⟩ := kid_scan (l := xs) (a := a) (n := m) hs
    rw [hxa] at k1
    cases k1
    obtain ⟨r, m', r1, r2, -⟩ := k8 0 (by omega)
    rw [scan_0] at r1
    cases r1
    rw [r2]
    simp
  have hlen : 0 < (akids xs (a : Int)).length := (List.getElem?_eq_some_iff.1 hk).1
  generalize akids xs (a : Int) = K at *
  have j1 : (0 : Int) < (K.length : Int) := by omega
  have HQ := Lib.hid hk
  clear hx hxa hb1 hs hr hk
  go_enter Tryz.func98, Tryz.ntmps98
  go_wp2_with (go_at_call 117; refine HK.out.mono ?_; rintro e w1 ⟨hb, A, c, rfl, hI, -⟩; obtain ⟨ad2, rfl, hbk, h0⟩ := hI 0 _ HQ.out; have h0 : w1.cell? ad2 = some (.int .i64 ((a : Int) + 1)) := (by simpa [Addr.add] using h0))
  go_ret
  exact ⟨rfl, HB.out.trans (hb.mono HB.out.size)⟩

set_option maxRecDepth 100000 in
set_option maxHeartbeats 1000000 in
theorem with_any (y : Nd) (w : World) (hx : Nodes w w.heap.size (some ad) xs) (hl : xs.length ≤ 1000000) (ha : a < xs.length) :
    Calls Tryz.prog 94 #[.agg #[.int .i64 ps, .slice VA vl vc, .slice (some ad) xs.length cap, .int .i64 a, .int .i64 n], .agg #[.int .i64 y.1, .int .i64 y.2]] w (NodesEnds (swap xs a (a + 1) [y]) w) := by
  have hb1 : Below w.heap.size w (w.alloc (.cells #[.int .i64 ps, .slice VA vl vc, .slice (some ad) xs.length cap, .int .i64 a, .int .i64 n] 78)) := (Below.refl _ _).alloc (Nat.le_refl _) _
  have hb2 := hb1.alloc hb1.size (.cells #[.int .i64 y.1, .int .i64 y.2] 45)
  have HC := Lib.hid (cloneNodes_any ad cap xs _ (hx.at hb2) (by omega) hl)
  have b1 := (Blk.new w 78 #[.int .i64 ps, .slice VA vl vc, .slice (some ad) xs.length cap, .int .i64 a, .int .i64 n]).alloc (.cells #[.int .i64 y.1, .int .i64 y.2] 45)
  have b2 := Blk.new (w.alloc (.cells #[.int .i64 ps, .slice VA vl vc, .slice (some ad) xs.length cap, .int .i64 a, .int .i64 n] 78)) 45 #[.int .i64 y.1, .int .i64 y.2]
  simp only [World.size_alloc] at b2
  obtain ⟨w2, hw2⟩ : ∃ w2, (w.alloc (.cells #[.int .i64 ps, .slice VA vl vc, .slice (some ad) xs.length cap, .int .i64 a, .int .i64 n] 78)).alloc (.cells #[.int .i64 y.1, .int .i64 y.2] 45) = w2 := ⟨_, rfl⟩
  rw [hw2] at hb2 b1 b2 HC
  have HB := Lib.hid hb2
  have HT := Lib.hid (fun W (h : Below w2.heap.size w2 W) => show W.cell? ⟨w.heap.size, 3, none⟩ = some (.int .i64 a) ∧ W.cell? ⟨w.heap.size + 1, 0, none⟩ = some (.int .i64 y.1) ∧ W.cell? ⟨w.heap.size + 1, 1, none⟩ = some (.int .i64 y.2) from ⟨(b1.below h b1.lt).cell 3, (b2.below h b2.lt).two⟩)
  have HW := Lib.hid hw2
  obtain ⟨x0, hx0⟩ : ∃ x0, xs[a]? = some x0 := ⟨_, List.getElem?_eq_getElem ha⟩
  have HG := Lib.hid (ncells_get xs a x0 hx0)
  have HS := Lib.hid (show xs.set a y = swap xs a (a + 1) [y] from set_swap y ha)
  have j1 : (a : Int) < (xs.length : Int) := by omega
  have j2 : (0 : Int) ≤ (a : Int) := by omega
  have hsz2 : w.heap.size ≤ w2.heap.size := hb2.size
  clear hx hb1 hb2 b1 b2 hw2 hx0
  go_enter Tryz.func94, Tryz.ntmps94
  go_wp2_with (go_at_call 97; rw [HW.out]; refine HC.out.mono ?_; rintro e w3 ⟨g, c, rfl, hO, hb⟩; obtain ⟨c0, c1, c2⟩ := HT.out _ hb; have hO1 := (hO.stored (a * 2) (.int .i64 y.1)).1; have hO2 := (hO1.stored (a * 2 + 1) (.int .i64 y.2)).1; rw [ncells_set] at hO2; have hgl := (hO.lt g rfl).1; have hB3 : Below w.heap.size w ((w3.setCell ⟨g, a * 2, none⟩ (.int .i64 y.1)).setCell ⟨g, a * 2 + 1, none⟩ (.int .i64 y.2)) := ((HB.out.trans (hb.mono hsz2)).setCell (p := ⟨g, a * 2, none⟩) (by show w.heap.size ≤ g; omega) _).setCell (p := ⟨g, a * 2 + 1, none⟩) (by show w.heap.size ≤ g; omega) _; have d0 := (hO.cellAt (a * 2) (by omega)).trans HG.out.1; have d1 := (hO.cellAt (a * 2 + 1) (by omega)).trans HG.out.2; have f0 := hO.frozenAt (a * 2); have f1 := hO.frozenAt (a * 2 + 1))
  have hO3 := own_nodes (xs := xs.set a y) (by rw [List.length_set]; exact hO2)
  obtain ⟨A3, c3, e3, k1, k2, k3⟩ := hO3
  rw [List.length_set] at e3 k1
  have HE := Lib.hid e3
  have HL := Lib.hid (show (swap xs a (a + 1) [y]).length = xs.length by rw [← HS.out, List.length_set])
  clear e3
  go_ret
  rw [HS.out] at k3
  refine ⟨hB3, A3, c3, by rw [HL.out, ← HE.out]; rfl, by rw [HL.out]; exact k1, k2, k3⟩
end

end Go.Proofs.YthkhonkibigdaaaGreat.Delta
