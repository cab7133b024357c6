/-
  The laws of layer 8, walked: the document's examples.
-/
import Derived.Test.YtoloocnpgmpnpaaArenaRCheck
namespace Go.Proofs.Ytoloocnpgmpnpaa.Arena
open Go.RowKit Mem
set_option linter.unusedVariables false
attribute [local go_sem ↓] Go.wp_at_zero Go.wp_at_succ

theorem Nodes.of_blk {w : World} {g B : Nat} {xs : List Nd} (h : Blk w g 24 (ncells xs).toArray) (hB : g < B) : Nodes w B (some ⟨g, 0, none⟩) xs := by
  intro i x hx
  obtain ⟨h1, h2⟩ := ncells_get xs i x hx
  refine ⟨_, rfl, hB, ?_, ?_⟩
  · have : (⟨g, 0, none⟩ : Addr).add (i * 2) = ⟨g, i * 2, none⟩ := by unfold Addr.add; split <;> simp_all
    rw [this, h.cell]; simpa using h1
  · have : (⟨g, 0, none⟩ : Addr).add (i * 2) = ⟨g, i * 2, none⟩ := by unfold Addr.add; split <;> simp_all
    rw [this]
    show w.cell? ⟨g, i * 2 + 1, none⟩ = _
    rw [h.cell]; simpa using h2
theorem IRow.of_blk {w : World} {g B : Nat} {ks : List Int} (h : Blk w g 3 (icells ks).toArray) (hB : g < B) : IRow w B (some ⟨g, 0, none⟩) ks := by
  intro i x hx
  refine ⟨_, rfl, hB, ?_⟩
  have : (⟨g, 0, none⟩ : Addr).add i = ⟨g, i, none⟩ := by unfold Addr.add; split <;> simp_all
  rw [this, h.cell]; simp [icells, hx]

theorem Nodes.drewAt {w : World} {A : Option Addr} {xs : List Nd} (h : Nodes w w.heap.size A xs) : Nodes w.drew w.drew.heap.size A xs := h
theorem Nodes.drew {w : World} {B : Nat} {A : Option Addr} {xs : List Nd} (h : Nodes w B A xs) : Nodes w.drew B A xs := h
/-- The document's example: Add, Int 1, Neg, Int 2. -/
def L4 : List Nd := [(7, 0), (1, 1), (5, 0), (1, 2)]
theorem ex_scan : scan 1 L4 = some 4 := by simp [L4, scan_cons, scan_0, ar, asks]
theorem ex_scan1 : scan 1 (L4.drop 1) = some 1 := by simp [L4, scan_cons, scan_0, ar]
theorem ex_scan2 : scan 1 (L4.drop 2) = some 2 := by simp [L4, scan_cons, scan_0, ar, asks]
theorem ex_scan3 : scan 1 (L4.drop 3) = some 1 := by simp [L4, scan_cons, scan_0, ar]
theorem ex_end : aend L4 0 = 4 := by have := aend_some (l := L4) (a := 0) (n := 4) ex_scan; simpa using this
theorem ex_end1 : aend L4 1 = 2 := by have := aend_some (l := L4) (a := 1) (n := 1) ex_scan1; simpa using this
theorem ex_end2 : aend L4 2 = 4 := by have := aend_some (l := L4) (a := 2) (n := 2) ex_scan2; simpa using this
theorem ex_end3 : aend L4 3 = 4 := by have := aend_some (l := L4) (a := 3) (n := 1) ex_scan3; simpa using this
theorem ex_kids : akids L4 0 = [1, 2] := by
  unfold akids
  rw [ex_end]
  simp [L4, ar, asks, kidsFrom]
  exact ex_end1
theorem ex_kids1 : akids L4 1 = [] := by
  unfold akids
  rw [ex_end1]
  simp [L4, ar, kidsFrom]
theorem ex_kids2 : akids L4 2 = [3] := by
  unfold akids
  rw [ex_end2]
  simp [L4, ar, asks, kidsFrom]
theorem ex_kids3 : akids L4 3 = [] := by
  unfold akids
  rw [ex_end3]
  simp [L4, ar, kidsFrom]
theorem ex_dep3 : adep L4 3 = 1 := by
  have := adep_good (l := L4) (k := 3) (n := 1) ex_scan3
  rw [show ((3 : Nat) : Int) = 3 from rfl, ex_kids3] at this
  exact this
theorem ex_dep1 : adep L4 1 = 1 := by
  have := adep_good (l := L4) (k := 1) (n := 1) ex_scan1
  rw [show ((1 : Nat) : Int) = 1 from rfl, ex_kids1] at this
  exact this
theorem ex_dep2 : adep L4 2 = 2 := by
  have := adep_good (l := L4) (k := 2) (n := 2) ex_scan2
  rw [show ((2 : Nat) : Int) = 2 from rfl, ex_kids2, List.map_cons, List.map_nil, ex_dep3] at this
  exact this
theorem ex_dep : adep L4 0 = 3 := by
  have := adep_good (l := L4) (k := 0) (n := 4) ex_scan
  rw [show ((0 : Nat) : Int) = 0 from rfl, ex_kids, List.map_cons, List.map_cons, List.map_nil, ex_dep1, ex_dep2] at this
  exact this
theorem ex_part : apart L4 2 = [(5, 0), (1, 2)] := by unfold apart; rw [ex_end2]; rfl
theorem ex_rep : arep L4 2 [(1, 1)] = [(7, 0), (1, 1), (1, 1)] := by unfold arep; rw [ex_end2]; rfl
theorem ex_cut : aend [(7, 0), (1, 1)] 0 = -1 := by
  have : scan 1 ([(7, 0), (1, 1)] : List Nd) = none := by simp [scan_cons, scan_nil, ar, asks]
  exact aend_none (a := 0) this
theorem ex_check : acheck L4 = 0 := by
  unfold acheck
  rw [ex_end, ex_dep]
  simp [L4, bads, ar, asks]
theorem ex_check0 : acheck [] = 10 := rfl

set_option maxRecDepth 100000 in
set_option maxHeartbeats 4000000 in
theorem works_any (w : World) : Calls Try.prog 8 #[] w fun e w' => e = .returned (.bool true) ∧ Below w.heap.size w w' := by
  have hB0 : Below w.heap.size w (w.alloc (.cells (ncells L4).toArray 24)) := (Below.refl _ _).alloc (Nat.le_refl _) _
  have bX := Blk.new w 24 (ncells L4).toArray
  have hX : Nodes _ _ (some ⟨w.heap.size, 0, none⟩) L4 := Nodes.of_blk bX bX.lt
  have H1 := Lib.hid (fun (W : World) (hW : Nodes W W.heap.size (some ⟨w.heap.size, 0, none⟩) L4) => show Calls Try.prog 16 #[.slice (some ⟨w.heap.size, 0, none⟩) 4 4, .int .i64 0] W (IntsEnds [1, 2] W) from ex_kids ▸ Kids_any (some ⟨w.heap.size, 0, none⟩) 4 L4 0 W hW (by decide))
  have H2 := Lib.hid (fun (W : World) (hW : Nodes W W.heap.size (some ⟨w.heap.size, 0, none⟩) L4) => show Calls Try.prog 18 #[.slice (some ⟨w.heap.size, 0, none⟩) 4 4, .int .i64 2] W (NodesEnds [(5, 0), (1, 2)] W) from ex_part ▸ Part_any (some ⟨w.heap.size, 0, none⟩) 4 L4 2 W hW (by simp) (by decide) (by decide))
  have H3 := Lib.hid (fun (W : World) (hW : Nodes W W.heap.size (some ⟨w.heap.size, 0, none⟩) L4) => show Calls Try.prog 20 #[.slice (some ⟨w.heap.size, 0, none⟩) 4 4, .int .i64 2, .slice (some ⟨w.heap.size, 2, none⟩) 1 3] W (NodesEnds [(7, 0), (1, 1), (1, 1)] W) from ex_rep ▸ Replace_any (some ⟨w.heap.size, 0, none⟩) 4 L4 2 (some ⟨w.heap.size, 2, none⟩) 3 [(1, 1)] W hW (by simp) (by decide) (by decide) (hW.part 1 1) (by simp) (by decide))
  have H4 := Lib.hid (fun (W : World) (hW : Nodes W W.heap.size (some ⟨w.heap.size, 0, none⟩) L4) => show Calls Try.prog 22 #[.slice (some ⟨w.heap.size, 0, none⟩) 4 4, .int .i64 0] W (fun e w' => e = .returned (.int .i64 4) ∧ Below W.heap.size W w') from ex_end ▸ End_any (some ⟨w.heap.size, 0, none⟩) 4 L4 0 W hW (by decide))
  have H5 := Lib.hid (fun (W : World) (hW : Nodes W W.heap.size (some ⟨w.heap.size, 0, none⟩) L4) => show Calls Try.prog 24 #[.slice (some ⟨w.heap.size, 0, none⟩) 4 4, .int .i64 0] W (fun e w' => e = .returned (.int .i64 3) ∧ Below W.heap.size W w') from (by have := Depth_any (some ⟨w.heap.size, 0, none⟩) 4 L4 0 W hW (by decide); rw [ex_dep] at this; exact this))
  have H6 := Lib.hid (fun (W : World) (hW : Nodes W W.heap.size (some ⟨w.heap.size, 0, none⟩) L4) => show Calls Try.prog 22 #[.slice (some ⟨w.heap.size, 0, none⟩) 2 4, .int .i64 0] W (fun e w' => e = .returned (.int .i64 (-1)) ∧ Below W.heap.size W w') from ex_cut ▸ End_any (some ⟨w.heap.size, 0, none⟩) 4 [(7, 0), (1, 1)] 0 W (hW.part 0 2) (by decide))
  have H7 := Lib.hid (fun (W : World) (hW : Nodes W W.heap.size (some ⟨w.heap.size, 0, none⟩) L4) => show Calls Try.prog 12 #[.slice (some ⟨w.heap.size, 0, none⟩) 4 4] W (fun e w' => e = .returned (.int .i64 0) ∧ Below W.heap.size W w') from ex_check ▸ Check_any (some ⟨w.heap.size, 0, none⟩) 4 L4 W hW (by decide))
  have H8 := Lib.hid (fun (W : World)  => show Calls Try.prog 12 #[.slice none 0 0] W (fun e w' => e = .returned (.int .i64 10) ∧ Below W.heap.size W w') from ex_check0 ▸ Check_any none 0 [] W (Nodes.nil _ _ _) (by decide))
  have H9 := Lib.hid (fun W => show Calls Try.prog 10 #[.agg #[.int .i64 7, .int .i64 0]] W fun e w' => e = .returned (.int .i64 2) ∧ Below W.heap.size W w' from Arity_any 7 0 W)
  have H10 := Lib.hid (fun W => show Calls Try.prog 10 #[.agg #[.int .i64 0, .int .i64 0]] W fun e w' => e = .returned (.int .i64 (-1)) ∧ Below W.heap.size W w' from Arity_any 0 0 W)
  have H11 := Lib.hid (fun W hW => show Calls Try.prog 14 #[.slice (some ⟨w.heap.size, 0, none⟩) 4 4, .slice (some ⟨w.heap.size, 0, none⟩) 4 4] W fun e w' => e = .returned (.bool true) ∧ Below W.heap.size W w' from by
    have := Same_any (some ⟨w.heap.size, 0, none⟩) 4 L4 (some ⟨w.heap.size, 0, none⟩) 4 L4 W hW hW (by decide)
    rw [show decide (L4 = L4) = true by simp] at this
    exact this)
  have H12 := Lib.hid (fun W hW => show Calls Try.prog 14 #[.slice (some ⟨w.heap.size, 0, none⟩) 4 4, .slice none 0 0] W fun e w' => e = .returned (.bool false) ∧ Below W.heap.size W w' from Same_any (some ⟨w.heap.size, 0, none⟩) 4 L4 none 0 [] W hW (Nodes.nil _ _ _) (by decide))
  have cells : ∀ W, Nodes W W.heap.size (some ⟨w.heap.size, 0, none⟩) L4 → W.cell? ⟨w.heap.size, 0, none⟩ = some (.int .i64 7) ∧ W.cell? ⟨w.heap.size, 1, none⟩ = some (.int .i64 0) ∧ W.cell? ⟨w.heap.size, 2, none⟩ = some (.int .i64 1) ∧ W.cell? ⟨w.heap.size, 3, none⟩ = some (.int .i64 1) := fun W hW => ⟨hW.cells 0 _ rfl, hW.cells 1 _ rfl, hW.cells 2 _ rfl, hW.cells 3 _ rfl⟩
  have HC := Lib.hid cells
  have hsz : w.heap.size < (w.alloc (.cells (ncells L4).toArray 24)).heap.size := bX.lt
  rw [show (ncells L4).toArray = #[.int .i64 7, .int .i64 0, .int .i64 1, .int .i64 1, .int .i64 5, .int .i64 0, .int .i64 1, .int .i64 2] from rfl] at hX hB0 hsz
  clear bX cells
  go_enter Try.func8, Try.ntmps8
  go_wp2_with fail
  refine (H1.out _ hX).mono ?_
  rintro e w1 ⟨hb1, A1, c1, rfl, hR1, -⟩
  have hX1 := hX.at hb1
  have hB1 := below2 hB0 (hb1.mono (Nat.le_refl _))
  go_wp2_with fail
  have bI := Blk.new w1 3 #[.int .i64 1, .int .i64 2]
  have hbI : Below w1.heap.size w1 (w1.alloc (.cells #[.int .i64 1, .int .i64 2] 3)) := (Below.refl _ _).alloc (Nat.le_refl _) _
  have hX := hX1.at hbI
  have hB := below2 hB1 (hbI.mono (Nat.le_refl _))
  have h2 := Ints_any A1 c1 [1, 2] (some ⟨w1.heap.size, 0, none⟩) 2 [1, 2] _ (hR1.at hbI) (IRow.of_blk bI bI.lt) (by decide)
  rw [show decide (([1, 2] : List Int) = [1, 2]) = true from rfl] at h2
  refine h2.mono ?_
  rintro e w2 ⟨rfl, hb2⟩
  have hX := hX.at hb2
  have hB := below2 hB (hb2.mono (Nat.le_refl _))
  clear h2 hbI bI hR1 hX1 hB1 hb1 hb2
  go_wp2_with fail
  go_region_held3 (fun _ => True) (trivial) (first
    | (go_at_call 18; refine (H2.out _ hX.drewAt).mono ?_; rintro e w3 ⟨hb3, A3, c3, rfl, hc3, hA3, hN3⟩; have hX := (hX.drewAt).at hb3; have hB := below2 hB.drew (hb3.mono (Nat.le_refl _)))
    | (go_at_call 9; refine (ref_Same_any A3 c3 [(5, 0), (1, 2)] (some ⟨w.heap.size, 4, none⟩) 2 [(5, 0), (1, 2)] _ hN3 (hX.part 2 2) (by decide)).mono ?_; rintro e w4 ⟨rfl, hb4⟩; have hX := hX.at hb4; have hB := below2 hB (hb4.mono (Nat.le_refl _)))
    | fail)
  clear hN3
  go_wp2_with fail
  have hC := HC.out _ hX
  have hBI : ∀ W : World, Below W.heap.size W (W.alloc (.cells #[.int .i64 7, .int .i64 0, .int .i64 1, .int .i64 1, .int .i64 1, .int .i64 1] 24)) := fun W => (Below.refl _ _).alloc (Nat.le_refl _) _
  have HN := Lib.hid (fun W : World => (Nodes.of_blk (B := (W.alloc (.cells #[.int .i64 7, .int .i64 0, .int .i64 1, .int .i64 1, .int .i64 1, .int .i64 1] 24)).heap.size) (xs := [(7, 0), (1, 1), (1, 1)]) (Blk.new W 24 #[.int .i64 7, .int .i64 0, .int .i64 1, .int .i64 1, .int .i64 1, .int .i64 1]) (by simp)))
  go_region_held3 (fun w' => w'.cell? ⟨w.heap.size, 0, none⟩ = some (.int .i64 7) ∧ w'.cell? ⟨w.heap.size, 1, none⟩ = some (.int .i64 0) ∧ w'.cell? ⟨w.heap.size, 2, none⟩ = some (.int .i64 1) ∧ w'.cell? ⟨w.heap.size, 3, none⟩ = some (.int .i64 1)) (first | exact hC | exact HC.out _ (hX.at (hBI _)) | exact HC.out _ ((hX.at (hBI _)).drew)) (first
    | (go_at_call 20; first
        | ((with_reducible refine (H3.out w4.drew hX.drewAt).mono ?_); rintro e w5 ⟨hb5, A5, c5, rfl, hc5, hA5, hN5⟩; have hX := (hX.drewAt).at hb5; have hB := below2 hB.drew (hb5.mono (Nat.le_refl _)); have hC := HC.out _ hX)
        | ((with_reducible refine (H3.out _ ((hX.at (hBI w4)).drewAt)).mono ?_); rintro e w5 ⟨hb5, A5, c5, rfl, hc5, hA5, hN5⟩; have hN6 := Nodes.at (Nodes.drewAt (HN.out w4)) hb5; have hX := ((hX.at (hBI _)).drewAt).at hb5; have hB := below2 (below2 hB ((hBI _).mono (Nat.le_refl _))).drew (hb5.mono (Nat.le_refl _)); have hC := HC.out _ hX))
    | (go_at_call 9; first
        | (refine (ref_Same_any A5 c5 [(7, 0), (1, 1), (1, 1)] (some ⟨w4.heap.size, 0, none⟩) 3 [(7, 0), (1, 1), (1, 1)] _ hN5 hN6 (by decide)).mono ?_; rintro e w6 ⟨rfl, hb6⟩; have hX := hX.at hb6; have hB := below2 hB (hb6.mono (Nat.le_refl _)); have hC := HC.out _ hX)
        | (refine (ref_Same_any A5 c5 [(7, 0), (1, 1), (1, 1)] (some ⟨w5.heap.size, 0, none⟩) 3 [(7, 0), (1, 1), (1, 1)] _ (hN5.at (hBI _)) (HN.out _) (by decide)).mono ?_; rintro e w6 ⟨rfl, hb6⟩; have hX := (hX.at (hBI _)).at hb6; have hB := below2 (below2 hB ((hBI _).mono (Nat.le_refl _))) (hb6.mono (Nat.le_refl _)); have hC := HC.out _ hX)
        | fail)
    | fail)
  all_goals clear hN5 HN hBI hC
  all_goals go_wp2_with (first
    | (go_at_call 22; first
        | ((with_reducible refine (H4.out _ hX).mono ?_); rintro e w7 ⟨rfl, hb7⟩; have hX := hX.at hb7; have hB := below2 hB (hb7.mono (Nat.le_refl _)))
        | ((with_reducible refine (H6.out _ hX).mono ?_); rintro e w7 ⟨rfl, hb7⟩; have hX := hX.at hb7; have hB := below2 hB (hb7.mono (Nat.le_refl _))))
    | (go_at_call 24; refine (H5.out _ hX).mono ?_; rintro e w7 ⟨rfl, hb7⟩; have hX := hX.at hb7; have hB := below2 hB (hb7.mono (Nat.le_refl _)))
    | (go_at_call 12; first
        | ((with_reducible refine (H7.out _ hX).mono ?_); rintro e w7 ⟨rfl, hb7⟩; have hX := hX.at hb7; have hB := below2 hB (hb7.mono (Nat.le_refl _)))
        | ((with_reducible refine (H8.out _).mono ?_); rintro e w7 ⟨rfl, hb7⟩; have hX := hX.at hb7; have hB := below2 hB (hb7.mono (Nat.le_refl _)); obtain ⟨hC0, hC1, -, -⟩ := HC.out _ hX))
    | (go_at_call 10; first
        | ((with_reducible refine (H9.out _).mono ?_); rintro e w7 ⟨rfl, hb7⟩; have hX := hX.at hb7; have hB := below2 hB (hb7.mono (Nat.le_refl _)))
        | ((with_reducible refine (H10.out _).mono ?_); rintro e w7 ⟨rfl, hb7⟩; have hX := hX.at hb7; have hB := below2 hB (hb7.mono (Nat.le_refl _))))
    | (go_at_call 14; first
        | ((with_reducible refine (H11.out _ hX).mono ?_); rintro e w7 ⟨rfl, hb7⟩; have hX := hX.at hb7; have hB := below2 hB (hb7.mono (Nat.le_refl _)))
        | ((with_reducible refine (H12.out _ hX).mono ?_); rintro e w7 ⟨rfl, hb7⟩; have hX := hX.at hb7; have hB := below2 hB (hb7.mono (Nat.le_refl _)))))
  all_goals go_ret
  all_goals exact ⟨rfl, hB⟩

end Go.Proofs.Ytoloocnpgmpnpaa.Arena
