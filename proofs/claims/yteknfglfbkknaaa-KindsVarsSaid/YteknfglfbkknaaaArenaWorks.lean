/-
  The laws of layer 8, walked: the document's examples.
-/
import Derived.Test.YteknfglfbkknaaaArenaRCheck
namespace Go.Proofs.Yteknfglfbkknaaa.Arena
open Go.RowKit Mem
set_option linter.unusedVariables false
attribute [local go_sem ↓] Go.wp_at_zero Go.wp_at_succ

theorem Nodes.of_blk {w : World} {g B : Nat} {xs : List Nd} (h : Blk w g 39 (ncells xs).toArray) (hB : g < B) : Nodes w B (some ⟨g, 0, none⟩) xs := by
  intro i x hx
  obtain ⟨h1, h2⟩ := ncells_get xs i x hx
  refine ⟨_, rfl, hB, ?_, ?_⟩
  · have : (⟨g, 0, none⟩ : Addr).add (i * 2) = ⟨g, i * 2, none⟩ := by unfold Addr.add; split <;> simp_all
    rw [this, h.cell]; simpa using h1
  · have : (⟨g, 0, none⟩ : Addr).add (i * 2) = ⟨g, i * 2, none⟩ := by unfold Addr.add; split <;> simp_all
    rw [this]
    show w.cell? ⟨g, i * 2 + 1, none⟩ = _
    rw [h.cell]; simpa using h2
theorem IRow.of_blk {w : World} {g B : Nat} {ks : List Int} (h : Blk w g 3 (icells ks).toArray) (hB : g < B) : IRow w B (some ⟨g, 0, none⟩) ks := by
  intro i x hx
  refine ⟨_, rfl, hB, ?_⟩
  have : (⟨g, 0, none⟩ : Addr).add i = ⟨g, i, none⟩ := by unfold Addr.add; split <;> simp_all
  rw [this, h.cell]; simp [icells, hx]

theorem Nodes.drewAt {w : World} {A : Option Addr} {xs : List Nd} (h : Nodes w w.heap.size A xs) : Nodes w.drew w.drew.heap.size A xs := h
theorem Nodes.drew {w : World} {B : Nat} {A : Option Addr} {xs : List Nd} (h : Nodes w B A xs) : Nodes w.drew B A xs := h
/-- The document's example: Add, Int 1, Neg, Int 2. -/
def L4 : List Nd := [(7, 0), (1, 1), (5, 0), (1, 2)]
theorem ex_scan : scan 1 L4 = some 4 := by simp [L4, scan_cons, scan_0, ar, asks]
theorem ex_scan1 : scan 1 (L4.drop 1) = some 1 := by simp [L4, scan_cons, scan_0, ar]
theorem ex_scan2 : scan 1 (L4.drop 2) = some 2 := by simp [L4, scan_cons, scan_0, ar, asks]
theorem ex_scan3 : scan 1 (L4.drop 3) = some 1 := by simp [L4, scan_cons, scan_0, ar]
theorem ex_end : aend L4 0 = 4 := by have := aend_some (l := L4) (a := 0) (n := 4) ex_scan; simpa using this
theorem ex_end1 : aend L4 1 = 2 := by have := aend_some (l := L4) (a := 1) (n := 1) ex_scan1; simpa using this
theorem ex_end2 : aend L4 2 = 4 := by have := aend_some (l := L4) (a := 2) (n := 2) ex_scan2; simpa using this
theorem ex_end3 : aend L4 3 = 4 := by have := aend_some (l := L4) (a := 3) (n := 1) ex_scan3; simpa using this
theorem ex_kids : akids L4 0 = [1, 2] := by
  unfold akids
  rw [ex_end]
  simp [L4, ar, asks, kidsFrom]
  exact ex_end1
theorem ex_kids1 : akids L4 1 = [] := by
  unfold akids
  rw [ex_end1]
  simp [L4, ar, kidsFrom]
theorem ex_kids2 : akids L4 2 = [3] := by
  unfold akids
  rw [ex_end2]
  simp [L4, ar, asks, kidsFrom]
theorem ex_kids3 : akids L4 3 = [] := by
  unfold akids
  rw [ex_end3]
  simp [L4, ar, kidsFrom]
theorem ex_dep3 : adep L4 3 = 1 := by
  have := adep_good (l := L4) (k := 3) (n := 1) ex_scan3
  rw [show ((3 : Nat) : Int) = 3 from rfl, ex_kids3] at this
  exact this
theorem ex_dep1 : adep L4 1 = 1 := by
  have := adep_good (l := L4) (k := 1) (n := 1) ex_scan1
  rw [show ((1 : Nat) : Int) = 1 from rfl, ex_kids1] at this
  exact this
theorem ex_dep2 : adep L4 2 = 2 := by
  have := adep_good (l := L4) (k := 2) (n := 2) ex_scan2
  rw [show ((2 : Nat) : Int) = 2 from rfl, ex_kids2, List.map_cons, List.map_nil, ex_dep3] at this
  exact this
theorem ex_dep : adep L4 0 = 3 := by
  have := adep_good (l := L4) (k := 0) (n := 4) ex_scan
  rw [show ((0 : Nat) : Int) = 0 from rfl, ex_kids, List.map_cons, List.map_cons, List.map_nil, ex_dep1, ex_dep2] at this
  exact this
theorem ex_part : apart L4 2 = [(5, 0), (1, 2)] := by unfold apart; rw [ex_end2]; rfl
theorem ex_rep : arep L4 2 [(1, 1)] = [(7, 0), (1, 1), (1, 1)] := by unfold arep; rw [ex_end2]; rfl
theorem ex_cut : aend [(7, 0), (1, 1)] 0 = -1 := by
  have : scan 1 ([(7, 0), (1, 1)] : List Nd) = none := by simp [scan_cons, scan_nil, ar, asks]
  exact aend_none (a := 0) this
theorem ex_check : acheck L4 = 0 := by
  unfold acheck
  rw [ex_end, ex_dep]
  simp [L4, bads, ar, asks]
theorem ex_check0 : acheck [] = 10 := rfl

end Go.Proofs.Yteknfglfbkknaaa.Arena
