/-
  Arguments that are tests: rows of rows of numbers of 64 bits.
-/
import Derived.Test.YtlecofghifjmcaaSuiteRow
import Derived.Test.YtlecofghifjmcaaKindsG
import Derived.Test.YtlecofghifjmcaaCodeG
namespace Go.Proofs.Ytlecofghifjmcaa.Suite
open Go.RowKit Mem Go.ChangeShapes Go.WideShapes Go.Deep Go.Joins _root_.Go.Proofs.Ytlecofghifjmcaa.Arena _root_.Go.Proofs.Ytlecofghifjmcaa.Delta

section
variable {H : Type} {enc : TypeId × Value → H} {W : World} {spare : Nat → Bool} {held : Bool}

set_option maxRecDepth 100000 in
/-- A slice of numbers, out of its cell; each has 64 bits. -/
theorem ints64_of {n : Nat} {cs : List Value} {x : DataW H × List MemPlace} (hf : DataW.trod enc Try.prog W 0 spare held n 34 cs = some x) :
    ∃ (A : Option Addr) (cap : Nat) (ks : List Int), cs = [.slice A ks.length cap] ∧ TOk W A cap ks ∧ ∀ k ∈ ks, N64 k := by
  have hC : Try.prog.cellsOf 3 = 1 := by kernel_rfl
  rcases open_slice1 Try.underlying34 hC hf with ⟨rfl, -⟩ | ⟨a, len, cap, m, n, V, D, Pl, rfl, -, hlc, hcm, hm, hx, hi⟩
  · exact ⟨none, 0, [], rfl, ⟨fun i x h => by simp at h, by simp, fun _ => rfl⟩, fun k h => by cases h⟩
  · have hlm : len ≤ m := by rw [hm]; split <;> omega
    have each : ∀ i, i < len → ∃ y : Int, W.cell? (a.add i) = some (.int .i64 y) ∧ N64 y := by
      intro i hil
      obtain ⟨hc, ht⟩ := hi i (by omega)
      obtain ⟨k, e0, -, wf⟩ := DataW.trod_int Try.underlying3 ht
      simp at e0
      exact ⟨k, by rw [hc, e0], Code.wf_i64 wf⟩
    obtain ⟨F, hF⟩ := choose_lt each
    refine ⟨some a, cap, (List.range len).map F, by simp, ⟨fun i x hxi => ?_, by simpa using hlc, fun e => by cases e⟩, fun k hk => ?_⟩
    · obtain ⟨hil, rfl⟩ : i < len ∧ F i = x := by
        rw [List.getElem?_map] at hxi
        have h1 : (List.range len)[i]? = some i := by
          rcases Nat.lt_or_ge i len with h | h
          · rw [List.getElem?_range h]
          · rw [List.getElem?_eq_none (by simpa using h)] at hxi; cases hxi
        rw [h1] at hxi
        have h2 := (List.getElem?_eq_some_iff.1 h1).1
        exact ⟨by simpa using h2, by simpa using hxi⟩
      have h3 := (hF i hil).1
      exact ⟨a, rfl, by have := World.block_lt_of_cell? W _ h3; rwa [add_blockN] at this, h3⟩
    · rw [List.mem_map] at hk
      obtain ⟨i, hi', rfl⟩ := hk
      exact (hF i (List.mem_range.1 hi')).2

set_option maxRecDepth 100000 in
/-- Tests that came in. -/
theorem open_tests {b0 : Nat} {v : Value} {d : DataW H} {p : List MemPlace} (hv : Value.okWide Try.prog W .any b0 22 v) (h : DataW.Trod enc Try.prog W 0 spare held 22 v d p) :
    ∃ (A : Option Addr) (cap : Nat) (ts : List (List Int)), v = .slice A ts.length cap ∧ ts.length ≤ maxLen ∧ ts.length ≤ cap ∧ (A = none → cap = 0) ∧ T64 ts ∧ TRow W A ts := by
  obtain ⟨A, len, cap, rfl⟩ := okWide_slice Try.underlying22 hv
  obtain ⟨fuel, hf⟩ := h
  have hC : Try.prog.cellsOf 34 = 1 := by kernel_rfl
  rcases open_slice1 Try.underlying22 hC hf with ⟨hcs, -⟩ | ⟨a, len', cap', m, n, V, D, Pl, hcs, -, hlc, hcm, hm, hx, hi⟩
  · simp [Value.cells] at hcs
    obtain ⟨rfl, rfl, rfl⟩ := hcs
    exact ⟨none, 0, [], rfl, by simp, by simp, fun _ => rfl, (fun t h => by cases h), TRow.nil _ _⟩
  · simp [Value.cells] at hcs
    obtain ⟨rfl, rfl, rfl⟩ := hcs
    have hlm : len ≤ m := by rw [hm]; split <;> omega
    have each : ∀ i, i < len → ∃ y : (Option Addr × Nat) × List Int, (TOk W y.1.1 y.1.2 y.2 ∧ ∀ k ∈ y.2, N64 k) ∧ W.cell? (a.add i) = some (.slice y.1.1 y.2.length y.1.2) := by
      intro i hil
      obtain ⟨hc, ht⟩ := hi i (by omega)
      obtain ⟨P, c, ks, e0, h1, h2⟩ := ints64_of ht
      simp at e0
      exact ⟨((P, c), ks), ⟨h1, h2⟩, by rw [hc, e0]⟩
    obtain ⟨F, hF⟩ : ∃ F : Nat → (Option Addr × Nat) × List Int, ∀ i, i < len → (TOk W (F i).1.1 (F i).1.2 (F i).2 ∧ ∀ k ∈ (F i).2, N64 k) ∧ W.cell? (a.add i) = some (.slice (F i).1.1 (F i).2.length (F i).1.2) := by
      refine ⟨fun i => if h : i < len then (each i h).choose else ((none, 0), []), fun i hil => ?_⟩
      simp only [dif_pos hil]
      exact (each i hil).choose_spec
    refine ⟨some a, cap, (List.range len).map fun i => (F i).2, by simp, by simp; omega, by simpa using hlc, (fun e => by cases e), fun t ht => ?_, fun i x hxi => ?_⟩
    · rw [List.mem_map] at ht
      obtain ⟨i, hi', rfl⟩ := ht
      exact (hF i (List.mem_range.1 hi')).1.2
    · obtain ⟨hil, rfl⟩ : i < len ∧ (F i).2 = x := by
        rw [List.getElem?_map] at hxi
        have h1 : (List.range len)[i]? = some i := by
          rcases Nat.lt_or_ge i len with h | h
          · rw [List.getElem?_range h]
          · rw [List.getElem?_eq_none (by simpa using h)] at hxi; cases hxi
        rw [h1] at hxi
        have h2 := (List.getElem?_eq_some_iff.1 h1).1
        exact ⟨by simpa using h2, by simpa using hxi⟩
      obtain ⟨⟨ok, -⟩, hce⟩ := hF i hil
      exact ⟨a, (F i).1.1, (F i).1.2, rfl, by have := World.block_lt_of_cell? W _ hce; rwa [add_blockN] at this, ok, hce⟩

end
end Go.Proofs.Ytlecofghifjmcaa.Suite
