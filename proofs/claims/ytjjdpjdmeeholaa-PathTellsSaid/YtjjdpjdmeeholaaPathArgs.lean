/-
  Arguments that are slices of numbers: what they hold.
-/
import Derived.Test.YtjjdpjdmeeholaaArenaH
namespace Go.Proofs.Ytjjdpjdmeeholaa.Path
open Go.RowKit Mem Go.ChangeShapes Go.WideShapes Go.Deep Go.Joins _root_.Go.Proofs.Ytjjdpjdmeeholaa.Arena

section
variable {H : Type} {enc : TypeId × Value → H} {W : World} {spare : Nat → Bool} {held : Bool}

set_option maxRecDepth 100000 in
/-- A slice of numbers, out of its cell. -/
theorem ints_of {n : Nat} {cs : List Value} {x : DataW H × List MemPlace} (hf : DataW.trod enc Try.prog W 0 spare held n 23 cs = some x) :
    ∃ (A : Option Addr) (cap : Nat) (ks : List Int), cs = [.slice A ks.length cap] ∧ ks.length ≤ maxLen ∧ ks.length ≤ cap ∧ (A = none → cap = 0) ∧ IRow W W.heap.size A ks := by
  have hC : Try.prog.cellsOf 3 = 1 := by kernel_rfl
  rcases open_slice1 Try.underlying23 hC hf with ⟨rfl, -⟩ | ⟨a, len, cap, m, n, V, D, Pl, rfl, -, hlc, hcm, hm, hx, hi⟩
  · exact ⟨none, 0, [], rfl, by simp, by simp, fun _ => rfl, fun i x h => by simp at h⟩
  · have hlm : len ≤ m := by rw [hm]; split <;> omega
    have each : ∀ i, i < len → ∃ y : Int, W.cell? (a.add i) = some (.int .i64 y) := by
      intro i hil
      obtain ⟨hc, ht⟩ := hi i (by omega)
      obtain ⟨k, e0, -, -⟩ := DataW.trod_int Try.underlying3 ht
      simp at e0
      exact ⟨k, by rw [hc, e0]⟩
    obtain ⟨F, hF⟩ := choose_lt each
    refine ⟨some a, cap, (List.range len).map F, by simp, by simp; omega, by simpa using hlc, (fun e => by cases e), fun i x hxi => ?_⟩
    obtain ⟨hil, rfl⟩ : i < len ∧ F i = x := by
      rw [List.getElem?_map] at hxi
      have h1 : (List.range len)[i]? = some i := by
        rcases Nat.lt_or_ge i len with h | h
        · rw [List.getElem?_range h]
        · rw [List.getElem?_eq_none (by simpa using h)] at hxi; cases hxi
      rw [h1] at hxi
      have h2 := (List.getElem?_eq_some_iff.1 h1).1
      exact ⟨by simpa using h2, by simpa using hxi⟩
    have q0 := hF i hil
    exact ⟨a, rfl, by have := World.block_lt_of_cell? W _ q0; rw [add_blockN] at this; exact this, q0⟩

set_option maxRecDepth 100000 in
/-- Numbers in a slice. -/
theorem open_ints {b0 : Nat} {v : Value} {d : DataW H} {p : List MemPlace} (hv : Value.okWide Try.prog W .any b0 23 v) (h : DataW.Trod enc Try.prog W 0 spare held 23 v d p) :
    ∃ (A : Option Addr) (cap : Nat) (xs : List Int), v = .slice A xs.length cap ∧ xs.length ≤ maxLen ∧ xs.length ≤ cap ∧ (A = none → cap = 0) ∧ IRow W W.heap.size A xs := by
  obtain ⟨A, len, cap, rfl⟩ := okWide_slice Try.underlying23 hv
  obtain ⟨fuel, hf⟩ := h
  obtain ⟨A', cap', ks, e, r1, r2, r3, r4⟩ := ints_of hf
  simp [Value.cells] at e
  obtain ⟨rfl, rfl, rfl⟩ := e
  exact ⟨_, _, ks, rfl, r1, r2, r3, r4⟩
end

end Go.Proofs.Ytjjdpjdmeeholaa.Path
