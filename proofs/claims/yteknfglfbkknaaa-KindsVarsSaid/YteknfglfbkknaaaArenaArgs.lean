/-
  Arguments that are nodes, one by value or a slice of them: what they hold.
-/
import Derived.Test.YteknfglfbkknaaaArenaTog
import Derived.WalkKit
import Derived.Deep.Slices
import Derived.Lib.SmallJoins
import Derived.SizedLaws
import Derived.Carry
import Derived.OpenShut
import Derived.ChangeOld
import Derived.ShutString
import Derived.ProofKit
namespace Go.Proofs.Yteknfglfbkknaaa.Arena
open Go.RowKit Mem Go.ChangeShapes Go.WideShapes Go.Deep Go.Joins

set_option maxRecDepth 100000 in
theorem cells_atN {w : World} {base n : Nat} {a : Addr} {cs : List Value} (h : w.cells? base a n = some cs) : ∀ j v, cs[j]? = some v → w.cell? (a.add j) = some v := by
  obtain ⟨_, hl, hat⟩ := World.cells?_some h
  intro j v hj
  have hlt := (List.getElem?_eq_some_iff.1 hj).1
  rw [hat j (by omega), hj]

section
variable {H : Type} {enc : TypeId × Value → H} {W : World} {spare : Nat → Bool} {held : Bool}

set_option maxRecDepth 100000 in
/-- One node, out of its cells. -/
theorem node_of {n : Nat} {cs : List Value} {x : DataW H × List MemPlace} (h : DataW.trod enc Try.prog W 0 spare held n 39 cs = some x) : ∃ y : Nd, cs = [.int .i64 y.1, .int .i64 y.2] := by
  have hC : Try.prog.cellsOf 39 = 2 := by kernel_rfl
  obtain ⟨y0, y1, m, hx, hl, h0, h1⟩ := trod_struct2 Try.underlying39 h
  rw [hC] at hl
  match cs, hl with
  | [c0, c1], _ =>
    obtain ⟨k, e0, -, -⟩ := DataW.trod_int Try.underlying3 h0
    obtain ⟨n, e1, -, -⟩ := DataW.trod_int Try.underlying3 h1
    have hC0 : Try.prog.cellsOf 3 = 1 := by kernel_rfl
    simp only [hC0] at e0 e1
    simp at e0 e1
    exact ⟨⟨k, n⟩, by simp [e0, e1]⟩

set_option maxRecDepth 100000 in
/-- One node by value. -/
theorem open_node {b0 : Nat} {v : Value} {d : DataW H} {p : List MemPlace} (hv : Value.okWide Try.prog W .any b0 39 v) (h : DataW.Trod enc Try.prog W 0 spare held 39 v d p) :
    ∃ (t n : Int), v = .agg #[.int .i64 t, .int .i64 n] := by
  obtain ⟨cs, rfl, -⟩ := okWide_struct Try.underlying39 hv
  obtain ⟨fuel, hf⟩ := h
  obtain ⟨y, hy⟩ := node_of hf
  obtain ⟨l⟩ := cs
  have hy' : l = [.int .i64 y.1, .int .i64 y.2] := by simpa [Value.cells] using hy
  subst hy'
  exact ⟨y.1, y.2, rfl⟩

set_option maxRecDepth 100000 in
/-- Nodes in a slice. -/
theorem open_nodes {b0 : Nat} {v : Value} {d : DataW H} {p : List MemPlace} (hv : Value.okWide Try.prog W .any b0 23 v) (h : DataW.Trod enc Try.prog W 0 spare held 23 v d p) :
    ∃ (A : Option Addr) (cap : Nat) (xs : List Nd), v = .slice A xs.length cap ∧ xs.length ≤ maxLen ∧ xs.length ≤ cap ∧ (A = none → cap = 0) ∧ Nodes W W.heap.size A xs := by
  obtain ⟨A, len, cap, rfl⟩ := okWide_slice Try.underlying23 hv
  obtain ⟨fuel, hf⟩ := h
  have hC : Try.prog.cellsOf 39 = 2 := by kernel_rfl
  rcases open_slice Try.underlying23 hf with ⟨hcs, -⟩ | ⟨a, len', cap', m, n, D, Pl, hcs, -, hlc, hcm, hm, hx, hi⟩
  · simp [Value.cells] at hcs
    obtain ⟨rfl, rfl, rfl⟩ := hcs
    exact ⟨none, 0, [], rfl, by simp, by simp, fun _ => rfl, fun i x h => by simp at h⟩
  · simp [Value.cells] at hcs
    obtain ⟨rfl, rfl, rfl⟩ := hcs
    rw [hC] at hi
    have hlm : len ≤ m := by rw [hm]; split <;> omega
    have each : ∀ i, i < len → ∃ y : Nd, (a.add (i * 2)).block = a.block ∧ W.cell? (a.add (i * 2)) = some (.int .i64 y.1) ∧ W.cell? ⟨(a.add (i * 2)).block, (a.add (i * 2)).off + 1, none⟩ = some (.int .i64 y.2) := by
      intro i hil
      obtain ⟨cs', hc, ht⟩ := hi i (by omega)
      obtain ⟨y, hy⟩ := node_of ht
      have hat := cells_atN hc
      subst hy
      refine ⟨y, add_blockN _ _, ?_, ?_⟩
      · exact hat 0 _ rfl
      · have := hat 1 _ rfl; rwa [add_off _ _ (by omega)] at this
    obtain ⟨F, hF⟩ := choose_lt each
    refine ⟨some a, cap, (List.range len).map F, by simp, by simp; omega, by simpa using hlc, (fun e => by cases e), fun i x hxi => ?_⟩
    obtain ⟨hil, rfl⟩ : i < len ∧ F i = x := by
      rw [List.getElem?_map] at hxi
      have h1 : (List.range len)[i]? = some i := by
        rcases Nat.lt_or_ge i len with h | h
        · rw [List.getElem?_range h]
        · rw [List.getElem?_eq_none (by simpa using h)] at hxi; cases hxi
      rw [h1] at hxi
      have h2 := (List.getElem?_eq_some_iff.1 h1).1
      exact ⟨by simpa using h2, by simpa using hxi⟩
    obtain ⟨hb, q0, q1⟩ := hF i hil
    exact ⟨a, rfl, by have := World.block_lt_of_cell? W _ q0; rw [hb] at this; exact this, q0, q1⟩

end
end Go.Proofs.Yteknfglfbkknaaa.Arena
