/-
  Arguments that are slices of deltas: what they hold.
-/
import Derived.Test.YtofhgaioidfdmaaGreatSitesRefA
import Derived.Test.YtofhgaioidfdmaaGreatDeltaG
import Derived.Test.YtofhgaioidfdmaaGreatKindsG
namespace Go.Proofs.YtofhgaioidfdmaaGreat.Sites
open Go.RowKit Mem Go.ChangeShapes Go.WideShapes Go.Deep Go.Joins _root_.Go.Proofs.YtofhgaioidfdmaaGreat.Arena _root_.Go.Proofs.YtofhgaioidfdmaaGreat.Delta

theorem cells_atS {w : World} {base n : Nat} {a : Addr} {cs : List Value} (h : w.cells? base a n = some cs) : ∀ j v, cs[j]? = some v → w.cell? (a.add j) = some v := by
  obtain ⟨_, hl, hat⟩ := World.cells?_some h
  intro j v hj
  have hlt := (List.getElem?_eq_some_iff.1 hj).1
  rw [hat j (by omega), hj]
theorem add_posS (a : Addr) (j : Nat) : a.add (j + 1) = ⟨a.block, a.off + (j + 1), none⟩ := by unfold Addr.add; rw [if_neg (by omega)]

section
variable {H : Type} {enc : TypeId × Value → H} {W : World} {spare : Nat → Bool} {held : Bool}

set_option maxRecDepth 100000 in
/-- One delta, out of its cells. -/
theorem delta_of {n : Nat} {cs : List Value} {x : DataW H × List MemPlace} (hf : DataW.trod enc Tryz.prog W 0 spare held n 34 cs = some x) :
    ∃ p : Dlt, cs = [.slice p.A p.p.length p.c, .int .i64 p.op, .int .i64 p.n] ∧ p.In W := by
  have hC : Tryz.prog.cellsOf 34 = 3 := by kernel_rfl
  have hC0 : Tryz.prog.cellsOf 3 = 1 := by kernel_rfl
  have hC1 : Tryz.prog.cellsOf 22 = 1 := by kernel_rfl
  obtain ⟨y0, y1, y2, m, hx, hl, h0, h1, h2⟩ := trod_struct3 Tryz.underlying34 hf
  rw [hC] at hl
  match cs, hl with
  | [c0, c1, c2], _ =>
    obtain ⟨A, c, ks, e0, r1, r2, r3, r4⟩ := Kinds.ints_of h0
    obtain ⟨op, e1, -, -⟩ := DataW.trod_int Tryz.underlying3 h1
    obtain ⟨n, e2, -, wf⟩ := DataW.trod_int Tryz.underlying3 h2
    simp only [hC0, hC1] at e0 e1 e2
    simp at e0 e1 e2
    exact ⟨⟨A, c, ks, op, n⟩, by simp [e0, e1, e2], ⟨r4, r1, r2, r3, Code.wf_i64 wf⟩⟩

set_option maxRecDepth 100000 in
/-- Deltas that came in. -/
theorem open_deltas {b0 : Nat} {v : Value} {d : DataW H} {p : List MemPlace} (hv : Value.okWide Tryz.prog W .any b0 28 v) (h : DataW.Trod enc Tryz.prog W 0 spare held 28 v d p) :
    ∃ (A : Option Addr) (cap : Nat) (L : List Mt), v = .slice A L.length cap ∧ L.length ≤ maxLen ∧ L.length ≤ cap ∧ (A = none → cap = 0) ∧ MIn W A L := by
  obtain ⟨A, len, cap, rfl⟩ := okWide_slice Tryz.underlying28 hv
  obtain ⟨fuel, hf⟩ := h
  have hC : Tryz.prog.cellsOf 34 = 3 := by kernel_rfl
  rcases open_slice Tryz.underlying28 hf with ⟨hcs, -⟩ | ⟨a, len', cap', m, n, D, Pl, hcs, -, hlc, hcm, hm, hx, hi⟩
  · simp [Value.cells] at hcs
    obtain ⟨rfl, rfl, rfl⟩ := hcs
    exact ⟨none, 0, [], rfl, by simp, by simp, fun _ => rfl, fun i x h => by simp at h⟩
  · simp [Value.cells] at hcs
    obtain ⟨rfl, rfl, rfl⟩ := hcs
    rw [hC] at hi
    have hlm : len ≤ m := by rw [hm]; split <;> omega
    have each : ∀ i, i < len → ∃ y : Dlt, y.In W ∧ Cem W a i y.A y.c (y.p, y.op, y.n) := by
      intro i hil
      obtain ⟨cs', hc, ht⟩ := hi i (by omega)
      obtain ⟨y, hy, ok⟩ := delta_of ht
      have hat := cells_atS hc
      subst hy
      refine ⟨y, ok, ?_, ?_, ?_⟩
      · exact hat 0 _ rfl
      · have := hat 1 _ rfl; rwa [add_posS] at this
      · have := hat 2 _ rfl; rwa [add_posS] at this
    obtain ⟨F, hF⟩ : ∃ F : Nat → Dlt, ∀ i, i < len → (F i).In W ∧ Cem W a i (F i).A (F i).c ((F i).p, (F i).op, (F i).n) := by
      refine ⟨fun i => if h : i < len then (each i h).choose else ⟨none, 0, [], 0, 0⟩, fun i hil => ?_⟩
      simp only [dif_pos hil]
      exact (each i hil).choose_spec
    refine ⟨some a, cap, (List.range len).map fun i => ((F i).p, (F i).op, (F i).n), by simp, by simp; omega, by simpa using hlc, fun e => (by cases e), fun i x hxi => ?_⟩
    obtain ⟨hil, rfl⟩ : i < len ∧ ((F i).p, (F i).op, (F i).n) = x := by
      rw [List.getElem?_map] at hxi
      have h1 : (List.range len)[i]? = some i := by
        rcases Nat.lt_or_ge i len with h | h
        · rw [List.getElem?_range h]
        · rw [List.getElem?_eq_none (by simpa using h)] at hxi; cases hxi
      rw [h1] at hxi
      have h2 := (List.getElem?_eq_some_iff.1 h1).1
      exact ⟨by simpa using h2, by simpa using hxi⟩
    obtain ⟨ok, hce⟩ := hF i hil
    refine ⟨a, (F i).A, (F i).c, rfl, ?_, ok, hce⟩
    have := World.block_lt_of_cell? W _ hce.1
    rwa [add_blockN] at this

end
end Go.Proofs.YtofhgaioidfdmaaGreat.Sites
