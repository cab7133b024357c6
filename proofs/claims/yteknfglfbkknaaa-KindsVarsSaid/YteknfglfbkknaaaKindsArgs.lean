/-
  Arguments that are programs by value: what they hold.
-/
import Derived.Test.YteknfglfbkknaaaKindsRefA
import Derived.Test.YteknfglfbkknaaaArenaArgs
namespace Go.Proofs.Yteknfglfbkknaaa.Kinds
open Go.RowKit Mem Go.ChangeShapes Go.WideShapes Go.Deep Go.Joins _root_.Go.Proofs.Yteknfglfbkknaaa.Arena

section
variable {H : Type} {enc : TypeId × Value → H} {W : World} {spare : Nat → Bool} {held : Bool}

set_option maxRecDepth 100000 in
/-- A slice of nodes, out of its cell. -/
theorem nodes_of {n : Nat} {cs : List Value} {x : DataW H × List MemPlace} (hf : DataW.trod enc Try.prog W 0 spare held n 23 cs = some x) :
    ∃ (A : Option Addr) (cap : Nat) (xs : List Nd), cs = [.slice A xs.length cap] ∧ xs.length ≤ maxLen ∧ xs.length ≤ cap ∧ (A = none → cap = 0) ∧ Nodes W W.heap.size A xs := by
  have hC : Try.prog.cellsOf 39 = 2 := by kernel_rfl
  rcases open_slice Try.underlying23 hf with ⟨rfl, -⟩ | ⟨a, len, cap, m, n, D, Pl, rfl, -, hlc, hcm, hm, hx, hi⟩
  · exact ⟨none, 0, [], rfl, by simp, by simp, fun _ => rfl, fun i x h => by simp at h⟩
  · rw [hC] at hi
    have hlm : len ≤ m := by rw [hm]; split <;> omega
    have each : ∀ i, i < len → ∃ y : Nd, (a.add (i * 2)).block = a.block ∧ W.cell? (a.add (i * 2)) = some (.int .i64 y.1) ∧ W.cell? ⟨(a.add (i * 2)).block, (a.add (i * 2)).off + 1, none⟩ = some (.int .i64 y.2) := by
      intro i hil
      obtain ⟨cs', hc, ht⟩ := hi i (by omega)
      obtain ⟨y, hy⟩ := node_of ht
      have hat := cells_atN hc
      subst hy
      refine ⟨y, add_blockN _ _, ?_, ?_⟩
      · exact hat 0 _ rfl
      · have := hat 1 _ rfl; rwa [add_off _ _ (by omega)] at this
    obtain ⟨F, hF⟩ := choose_lt each
    refine ⟨some a, cap, (List.range len).map F, by simp, by simp; omega, by simpa using hlc, (fun e => by cases e), fun i x hxi => ?_⟩
    obtain ⟨hil, rfl⟩ : i < len ∧ F i = x := by
      rw [List.getElem?_map] at hxi
      have h1 : (List.range len)[i]? = some i := by
        rcases Nat.lt_or_ge i len with h | h
        · rw [List.getElem?_range h]
        · rw [List.getElem?_eq_none (by simpa using h)] at hxi; cases hxi
      rw [h1] at hxi
      have h2 := (List.getElem?_eq_some_iff.1 h1).1
      exact ⟨by simpa using h2, by simpa using hxi⟩
    obtain ⟨hb, q0, q1⟩ := hF i hil
    exact ⟨a, rfl, by have := World.block_lt_of_cell? W _ q0; rw [hb] at this; exact this, q0, q1⟩

set_option maxRecDepth 100000 in
/-- A slice of numbers, out of its cell. -/
theorem ints_of {n : Nat} {cs : List Value} {x : DataW H × List MemPlace} (hf : DataW.trod enc Try.prog W 0 spare held n 22 cs = some x) :
    ∃ (A : Option Addr) (cap : Nat) (ks : List Int), cs = [.slice A ks.length cap] ∧ ks.length ≤ maxLen ∧ ks.length ≤ cap ∧ (A = none → cap = 0) ∧ IRow W W.heap.size A ks := by
  have hC : Try.prog.cellsOf 3 = 1 := by kernel_rfl
  rcases open_slice1 Try.underlying22 hC hf with ⟨rfl, -⟩ | ⟨a, len, cap, m, n, V, D, Pl, rfl, -, hlc, hcm, hm, hx, hi⟩
  · exact ⟨none, 0, [], rfl, by simp, by simp, fun _ => rfl, fun i x h => by simp at h⟩
  · have hlm : len ≤ m := by rw [hm]; split <;> omega
    have each : ∀ i, i < len → ∃ y : Int, W.cell? (a.add i) = some (.int .i64 y) := by
      intro i hil
      obtain ⟨hc, ht⟩ := hi i (by omega)
      obtain ⟨k, e0, -, -⟩ := DataW.trod_int Try.underlying3 ht
      simp at e0
      exact ⟨k, by rw [hc, e0]⟩
    obtain ⟨F, hF⟩ := choose_lt each
    refine ⟨some a, cap, (List.range len).map F, by simp, by simp; omega, by simpa using hlc, (fun e => by cases e), fun i x hxi => ?_⟩
    obtain ⟨hil, rfl⟩ : i < len ∧ F i = x := by
      rw [List.getElem?_map] at hxi
      have h1 : (List.range len)[i]? = some i := by
        rcases Nat.lt_or_ge i len with h | h
        · rw [List.getElem?_range h]
        · rw [List.getElem?_eq_none (by simpa using h)] at hxi; cases hxi
      rw [h1] at hxi
      have h2 := (List.getElem?_eq_some_iff.1 h1).1
      exact ⟨by simpa using h2, by simpa using hxi⟩
    have q0 := hF i hil
    exact ⟨a, rfl, by have := World.block_lt_of_cell? W _ q0; rw [add_blockN] at this; exact this, q0⟩

/-- A program that came in: it lies in memory; how large it is is not known. -/
structure Prg.In (p : Prg) (w : World) : Prop where
  vars : IRow w w.heap.size p.A p.vs
  body : Nodes w w.heap.size p.B p.xs
  lv : p.vs.length ≤ maxLen
  lx : p.xs.length ≤ maxLen
  cv : p.vs.length ≤ p.c
  ce : p.xs.length ≤ p.e
  nv : p.A = none → p.c = 0
  nb : p.B = none → p.e = 0
theorem Prg.In.at {p : Prg} {w w' : World} (h : p.In w) (hb : Below w.heap.size w w') : p.In w' := ⟨h.vars.at hb, h.body.at hb, h.lv, h.lx, h.cv, h.ce, h.nv, h.nb⟩
theorem Prg.In.ok {p : Prg} {w : World} (h : p.In w) (h1 : p.vs.length ≤ 1000000) (h2 : p.xs.length ≤ 1000000) : p.Ok w := ⟨h.vars, h.body, h1, h2, h.cv, h.ce, h.nv, h.nb⟩

set_option maxRecDepth 100000 in
/-- One program by value. -/
theorem open_program {b0 : Nat} {v : Value} {d : DataW H} {q : List MemPlace} (hv : Value.okWide Try.prog W .any b0 25 v) (h : DataW.Trod enc Try.prog W 0 spare held 25 v d q) :
    ∃ p : Prg, v = .agg #[.int .i64 p.ps, .slice p.A p.vs.length p.c, .slice p.B p.xs.length p.e] ∧ p.In W := by
  obtain ⟨cs, rfl, -⟩ := okWide_struct Try.underlying25 hv
  obtain ⟨fuel, hf⟩ := h
  have hC : Try.prog.cellsOf 25 = 3 := by kernel_rfl
  have hC0 : Try.prog.cellsOf 3 = 1 := by kernel_rfl
  have hC1 : Try.prog.cellsOf 22 = 1 := by kernel_rfl
  have hC2 : Try.prog.cellsOf 23 = 1 := by kernel_rfl
  obtain ⟨l⟩ := cs
  obtain ⟨y0, y1, y2, m, hx, hl, h0, h1, h2⟩ := trod_struct3 Try.underlying25 hf
  rw [hC] at hl
  simp only [Value.cells] at hl h0 h1 h2
  match l, hl with
  | [c0, c1, c2], _ =>
    obtain ⟨k, e0, -, -⟩ := DataW.trod_int Try.underlying3 h0
    obtain ⟨A, c, vs, e1, r1, r2, r3, r4⟩ := ints_of h1
    obtain ⟨B, e, xs, e2, s1, s2, s3, s4⟩ := nodes_of h2
    simp only [hC0, hC1, hC2] at e0 e1 e2
    simp at e0 e1 e2
    exact ⟨⟨k, A, c, vs, B, e, xs⟩, by simp [e0, e1, e2], ⟨r4, s4, r1, s1, r2, s2, r3, s3⟩⟩

end
end Go.Proofs.Yteknfglfbkknaaa.Kinds
