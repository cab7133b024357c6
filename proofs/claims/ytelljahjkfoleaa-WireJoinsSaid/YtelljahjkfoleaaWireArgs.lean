/-
  Arguments that are slices of structs: what they hold, as lists.
-/
import Derived.Test.YtelljahjkfoleaaWireLawR
import Derived.Deep.Slices
import Derived.Lib.SmallJoins
import Derived.SizedLaws
import Derived.Carry
namespace Go.Proofs.Ytelljahjkfoleaa.Wire
open Go.RowKit Mem Go.ChangeShapes Go.WideShapes Go.Deep Go.Joins

instance : Inhabited Item := ⟨⟨0, 0, 0, ⟨#[]⟩⟩⟩

theorem weightsAll_mem {H : Type} {P : Program} {e : TypeId} {n : Nat} {x : DataW H} : ∀ {l : List (DataW H)}, x ∈ l → n ∈ x.weights P e → n ∈ DataW.weightsAll P e l
  | y :: l, hx, hn => by
    unfold DataW.weightsAll
    rw [List.mem_append]
    rcases List.mem_cons.1 hx with rfl | h
    · exact .inl hn
    · exact .inr (weightsAll_mem h hn)
  | [], hx, _ => by cases hx

theorem i64_of {n : Int} (h : (Lit.int .i64 n).wf = true) : -9223372036854775808 ≤ n ∧ n ≤ 9223372036854775807 := Zig.wf_i64_bounds h
theorem u64_of {n : Int} (h : (Lit.int .u64 n).wf = true) : 0 ≤ n ∧ n ≤ 18446744073709551615 := Zig.wf_u64_bounds h

theorem cells_at {w : World} {base n : Nat} {a : Addr} {cs : List Value} (h : w.cells? base a n = some cs) : ∀ j v, cs[j]? = some v → w.cell? (a.add j) = some v := by
  obtain ⟨_, hl, hat⟩ := World.cells?_some h
  intro j v hj
  have hlt := (List.getElem?_eq_some_iff.1 hj).1
  rw [hat j (by omega), hj]
theorem add_pos (a : Addr) (j : Nat) : a.add (j + 1) = ⟨a.block, a.off + (j + 1), none⟩ := by unfold Addr.add; rw [if_neg (by omega)]
theorem add_0 (a : Addr) : a.add 0 = a := rfl

section
variable {H : Type} {enc : TypeId × Value → H} {W : World} {spare : Nat → Bool} {held : Bool}

/-- One thing, out of its cells. -/
theorem item_of {n : Nat} {cs : List Value} {x : DataW H × List MemPlace} (h : DataW.trod enc Try.prog W 0 spare held n 42 cs = some x) (hw : ∀ m ∈ x.1.weights Try.prog 42, m ≤ reachBytes) :
    ∃ y : Item, cs = [.int .i64 y.k, .int .i64 y.n, .int .u64 y.u, .string y.s] ∧ y.Ok := by
  have hC : Try.prog.cellsOf 42 = 4 := by kernel_rfl
  obtain ⟨y0, y1, y2, y3, m, hx, hl, h0, h1, h2, h3⟩ := trod_struct4 Try.underlying42 h
  rw [hC] at hl
  match cs, hl with
  | [c0, c1, c2, c3], _ =>
    obtain ⟨k, e0, -, -⟩ := DataW.trod_int Try.underlying3 h0
    obtain ⟨n, e1, -, w1⟩ := DataW.trod_int Try.underlying3 h1
    obtain ⟨u, e2, -, w2⟩ := DataW.trod_int Try.underlying28 h2
    obtain ⟨s, e3, x3, -⟩ := DataW.trod_string Try.underlying9 h3
    have hC0 : Try.prog.cellsOf 3 = 1 := by kernel_rfl
    have hC2 : Try.prog.cellsOf 28 = 1 := by kernel_rfl
    have hC3 : Try.prog.cellsOf 9 = 1 := by kernel_rfl
    simp only [hC0, hC2, hC3] at e0 e1 e2 e3
    simp at e0 e1 e2 e3
    refine ⟨⟨k, n, u, s⟩, by simp [e0, e1, e2, e3], (i64_of w1).1, (i64_of w1).2, (u64_of w2).1, (u64_of w2).2, ?_⟩
    have := hw s.data.toList.length (by rw [hx, x3]; simp [DataW.weights, DataW.weightsEach, Try.underlying42])
    simpa [reachBytes] using this

/-- One thing that is asked for, out of its cells. -/
theorem op_of {n : Nat} {cs : List Value} {x : DataW H × List MemPlace} (h : DataW.trod enc Try.prog W 0 spare held n 34 cs = some x) :
    ∃ y : Int × Int, cs = [.int .i64 y.1, .int .i64 y.2] ∧ y.2 ≤ 9223372036854775807 := by
  have hC : Try.prog.cellsOf 34 = 2 := by kernel_rfl
  obtain ⟨y0, y1, m, hx, hl, h0, h1⟩ := trod_struct2 Try.underlying34 h
  rw [hC] at hl
  match cs, hl with
  | [c0, c1], _ =>
    obtain ⟨k, e0, -, -⟩ := DataW.trod_int Try.underlying3 h0
    obtain ⟨n, e1, -, w1⟩ := DataW.trod_int Try.underlying3 h1
    have hC0 : Try.prog.cellsOf 3 = 1 := by kernel_rfl
    simp only [hC0] at e0 e1
    simp at e0 e1
    exact ⟨⟨k, n⟩, by simp [e0, e1], (i64_of w1).2⟩

/-- Things to write. -/
theorem open_items {b0 : Nat} {v : Value} {d : DataW H} {p : List MemPlace} (hv : Value.okWide Try.prog W .any b0 36 v) (h : DataW.Trod enc Try.prog W 0 spare held 36 v d p) (hw : ∀ m ∈ d.weights Try.prog 36, m ≤ reachBytes) :
    ∃ (A : Option Addr) (cap : Nat) (xs : List Item), v = .slice A xs.length cap ∧ xs.length ≤ maxLen ∧ xs.length ≤ cap ∧ Items W W.heap.size A xs := by
  obtain ⟨A, len, cap, rfl⟩ := okWide_slice Try.underlying36 hv
  obtain ⟨fuel, hf⟩ := h
  have hC : Try.prog.cellsOf 42 = 4 := by kernel_rfl
  rcases open_slice Try.underlying36 hf with ⟨hcs, -⟩ | ⟨a, len', cap', m, n, D, Pl, hcs, -, hlc, hcm, hm, hx, hi⟩
  · simp [Value.cells] at hcs
    obtain ⟨rfl, rfl, rfl⟩ := hcs
    exact ⟨none, 0, [], rfl, by simp, by simp, fun i x h => by simp at h⟩
  · simp [Value.cells] at hcs
    obtain ⟨rfl, rfl, rfl⟩ := hcs
    rw [hC] at hi
    have hlm : len ≤ m := by rw [hm]; split <;> omega
    simp only [Prod.mk.injEq] at hx
    have each : ∀ i, i < len → ∃ y : Item, y.Ok ∧ (a.add (i * 4)).block = a.block ∧ W.cell? (a.add (i * 4)) = some (.int .i64 y.k) ∧ W.cell? ⟨(a.add (i * 4)).block, (a.add (i * 4)).off + 1, none⟩ = some (.int .i64 y.n) ∧
        W.cell? ⟨(a.add (i * 4)).block, (a.add (i * 4)).off + 2, none⟩ = some (.int .u64 y.u) ∧ W.cell? ⟨(a.add (i * 4)).block, (a.add (i * 4)).off + 3, none⟩ = some (.string y.s) := by
      intro i hil
      obtain ⟨cs', hc, ht⟩ := hi i (by omega)
      obtain ⟨y, hy, ok⟩ := item_of ht (fun k hk => hw k (by
        rw [hx.1]
        simp only [DataW.weights, Try.underlying36, List.mem_cons, List.mem_append]
        exact .inr (.inl (weightsAll_mem (List.mem_map.2 ⟨i, List.mem_range.2 hil, rfl⟩) hk))))
      have hat := cells_at hc
      subst hy
      refine ⟨y, ok, add_block _ _, ?_, ?_, ?_, ?_⟩
      · exact hat 0 _ rfl
      · have := hat 1 _ rfl; rwa [add_pos] at this
      · have := hat 2 _ rfl; rwa [add_pos] at this
      · have := hat 3 _ rfl; rwa [add_pos] at this
    obtain ⟨F, hF⟩ := choose_lt each
    refine ⟨some a, cap, (List.range len).map F, by simp, by simp; omega, by simpa using hlc, fun i x hxi => ?_⟩
    obtain ⟨hil, rfl⟩ : i < len ∧ F i = x := by
      rw [List.getElem?_map] at hxi
      have h1 : (List.range len)[i]? = some i := by
        rcases Nat.lt_or_ge i len with h | h
        · rw [List.getElem?_range h]
        · rw [List.getElem?_eq_none (by simpa using h)] at hxi; cases hxi
      rw [h1] at hxi
      have h2 := (List.getElem?_eq_some_iff.1 h1).1
      exact ⟨by simpa using h2, by simpa using hxi⟩
    obtain ⟨ok, hb, q0, q1, q2, q3⟩ := hF i hil
    exact ⟨a, rfl, by have := World.block_lt_of_cell? W _ q0; rw [hb] at this; exact this, ok, q0, q1, q2, q3⟩

/-- Things to ask for. -/
theorem open_ops {b0 : Nat} {v : Value} {d : DataW H} {p : List MemPlace} (hv : Value.okWide Try.prog W .any b0 22 v) (h : DataW.Trod enc Try.prog W 0 spare held 22 v d p) :
    ∃ (A : Option Addr) (cap : Nat) (os : List (Int × Int)), v = .slice A os.length cap ∧ os.length ≤ maxLen ∧ Ops W W.heap.size A os := by
  obtain ⟨A, len, cap, rfl⟩ := okWide_slice Try.underlying22 hv
  obtain ⟨fuel, hf⟩ := h
  have hC : Try.prog.cellsOf 34 = 2 := by kernel_rfl
  rcases open_slice Try.underlying22 hf with ⟨hcs, -⟩ | ⟨a, len', cap', m, n, D, Pl, hcs, -, hlc, hcm, hm, hx, hi⟩
  · simp [Value.cells] at hcs
    obtain ⟨rfl, rfl, rfl⟩ := hcs
    exact ⟨none, 0, [], rfl, by simp, fun i x h => by simp at h⟩
  · simp [Value.cells] at hcs
    obtain ⟨rfl, rfl, rfl⟩ := hcs
    rw [hC] at hi
    have hlm : len ≤ m := by rw [hm]; split <;> omega
    have each : ∀ i, i < len → ∃ y : Int × Int, y.2 ≤ 9223372036854775807 ∧ (a.add (i * 2)).block = a.block ∧ W.cell? (a.add (i * 2)) = some (.int .i64 y.1) ∧ W.cell? ⟨(a.add (i * 2)).block, (a.add (i * 2)).off + 1, none⟩ = some (.int .i64 y.2) := by
      intro i hil
      obtain ⟨cs', hc, ht⟩ := hi i (by omega)
      obtain ⟨y, hy, ok⟩ := op_of ht
      have hat := cells_at hc
      subst hy
      refine ⟨y, ok, add_block _ _, ?_, ?_⟩
      · exact hat 0 _ rfl
      · have := hat 1 _ rfl; rwa [add_pos] at this
    obtain ⟨F, hF⟩ := choose_lt each
    refine ⟨some a, cap, (List.range len).map F, by simp, by simp; omega, fun i x hxi => ?_⟩
    obtain ⟨hil, rfl⟩ : i < len ∧ F i = x := by
      rw [List.getElem?_map] at hxi
      have h1 : (List.range len)[i]? = some i := by
        rcases Nat.lt_or_ge i len with h | h
        · rw [List.getElem?_range h]
        · rw [List.getElem?_eq_none (by simpa using h)] at hxi; cases hxi
      rw [h1] at hxi
      have h2 := (List.getElem?_eq_some_iff.1 h1).1
      exact ⟨by simpa using h2, by simpa using hxi⟩
    obtain ⟨ok, hb, q0, q1⟩ := hF i hil
    exact ⟨a, rfl, by have := World.block_lt_of_cell? W _ q0; rw [hb] at this; exact this, ok, q0, q1⟩

/-- One by value. -/
theorem open_op {b0 : Nat} {v : Value} {d : DataW H} {p : List MemPlace} (hv : Value.okWide Try.prog W .any b0 34 v) (h : DataW.Trod enc Try.prog W 0 spare held 34 v d p) :
    ∃ k n : Int, v = .agg #[.int .i64 k, .int .i64 n] ∧ n ≤ 9223372036854775807 := by
  obtain ⟨cs, rfl, -⟩ := okWide_struct Try.underlying34 hv
  obtain ⟨fuel, hf⟩ := h
  obtain ⟨y, hy, ok⟩ := op_of hf
  obtain ⟨l⟩ := cs
  have hy' : l = [.int .i64 y.1, .int .i64 y.2] := by simpa [Value.cells] using hy
  subst hy'
  exact ⟨y.1, y.2, rfl, ok⟩

end
end Go.Proofs.Ytelljahjkfoleaa.Wire
