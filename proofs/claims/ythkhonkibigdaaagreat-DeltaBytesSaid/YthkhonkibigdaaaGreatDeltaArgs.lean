/-
  Arguments that are deltas by value: what they hold.
-/
import Derived.Test.YthkhonkibigdaaaGreatDeltaPkg
import Derived.Test.YthkhonkibigdaaaGreatKindsG
import Derived.Test.YthkhonkibigdaaaGreatCodeG
namespace Go.Proofs.YthkhonkibigdaaaGreat.Delta
open Go.RowKit Mem Go.ChangeShapes Go.WideShapes Go.Deep Go.Joins _root_.Go.Proofs.YthkhonkibigdaaaGreat.Arena _root_.Go.Proofs.YthkhonkibigdaaaGreat.Kinds

/-- A delta that came in: it lies in memory; how long its path is is not known. -/
structure Dlt.In (d : Dlt) (w : World) : Prop where
  path : IRow w w.heap.size d.A d.p
  len : d.p.length ≤ maxLen
  cap : d.p.length ≤ d.c
  none : d.A = none → d.c = 0
  n64 : N64 d.n
theorem Dlt.In.at {d : Dlt} {w w' : World} (h : d.In w) (hb : Below w.heap.size w w') : d.In w' := ⟨h.path.at hb, h.len, h.cap, h.none, h.n64⟩
theorem Dlt.In.ok {d : Dlt} {w : World} (h : d.In w) (h1 : d.p.length ≤ 1000000) : d.Ok w := ⟨h.path, h1, h.cap, h.none⟩

section
variable {H : Type} {enc : TypeId × Value → H} {W : World} {spare : Nat → Bool} {held : Bool}

set_option maxRecDepth 100000 in
/-- One delta by value. -/
theorem open_delta {b0 : Nat} {v : Value} {d : DataW H} {q : List MemPlace} (hv : Value.okWide Tryz.prog W .any b0 24 v) (h : DataW.Trod enc Tryz.prog W 0 spare held 24 v d q) :
    ∃ p : Dlt, v = .agg #[.slice p.A p.p.length p.c, .int .i64 p.op, .int .i64 p.n] ∧ p.In W := by
  obtain ⟨cs, rfl, -⟩ := okWide_struct Tryz.underlying24 hv
  obtain ⟨fuel, hf⟩ := h
  have hC : Tryz.prog.cellsOf 24 = 3 := by kernel_rfl
  have hC0 : Tryz.prog.cellsOf 3 = 1 := by kernel_rfl
  have hC1 : Tryz.prog.cellsOf 22 = 1 := by kernel_rfl
  obtain ⟨l⟩ := cs
  obtain ⟨y0, y1, y2, m, hx, hl, h0, h1, h2⟩ := trod_struct3 Tryz.underlying24 hf
  rw [hC] at hl
  simp only [Value.cells] at hl h0 h1 h2
  match l, hl with
  | [c0, c1, c2], _ =>
    obtain ⟨A, c, ks, e0, r1, r2, r3, r4⟩ := Kinds.ints_of h0
    obtain ⟨op, e1, -, -⟩ := DataW.trod_int Tryz.underlying3 h1
    obtain ⟨n, e2, -, wf⟩ := DataW.trod_int Tryz.underlying3 h2
    simp only [hC0, hC1] at e0 e1 e2
    simp at e0 e1 e2
    exact ⟨⟨A, c, ks, op, n⟩, by simp [e0, e1, e2], ⟨r4, r1, r2, r3, Code.wf_i64 wf⟩⟩

end
end Go.Proofs.YthkhonkibigdaaaGreat.Delta
