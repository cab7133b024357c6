/-
  Arguments that are sections, one by value or a slice of them: what they hold.
-/
import Derived.Test.YtfjdbbhaigjbmaaGreatFrameG
import Derived.WalkKit
import Derived.Deep.Slices
import Derived.Lib.SmallJoins
import Derived.SizedLaws
import Derived.Carry
import Derived.OpenShut
import Derived.ChangeOld
import Derived.ShutString
import Derived.ProofKit
namespace Go.Proofs.YtfjdbbhaigjbmaaGreat.Frame
open Go.RowKit Mem Go.ChangeShapes Go.WideShapes Go.Deep Go.Joins

set_option maxRecDepth 100000 in
theorem add_blockS (a : Addr) (n : Nat) : (a.add n).block = a.block := by unfold Addr.add; split <;> rfl
set_option maxRecDepth 100000 in
theorem add_posS (a : Addr) (j : Nat) : a.add (j + 1) = ⟨a.block, a.off + (j + 1), none⟩ := by unfold Addr.add; rw [if_neg (by omega)]

set_option maxRecDepth 100000 in
theorem cells_atS {w : World} {base n : Nat} {a : Addr} {cs : List Value} (h : w.cells? base a n = some cs) : ∀ j v, cs[j]? = some v → w.cell? (a.add j) = some v := by
  obtain ⟨_, hl, hat⟩ := World.cells?_some h
  intro j v hj
  have hlt := (List.getElem?_eq_some_iff.1 hj).1
  rw [hat j (by omega), hj]

set_option maxRecDepth 100000 in
theorem weightsAll_memS {H : Type} {P : Program} {e : TypeId} {n : Nat} {x : DataW H} : ∀ {l : List (DataW H)}, x ∈ l → n ∈ x.weights P e → n ∈ DataW.weightsAll P e l
  | y :: l, hx, hn => by
    unfold DataW.weightsAll
    rw [List.mem_append]
    rcases List.mem_cons.1 hx with rfl | h
    · exact .inl hn
    · exact .inr (weightsAll_memS h hn)
  | [], hx, _ => by cases hx

/-- A section: its type, its data. -/
structure Sect where
  t : Int
  d : ByteArray
instance : Inhabited Sect := ⟨⟨0, ⟨#[]⟩⟩⟩

/-- Sections that lie in a row, all below B. -/
def Sects (w : World) (B : Nat) (A : Option Addr) (xs : List Sect) : Prop :=
  ∀ i x, xs[i]? = some x → ∃ ad, A = some ad ∧ ad.block < B ∧ x.d.size ≤ 140737488351232 ∧ w.cell? (ad.add (i * 2)) = some (.int .i64 x.t) ∧ w.cell? ⟨(ad.add (i * 2)).block, (ad.add (i * 2)).off + 1, none⟩ = some (.string x.d)

set_option maxRecDepth 100000 in
theorem Sects.keep {w w' : World} {B : Nat} {A : Option Addr} {xs : List Sect} (h : Sects w B A xs) (hb : ∀ k, k < B → w'.heap[k]? = w.heap[k]?) : Sects w' B A xs := by
  intro i x hx
  obtain ⟨ad, h0, h1, h2, h3, h4⟩ := h i x hx
  have hk : ∀ q : Addr, q.block = ad.block → w'.cell? q = w.cell? q := fun q hq => by
    unfold World.cell?
    rw [hb q.block (by omega)]
  exact ⟨ad, h0, h1, h2, (hk _ (add_blockS _ _)).trans h3, (hk ⟨(ad.add (i * 2)).block, (ad.add (i * 2)).off + 1, none⟩ (show (ad.add (i * 2)).block = ad.block from add_blockS _ _)).trans h4⟩

section
variable {H : Type} {enc : TypeId × Value → H} {W : World} {spare : Nat → Bool} {held : Bool}

set_option maxRecDepth 100000 in
/-- One section, out of its cells. -/
theorem section_of {n : Nat} {cs : List Value} {x : DataW H × List MemPlace} (h : DataW.trod enc Tryz.prog W 0 spare held n 34 cs = some x) :
    ∃ y : Sect, cs = [.int .i64 y.t, .string y.d] ∧ ((∀ m ∈ x.1.weights Tryz.prog 34, m ≤ reachBytes) → y.d.size ≤ 140737488351232) := by
  have hC : Tryz.prog.cellsOf 34 = 2 := by kernel_rfl
  obtain ⟨y0, y1, m, hx, hl, h0, h1⟩ := trod_struct2 Tryz.underlying34 h
  rw [hC] at hl
  match cs, hl with
  | [c0, c1], _ =>
    obtain ⟨k, e0, -, -⟩ := DataW.trod_int Tryz.underlying3 h0
    obtain ⟨s, e1, x1, -⟩ := DataW.trod_string Tryz.underlying9 h1
    have hC0 : Tryz.prog.cellsOf 3 = 1 := by kernel_rfl
    have hC1 : Tryz.prog.cellsOf 9 = 1 := by kernel_rfl
    simp only [hC0, hC1] at e0 e1
    simp at e0 e1
    refine ⟨⟨k, s⟩, by simp [e0, e1], fun hw => ?_⟩
    have := hw s.data.toList.length (by rw [hx, x1]; simp [DataW.weights, DataW.weightsEach, Tryz.underlying34])
    simpa [reachBytes] using this

set_option maxRecDepth 100000 in
/-- One section by value. -/
theorem open_section {b0 : Nat} {v : Value} {d : DataW H} {p : List MemPlace} (hv : Value.okWide Tryz.prog W .any b0 34 v) (h : DataW.Trod enc Tryz.prog W 0 spare held 34 v d p) :
    ∃ (t : Int) (s : ByteArray), v = .agg #[.int .i64 t, .string s] := by
  obtain ⟨cs, rfl, -⟩ := okWide_struct Tryz.underlying34 hv
  obtain ⟨fuel, hf⟩ := h
  obtain ⟨y, hy, -⟩ := section_of hf
  obtain ⟨l⟩ := cs
  have hy' : l = [.int .i64 y.t, .string y.d] := by simpa [Value.cells] using hy
  subst hy'
  exact ⟨y.t, y.d, rfl⟩

set_option maxRecDepth 100000 in
/-- Sections in a slice. -/
theorem open_sections {b0 : Nat} {v : Value} {d : DataW H} {p : List MemPlace} (hv : Value.okWide Tryz.prog W .any b0 22 v) (h : DataW.Trod enc Tryz.prog W 0 spare held 22 v d p) (hw : ∀ m ∈ d.weights Tryz.prog 22, m ≤ reachBytes) :
    ∃ (A : Option Addr) (cap : Nat) (xs : List Sect), v = .slice A xs.length cap ∧ xs.length ≤ maxLen ∧ xs.length ≤ cap ∧ Sects W W.heap.size A xs := by
  obtain ⟨A, len, cap, rfl⟩ := okWide_slice Tryz.underlying22 hv
  obtain ⟨fuel, hf⟩ := h
  have hC : Tryz.prog.cellsOf 34 = 2 := by kernel_rfl
  rcases open_slice Tryz.underlying22 hf with ⟨hcs, -⟩ | ⟨a, len', cap', m, n, D, Pl, hcs, -, hlc, hcm, hm, hx, hi⟩
  · simp [Value.cells] at hcs
    obtain ⟨rfl, rfl, rfl⟩ := hcs
    exact ⟨none, 0, [], rfl, by simp, by simp, fun i x h => by simp at h⟩
  · simp [Value.cells] at hcs
    obtain ⟨rfl, rfl, rfl⟩ := hcs
    rw [hC] at hi
    have hlm : len ≤ m := by rw [hm]; split <;> omega
    simp only [Prod.mk.injEq] at hx
    have each : ∀ i, i < len → ∃ y : Sect, y.d.size ≤ 140737488351232 ∧ (a.add (i * 2)).block = a.block ∧ W.cell? (a.add (i * 2)) = some (.int .i64 y.t) ∧ W.cell? ⟨(a.add (i * 2)).block, (a.add (i * 2)).off + 1, none⟩ = some (.string y.d) := by
      intro i hil
      obtain ⟨cs', hc, ht⟩ := hi i (by omega)
      obtain ⟨y, hy, ok⟩ := section_of ht
      have ok := ok (fun k hk => hw k (by
        rw [hx.1]
        simp only [DataW.weights, Tryz.underlying22, List.mem_cons, List.mem_append]
        exact .inr (.inl (weightsAll_memS (List.mem_map.2 ⟨i, List.mem_range.2 hil, rfl⟩) hk))))
      have hat := cells_atS hc
      subst hy
      refine ⟨y, ok, add_blockS _ _, ?_, ?_⟩
      · exact hat 0 _ rfl
      · have := hat 1 _ rfl; rwa [add_posS] at this
    obtain ⟨F, hF⟩ := choose_lt each
    refine ⟨some a, cap, (List.range len).map F, by simp, by simp; omega, by simpa using hlc, fun i x hxi => ?_⟩
    obtain ⟨hil, rfl⟩ : i < len ∧ F i = x := by
      rw [List.getElem?_map] at hxi
      have h1 : (List.range len)[i]? = some i := by
        rcases Nat.lt_or_ge i len with h | h
        · rw [List.getElem?_range h]
        · rw [List.getElem?_eq_none (by simpa using h)] at hxi; cases hxi
      rw [h1] at hxi
      have h2 := (List.getElem?_eq_some_iff.1 h1).1
      exact ⟨by simpa using h2, by simpa using hxi⟩
    obtain ⟨ok, hb, q0, q1⟩ := hF i hil
    exact ⟨a, rfl, by have := World.block_lt_of_cell? W _ q0; rw [hb] at this; exact this, ok, q0, q1⟩

end
end Go.Proofs.YtfjdbbhaigjbmaaGreat.Frame
