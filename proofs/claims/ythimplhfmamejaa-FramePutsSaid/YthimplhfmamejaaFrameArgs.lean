/-
  Arguments that are sections, one by value or a slice of them: what they hold.
-/
import Derived.Test.YthimplhfmamejaaFrameMath
import Derived.Test.YthimplhfmamejaaFrameRef
import Derived.WalkKit
import Derived.Deep.Slices
import Derived.Lib.SmallJoins
import Derived.SizedLaws
import Derived.Carry
import Derived.OpenShut
import Derived.ChangeOld
import Derived.ShutString
import Derived.ProofKit
namespace Go.Proofs.Ythimplhfmamejaa.Frame
open Go.RowKit Mem Go.ChangeShapes Go.WideShapes Go.Deep Go.Joins

theorem add_blockS (a : Addr) (n : Nat) : (a.add n).block = a.block := by unfold Addr.add; split <;> rfl
theorem add_posS (a : Addr) (j : Nat) : a.add (j + 1) = ⟨a.block, a.off + (j + 1), none⟩ := by unfold Addr.add; rw [if_neg (by omega)]

theorem cells_atS {w : World} {base n : Nat} {a : Addr} {cs : List Value} (h : w.cells? base a n = some cs) : ∀ j v, cs[j]? = some v → w.cell? (a.add j) = some v := by
  obtain ⟨_, hl, hat⟩ := World.cells?_some h
  intro j v hj
  have hlt := (List.getElem?_eq_some_iff.1 hj).1
  rw [hat j (by omega), hj]

theorem weightsAll_memS {H : Type} {P : Program} {e : TypeId} {n : Nat} {x : DataW H} : ∀ {l : List (DataW H)}, x ∈ l → n ∈ x.weights P e → n ∈ DataW.weightsAll P e l
  | y :: l, hx, hn => by
    unfold DataW.weightsAll
    rw [List.mem_append]
    rcases List.mem_cons.1 hx with rfl | h
    · exact .inl hn
    · exact .inr (weightsAll_memS h hn)
  | [], hx, _ => by cases hx

/-- A section: its type, its data. -/
structure Sect where
  t : Int
  d : ByteArray
instance : Inhabited Sect := ⟨⟨0, ⟨#[]⟩⟩⟩

/-- Sections that lie in a row, all below B. -/
def Sects (w : World) (B : Nat) (A : Option Addr) (xs : List Sect) : Prop :=
  ∀ i x, xs[i]? = some x → ∃ ad, A = some ad ∧ ad.block < B ∧ x.d.size ≤ 140737488351232 ∧ w.cell? (ad.add (i * 2)) = some (.int .i64 x.t) ∧ w.cell? ⟨(ad.add (i * 2)).block, (ad.add (i * 2)).off + 1, none⟩ = some (.string x.d)

theorem Sects.keep {w w' : World} {B : Nat} {A : Option Addr} {xs : List Sect} (h : Sects w B A xs) (hb : ∀ k, k < B → w'.heap[k]? = w.heap[k]?) : Sects w' B A xs := by
  intro i x hx
  obtain ⟨ad, h0, h1, h2, h3, h4⟩ := h i x hx
  have hk : ∀ q : Addr, q.block = ad.block → w'.cell? q = w.cell? q := fun q hq => by
    unfold World.cell?
    rw [hb q.block (by omega)]
  exact ⟨ad, h0, h1, h2, (hk _ (add_blockS _ _)).trans h3, (hk ⟨(ad.add (i * 2)).block, (ad.add (i * 2)).off + 1, none⟩ (show (ad.add (i * 2)).block = ad.block from add_blockS _ _)).trans h4⟩

section
variable {H : Type} {enc : TypeId × Value → H} {W : World} {spare : Nat → Bool} {held : Bool}

set_option maxRecDepth 100000 in
/-- One section, out of its cells. -/
theorem section_of {n : Nat} {cs : List Value} {x : DataW H × List MemPlace} (h : DataW.trod enc Try.prog W 0 spare held n 23 cs = some x) :
    ∃ y : Sect, cs = [.int .i64 y.t, .string y.d] ∧ ((∀ m ∈ x.1.weights Try.prog 23, m ≤ reachBytes) → y.d.size ≤ 140737488351232) := by
  have hC : Try.prog.cellsOf 23 = 2 := by kernel_rfl
  obtain ⟨y0, y1, m, hx, hl, h0, h1⟩ := trod_struct2 Try.underlying23 h
  rw [hC] at hl
  match cs, hl with
  | [c0, c1], _ =>
    obtain ⟨k, e0, -, -⟩ := DataW.trod_int Try.underlying3 h0
    obtain ⟨s, e1, x1, -⟩ := DataW.trod_string Try.underlying9 h1
    have hC0 : Try.prog.cellsOf 3 = 1 := by kernel_rfl
    have hC1 : Try.prog.cellsOf 9 = 1 := by kernel_rfl
    simp only [hC0, hC1] at e0 e1
    simp at e0 e1
    refine ⟨⟨k, s⟩, by simp [e0, e1], fun hw => ?_⟩
    have := hw s.data.toList.length (by rw [hx, x1]; simp [DataW.weights, DataW.weightsEach, Try.underlying23])
    simpa [reachBytes] using this

set_option maxRecDepth 100000 in
/-- One section by value. -/
theorem open_section {b0 : Nat} {v : Value} {d : DataW H} {p : List MemPlace} (hv : Value.okWide Try.prog W .any b0 23 v) (h : DataW.Trod enc Try.prog W 0 spare held 23 v d p) :
    ∃ (t : Int) (s : ByteArray), v = .agg #[.int .i64 t, .string s] := by
  obtain ⟨cs, rfl, -⟩ := okWide_struct Try.underlying23 hv
  obtain ⟨fuel, hf⟩ := h
  obtain ⟨y, hy, -⟩ := section_of hf
  obtain ⟨l⟩ := cs
  have hy' : l = [.int .i64 y.t, .string y.d] := by simpa [Value.cells] using hy
  subst hy'
  exact ⟨y.t, y.d, rfl⟩

end
end Go.Proofs.Ythimplhfmamejaa.Frame
