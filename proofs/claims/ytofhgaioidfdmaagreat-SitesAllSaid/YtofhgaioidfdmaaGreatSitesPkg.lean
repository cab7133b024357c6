/-
  What the functions of all mutants come to.
-/
import Derived.Test.YtofhgaioidfdmaaGreatSitesRefC
import Derived.Test.YtofhgaioidfdmaaGreatKindsG
import Derived.Test.YtofhgaioidfdmaaGreatKindsP
set_option linter.unusedVariables false
namespace Go.Proofs.YtofhgaioidfdmaaGreat.Sites
open Go.RowKit Mem _root_.Go.Proofs.YtofhgaioidfdmaaGreat.Arena _root_.Go.Proofs.YtofhgaioidfdmaaGreat.Delta _root_.Go.Proofs.YtofhgaioidfdmaaGreat.Path _root_.Go.Proofs.YtofhgaioidfdmaaGreat.Cat _root_.Go.Proofs.YtofhgaioidfdmaaGreat.Kinds

/-- What the package's functions come to. -/
structure SPkg : Prop where
  all : ∀ (p : Prg) (w : World), p.Ok w → Calls Tryz.prog 12 #[.agg #[.int .i64 p.ps, .slice p.A p.vs.length p.c, .slice p.B p.xs.length p.e]] w (MAll (pcheck p.ps p.vs p.xs) (msites p.xs) w)
  find : ∀ (A : Option Addr) (c : Nat) (L : List Mt) (d : Dlt) (w : World), MRow w A L → L.length ≤ c → (A = none → c = 0) → L.length ≤ 1000000 → d.Ok w → Calls Tryz.prog 23 #[.slice A L.length c, .agg #[.slice d.A d.p.length d.c, .int .i64 d.op, .int .i64 d.n]] w fun e w' => Below w.heap.size w w' ∧ ∃ k, e = .returned (.int .i64 k) ∧ FindOk L (d.p, d.op, d.n) k
  mutant : ∀ (p : Prg) (d : Dlt) (w : World), p.Ok w → d.Ok w → Calls Tryz.prog 16 #[.agg #[.int .i64 p.ps, .slice p.A p.vs.length p.c, .slice p.B p.xs.length p.e], .agg #[.slice d.A d.p.length d.c, .int .i64 d.op, .int .i64 d.n]] w (MEnds p d w)
/-- The document's example works. -/
def Works : Prop := ∀ w : World, Calls Tryz.prog 10 #[] w fun e w' => e = .returned (.bool true) ∧ Below w.heap.size w w'

theorem MAll.ok {e9 : Int} {M : List Mt} {w w' : World} {e : Ending} (h : MAll e9 M w e w') (h0 : e9 = 0) : Below w.heap.size w w' ∧ ∃ A c, e = .returned (.tuple #[.slice A M.length c, .int .i64 0]) ∧ M.length ≤ c ∧ (A = none → c = 0) ∧ MRow w' A M := by
  obtain ⟨hb, ⟨-, h⟩ | ⟨hn, -⟩⟩ := h
  · exact ⟨hb, h⟩
  · exact absurd h0 hn
theorem MAll.no {e9 : Int} {M : List Mt} {w w' : World} {e : Ending} (h : MAll e9 M w e w') (h0 : e9 ≠ 0) : Below w.heap.size w w' ∧ ∃ A c, e = .returned (.tuple #[.slice A 0 c, .int .i64 e9]) := by
  obtain ⟨hb, ⟨hn, -⟩ | ⟨-, h⟩⟩ := h
  · exact absurd hn h0
  · exact ⟨hb, h⟩
theorem mrow_nil (w : World) (A : Option Addr) : MRow w A [] := fun i m h => by simp at h

/-- What All comes to, in one: the mutants, none where something is wrong. -/
def mall (e9 : Int) (M : List Mt) : List Mt := if e9 = 0 then M else []
theorem MAll.one {e9 : Int} {M : List Mt} {w w' : World} {e : Ending} (h : MAll e9 M w e w') : Below w.heap.size w w' ∧ ∃ A c, e = .returned (.tuple #[.slice A (mall e9 M).length c, .int .i64 e9]) ∧ MRow w' A (mall e9 M) := by
  by_cases h0 : e9 = 0
  · obtain ⟨hb, A, c, h1, -, -, h2⟩ := h.ok h0
    exact ⟨hb, A, c, by rw [h1, h0]; rfl, by rw [h0]; exact h2⟩
  · obtain ⟨hb, A, c, h1⟩ := h.no h0
    refine ⟨hb, A, c, ?_, ?_⟩
    · rw [h1]; unfold mall; rw [if_neg h0]; rfl
    · unfold mall; rw [if_neg h0]; exact mrow_nil _ _
def mps (E ps : Int) : Int := if E = 0 then ps else 0
def mvs (E : Int) (vs : List Int) : List Int := if E = 0 then vs else []
def mxs (E : Int) (R : List Nd) : List Nd := if E = 0 then R else []
theorem MEndsE.one {E : Int} {R : List Nd} {ps : Int} {VA : Option Addr} {vs : List Int} {w w' : World} {e : Ending} (h : MEndsE E R ps VA vs w e w') :
    Below w.heap.size w w' ∧ ∃ A c B ce, e = .returned (.tuple #[.agg #[.int .i64 (mps E ps), .slice A (mvs E vs).length c, .slice B (mxs E R).length ce], .int .i64 E]) ∧ Prg.Ok ⟨mps E ps, A, c, mvs E vs, B, ce, mxs E R⟩ w' := by
  obtain ⟨hb, ⟨rfl, A, c, B, ce, h1, h2, -⟩ | ⟨h0, A, c, B, ce, h1, h2⟩⟩ := h
  · exact ⟨hb, A, c, B, ce, h1, h2⟩
  · refine ⟨hb, A, c, B, ce, ?_, ?_⟩
    · unfold mps mvs mxs; rw [if_neg h0, if_neg h0, if_neg h0]; exact h1
    · unfold mps mvs mxs; rw [if_neg h0, if_neg h0, if_neg h0]; exact h2
theorem MEndsE.ok {E : Int} {R : List Nd} {ps : Int} {VA : Option Addr} {vs : List Int} {w w' : World} {e : Ending} (h : MEndsE E R ps VA vs w e w') (h0 : E = 0) :
    Below w.heap.size w w' ∧ ∃ A c B ce, e = .returned (.tuple #[.agg #[.int .i64 ps, .slice A vs.length c, .slice B R.length ce], .int .i64 0]) ∧ Prg.Ok ⟨ps, A, c, vs, B, ce, R⟩ w' ∧ ∀ ad, A = some ad → VA = some ad ∨ w.heap.size ≤ ad.block := by
  obtain ⟨hb, ⟨-, h⟩ | ⟨hn, -⟩⟩ := h
  · exact ⟨hb, h⟩
  · exact absurd h0 hn

theorem ret_yes {b : Bool} (h : b = true) : Ending.returned (.bool b) = .returned (.bool true) := by rw [h]
/-- One delta that came in, as a row of one. -/
theorem min_one {w : World} {g : Nat} {d : Dlt} (hb : Blk w g 34 #[.slice d.A d.p.length d.c, .int .i64 d.op, .int .i64 d.n]) (hd : d.In w) : MIn w (some ⟨g, 0, none⟩) [(d.p, d.op, d.n)] := by
  intro i m hi
  have h0 : i = 0 := by
    have := (List.getElem?_eq_some_iff.1 hi).1
    simp at this
    exact this
  subst h0
  have hm : (d.p, d.op, d.n) = m := by simpa using hi
  subst hm
  refine ⟨⟨g, 0, none⟩, d.A, d.c, rfl, hb.lt, hd, ?_, ?_, ?_⟩
  · simpa [Addr.add] using hb.cell 0
  · simpa [Addr.add] using hb.cell 1
  · simpa [Addr.add] using hb.cell 2
theorem few_one {w : World} {g : Nat} {d : Dlt} (hb : Blk w g 34 #[.slice d.A d.p.length d.c, .int .i64 d.op, .int .i64 d.n]) (hd : d.In w) :
    Calls Tryz.prog 15 #[.slice (some ⟨g, 0, none⟩) 1 1] w fun e w' => e = .returned (.bool (decide (d.p.length ≤ 60))) ∧ w' = w := by
  have h := few_any (some ⟨g, 0, none⟩) 1 [(d.p, d.op, d.n)] w (min_one hb hd)
  have e : fewM [(d.p, d.op, d.n)] = decide (d.p.length ≤ 60) := by simp [fewM]
  rw [e] at h
  exact h
theorem few_prg {p : Prg} {w : World} (h : p.In w) (hf : (decide (p.xs.length ≤ 60) && decide (p.vs.length ≤ 20)) = true) : p.Ok w ∧ p.xs.length ≤ 60 := by
  simp only [Bool.and_eq_true, decide_eq_true_eq] at hf
  exact ⟨h.ok (by omega) (by omega), hf.1⟩

end Go.Proofs.YtofhgaioidfdmaaGreat.Sites
