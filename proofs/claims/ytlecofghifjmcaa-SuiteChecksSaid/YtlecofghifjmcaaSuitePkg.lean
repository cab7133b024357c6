/-
  What the functions of tests come to.
-/
import Derived.Test.YtlecofghifjmcaaSuiteRefC
set_option linter.unusedVariables false
namespace Go.Proofs.Ytlecofghifjmcaa.Suite
open Go.RowKit Leb Mem Wire Zig _root_.Go.Proofs.Ytlecofghifjmcaa.Arena _root_.Go.Proofs.Ytlecofghifjmcaa.Delta _root_.Go.Proofs.Ytlecofghifjmcaa.Path _root_.Go.Proofs.Ytlecofghifjmcaa.Cat _root_.Go.Proofs.Ytlecofghifjmcaa.Code

/-- Tests that came from somewhere, and are not very many. -/
structure TArg (w : World) (A : Option Addr) (c : Nat) (ts : List (List Int)) : Prop where
  row : TRow w A ts
  cap : ts.length ≤ c
  none : A = none → c = 0
  n : ts.length ≤ 1000000
  m : ∀ t ∈ ts, t.length ≤ 1000000
theorem TArg.at {w w' : World} {A : Option Addr} {c : Nat} {ts : List (List Int)} (h : TArg w A c ts) (hb : Below w.heap.size w w') : TArg w' A c ts := ⟨h.row.at hb, h.cap, h.none, h.n, h.m⟩
theorem targ_nil (w : World) : TArg w none 0 [] := ⟨TRow.nil _ _, Nat.le_refl _, fun _ => rfl, by simp, fun t h => by cases h⟩
/-- What the package's functions come to. -/
structure SuPkg : Prop where
  check : ∀ (n : Int) (A : Option Addr) (c : Nat) (ts : List (List Int)) (f : Int) (w : World), TArg w A c ts → Calls Try.prog 10 #[.int .i64 n, .slice A ts.length c, .int .i64 f] w fun e w' => e = .returned (.int .i64 (scheck n ts f)) ∧ Below w.heap.size w w'
  same : ∀ (A : Option Addr) (c : Nat) (ts : List (List Int)) (A' : Option Addr) (c' : Nat) (us : List (List Int)) (w : World), TArg w A c ts → TArg w A' c' us → Calls Try.prog 12 #[.slice A ts.length c, .slice A' us.length c'] w fun e w' => e = .returned (.bool (decide (ts = us))) ∧ Below w.heap.size w w'
  put : ∀ (A : Option Addr) (c : Nat) (ts : List (List Int)) (f : Int) (w : World), TArg w A c ts → T64 ts → N64 f → Calls Try.prog 13 #[.slice A ts.length c, .int .i64 f] w fun e w' => e = .returned (.tuple #[.string ⟨(sputE ts f).toArray⟩, .int .i64 (serr ts f)]) ∧ Below w.heap.size w w'
  get : ∀ (S : ByteArray) (w : World), S.size ≤ 1000000 → Calls Try.prog 15 #[.string S] w (SEnds S w)
/-- The document's example works. -/
def Works : Prop := ∀ w : World, Calls Try.prog 7 #[] w fun e w' => e = .returned (.bool true) ∧ Below w.heap.size w w'

theorem t4_len (S : ByteArray) : (t4 S).1.length ≤ 21 := by unfold t4; rw [rrows_len]; omega
theorem t4_wid (S : ByteArray) : ∀ t ∈ (t4 S).1, t.length ≤ 13 := fun t h => by
  have := rrows_wid _ _ _ _ t h
  omega
/-- The tests of bytes, and the fuel; none where there are none. -/
noncomputable def gts (S : ByteArray) : List (List Int) := open Classical in if sfits S then (t4 S).1 else []
noncomputable def gf (S : ByteArray) : Int := open Classical in if sfits S then (t1 S).2 else 0
noncomputable def ge (S : ByteArray) : Int := open Classical in if sfits S then 0 else 12
theorem SEnds.one {S : ByteArray} {w w' : World} {e : Ending} (h : SEnds S w e w') : Below w.heap.size w w' ∧ ∃ A c, e = .returned (.tuple #[.slice A (gts S).length c, .int .i64 (gf S), .int .i64 (ge S)]) ∧ TRow w' A (gts S) := by
  obtain ⟨hb, ⟨hf, A, c, h1, h2, h3, h4⟩ | ⟨hf, A, c, h1⟩⟩ := h
  · refine ⟨hb, A, c, ?_, ?_⟩
    · unfold gts gf ge; rw [if_pos hf, if_pos hf, if_pos hf]; exact h1
    · unfold gts; rw [if_pos hf]; exact h4
  · refine ⟨hb, A, c, ?_, ?_⟩
    · unfold gts gf ge; rw [if_neg hf, if_neg hf, if_neg hf]; exact h1
    · unfold gts; rw [if_neg hf]; exact TRow.nil _ _
theorem gts_len (S : ByteArray) : (gts S).length ≤ 21 := by
  unfold gts
  split
  · exact t4_len S
  · simp
theorem gts_wid (S : ByteArray) : ∀ t ∈ (gts S), t.length ≤ 13 := by
  unfold gts
  split
  · exact t4_wid S
  · intro t h; cases h
theorem SEnds.yes {S : ByteArray} {w w' : World} {e : Ending} (h : SEnds S w e w') (hf : sfits S) : Below w.heap.size w w' ∧ ∃ A c, e = .returned (.tuple #[.slice A (t4 S).1.length c, .int .i64 (t1 S).2, .int .i64 0]) ∧ TArg w' A c (t4 S).1 := by
  obtain ⟨hb, ⟨-, A, c, h1, h2, h3, h4⟩ | ⟨hn, -⟩⟩ := h
  · exact ⟨hb, A, c, h1, h4, h2, h3, by have := t4_len S; omega, fun t ht => by have := t4_wid S t ht; omega⟩
  · exact absurd hf hn
theorem SEnds.no {S : ByteArray} {w w' : World} {e : Ending} (h : SEnds S w e w') (hf : ¬ sfits S) : Below w.heap.size w w' ∧ ∃ A c, e = .returned (.tuple #[.slice A 0 c, .int .i64 0, .int .i64 12]) := by
  obtain ⟨hb, ⟨hy, -⟩ | ⟨-, h⟩⟩ := h
  · exact absurd hy hf
  · exact ⟨hb, h⟩
theorem targ_of {w : World} {A : Option Addr} {c : Nat} {ts : List (List Int)} (h : TRow w A ts) (hc : ts.length ≤ c) (hA : A = none → c = 0) (hf : fewT ts = true) : TArg w A c ts := by
  obtain ⟨h1, h2⟩ := fewT_len hf
  exact ⟨h, hc, hA, by omega, fun t ht => by have := h2 t ht; omega⟩

end Go.Proofs.Ytlecofghifjmcaa.Suite
