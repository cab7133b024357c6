/-
  The reference of all mutants, walked: All, node by node, two loops.
-/
import Derived.Test.YtofhgaioidfdmaaGreatSitesRow
import Derived.Test.YtofhgaioidfdmaaGreatPathG
import Derived.Test.YtofhgaioidfdmaaGreatKindsG
import Derived.Test.YtofhgaioidfdmaaGreatCatG
import Derived.Deep.RegionHeld3
import Derived.Deep.DrawnRows
set_option linter.unusedVariables false
namespace Go.Proofs.YtofhgaioidfdmaaGreat.Sites
open Go.RowKit Mem _root_.Go.Proofs.YtofhgaioidfdmaaGreat.Arena _root_.Go.Proofs.YtofhgaioidfdmaaGreat.Delta _root_.Go.Proofs.YtofhgaioidfdmaaGreat.Path _root_.Go.Proofs.YtofhgaioidfdmaaGreat.Cat _root_.Go.Proofs.YtofhgaioidfdmaaGreat.Kinds
attribute [local go_sem ↓] Go.wp_at_zero Go.wp_at_succ

/-- What All comes to. -/
def MAll (e9 : Int) (M : List Mt) (w : World) (e : Ending) (w' : World) : Prop :=
  Below w.heap.size w w' ∧ ((e9 = 0 ∧ ∃ A c, e = .returned (.tuple #[.slice A M.length c, .int .i64 0]) ∧ M.length ≤ c ∧ (A = none → c = 0) ∧ MRow w' A M) ∨
    (e9 ≠ 0 ∧ ∃ A c, e = .returned (.tuple #[.slice A 0 c, .int .i64 e9])))
theorem pcheck_whole {ps : Int} {vs : List Int} {xs : List Nd} (h : pcheck ps vs xs = 0) : Whole xs ∧ xs.length ≤ 200 := by
  obtain ⟨h1, -⟩ := pcheck_zero h
  obtain ⟨h2, h3⟩ := acheck_zero h1
  have h4 := aend_some (l := xs) (a := 0) (n := xs.length) (by rw [List.drop_zero]; exact h3)
  refine ⟨?_, h2⟩
  unfold Whole
  rw [show (0 : Int) = ((0 : Nat) : Int) from rfl, h4]
  omega
theorem mat_step {xs : List Nd} {a j : Nat} {op n : Int} (h : (chs xs a)[j]? = some (op, n)) : (mat xs a).take (j + 1) = (mat xs a).take j ++ [(ppath xs a, op, n)] :=
  take_snoc _ j _ (by unfold mat; rw [List.getElem?_map, h]; rfl)

end Go.Proofs.YtofhgaioidfdmaaGreat.Sites
