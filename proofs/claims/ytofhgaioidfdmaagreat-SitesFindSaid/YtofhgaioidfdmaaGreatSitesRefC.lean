/-
  The reference of all mutants, walked: is a delta a mutant's; a program that is changed by one.
-/
import Derived.Test.YtofhgaioidfdmaaGreatSitesRefA
import Derived.Test.YtofhgaioidfdmaaGreatSitesRefB
import Derived.Test.YtofhgaioidfdmaaGreatDeltaR
import Derived.Test.YtofhgaioidfdmaaGreatDeltaO
set_option linter.unusedVariables false
namespace Go.Proofs.YtofhgaioidfdmaaGreat.Sites
open Go.RowKit Mem _root_.Go.Proofs.YtofhgaioidfdmaaGreat.Arena _root_.Go.Proofs.YtofhgaioidfdmaaGreat.Delta _root_.Go.Proofs.YtofhgaioidfdmaaGreat.Path _root_.Go.Proofs.YtofhgaioidfdmaaGreat.Cat _root_.Go.Proofs.YtofhgaioidfdmaaGreat.Kinds
attribute [local go_sem ↓] Go.wp_at_zero Go.wp_at_succ

/-- Does a path lead to a node at which the catalogue lets it? -/
def mlet (xs : List Nd) (q : List Int) (op n : Int) : Bool := decide (0 ≤ pfind xs q) && isv xs (pfind xs q) op n
/-- Is it a mutant's? -/
def mis (ps : Int) (vs : List Int) (xs : List Nd) (q : List Int) (op n : Int) : Bool := decide (pcheck ps vs xs = 0) && mlet xs q op n

/-- What is wrong; what it becomes. -/
def merr (ps : Int) (vs : List Int) (xs : List Nd) (q : List Int) (op n : Int) : Int := if pcheck ps vs xs ≠ 0 then pcheck ps vs xs else if mlet xs q op n = true then 0 else 17
/-- A program that is changed by one of all, or what is wrong. -/
def MEndsE (E : Int) (R : List Nd) (ps : Int) (VA : Option Addr) (vs : List Int) (w : World) (e : Ending) (w' : World) : Prop :=
  Below w.heap.size w w' ∧
  ((E = 0 ∧ ∃ A c B ce, e = .returned (.tuple #[.agg #[.int .i64 ps, .slice A vs.length c, .slice B R.length ce], .int .i64 0]) ∧ Prg.Ok ⟨ps, A, c, vs, B, ce, R⟩ w' ∧ ∀ ad, A = some ad → VA = some ad ∨ w.heap.size ≤ ad.block) ∨
   (E ≠ 0 ∧ ∃ A c B ce, e = .returned (.tuple #[.agg #[.int .i64 0, .slice A 0 c, .slice B 0 ce], .int .i64 E]) ∧ Prg.Ok ⟨0, A, c, [], B, ce, []⟩ w'))
def MEnds (p : Prg) (d : Dlt) (w : World) (e : Ending) (w' : World) : Prop := MEndsE (merr p.ps p.vs p.xs d.p d.op d.n) (anew p.xs d.p d.op d.n) p.ps p.A p.vs w e w'

theorem mis_apply {ps : Int} {vs : List Int} {xs : List Nd} {q : List Int} {op n : Int} (h : mis ps vs xs q op n = true) : aerr xs q op n = 0 ∧ xs.length ≤ 200 ∧ pcheck ps vs xs = 0 ∧ (q, op, n) ∈ msites xs := by
  unfold mis mlet at h
  simp only [Bool.and_eq_true, decide_eq_true_eq] at h
  obtain ⟨h1, h2, h3⟩ := h
  obtain ⟨hw, hl⟩ := pcheck_whole h1
  have hm := (sites_mem hw).2 ⟨h2, h3⟩
  obtain ⟨a, m, -, -, -, -, h4, -⟩ := sites_apply hw hm
  exact ⟨h4, hl, h1, hm⟩

end Go.Proofs.YtofhgaioidfdmaaGreat.Sites
