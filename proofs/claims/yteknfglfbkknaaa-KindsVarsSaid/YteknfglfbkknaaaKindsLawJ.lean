/-
  The laws of layer 9, walked on what the package's functions come to: a variable more, all ways.
-/
import Derived.Test.YteknfglfbkknaaaKindsLawE
import Derived.Test.YteknfglfbkknaaaKindsLawI
namespace Go.Proofs.Yteknfglfbkknaaa.Kinds
open Go.RowKit Mem _root_.Go.Proofs.Yteknfglfbkknaaa.Arena
set_option linter.unusedVariables false

theorem kindsVars_of (C : Pkg) (p : Prg) (t : Int) (wf : (Lit.int .i64 t).wf = true) (w : World) (hp : p.In w) :
    Calls Try.prog 7 #[.agg #[.int .i64 p.ps, .slice p.A p.vs.length p.c, .slice p.B p.xs.length p.e], .int .i64 t] w fun e w' => e = .returned (.bool true) ∧ Below w.heap.size w w' := by
  obtain ⟨ps, A, c, vs, B, ce, xs⟩ := p
  simp only
  cases hf : fewB ⟨ps, A, c, vs, B, ce, xs⟩ with
  | false => exact vars_idle C ps A c vs B ce xs t w hp (.inl hf)
  | true =>
    by_cases hc : pcheck ps vs xs = 0
    rotate_left
    · exact vars_idle C ps A c vs B ce xs t w hp (.inr (.inl hc))
    by_cases h0 : t < 0
    · exact vars_idle C ps A c vs B ce xs t w hp (.inr (.inr (.inl h0)))
    by_cases h1 : 9 < t
    · exact vars_idle C ps A c vs B ce xs t w hp (.inr (.inr (.inr h1)))
    cases vs with
    | nil => exact vars_none C ps A c B ce xs t w hp hf hc h0 h1
    | cons v vs =>
      obtain ⟨ad5, hA, -⟩ := hp.vars 0 v rfl
      simp only at hA
      subst hA
      exact vars_some C ps ad5 c (v :: vs) B ce xs t w hp hf hc h0 h1 (by simp)

end Go.Proofs.Yteknfglfbkknaaa.Kinds
