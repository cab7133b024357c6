/-
  The laws of layer 16, walked on what the package's functions come to: what a program does is just what the document says.
-/
import Derived.Test.YtodejloonfkkmaaMachK
set_option linter.unusedVariables false
set_option linter.unusedSimpArgs false
namespace Go.Proofs.Ytodejloonfkkmaa.Mach
open Go.RowKit Mem _root_.Go.Proofs.Ytodejloonfkkmaa.Arena _root_.Go.Proofs.Ytodejloonfkkmaa.Kinds _root_.Go.Proofs.Ytodejloonfkkmaa.Path _root_.Go.Proofs.Ytodejloonfkkmaa.Cat _root_.Go.Proofs.Ytodejloonfkkmaa.Suite _root_.Go.Proofs.Ytodejloonfkkmaa.Delta
attribute [local go_sem ↓] Go.wp_at_zero Go.wp_at_succ

/-- Is it so small that it is looked at? -/
def mfew (p : Prg) (al : Nat) (f : Int) : Bool := (decide (p.xs.length ≤ 60) && decide (p.vs.length ≤ 20)) && (decide (al ≤ 40) && (decide (f ≤ 400) || decide (10000 < f)))
theorem mfew_ok {p : Prg} {al : Nat} {f : Int} (h : mfew p al f = true) : p.vs.length ≤ 20 ∧ p.xs.length ≤ 60 ∧ al ≤ 40 ∧ (f ≤ 400 ∨ 10000 < f) := by
  unfold mfew at h
  rw [Bool.and_eq_true, Bool.and_eq_true, Bool.and_eq_true, Bool.or_eq_true] at h
  simp only [decide_eq_true_eq] at h
  exact ⟨h.1.2, h.1.1, h.2.1, h.2.2⟩
/-- Run's end, its value laid open. -/
def RunEnds' (p : Prg) (args : List Int) (f : Int) (s : St) (E : Int) (w : World) (e : Ending) (w' : World) : Prop :=
  Below w.heap.size w w' ∧ ∃ A c, e = .returned (.tuple #[.agg #[.int .i64 s.kind, .int .i64 s.value, .int .i64 s.steps, .slice A s.ev.length c], .int .i64 E]) ∧ (rn A c s).Ok w'
theorem RunEnds.open (p : Prg) (args : List Int) (f : Int) (w : World) (e : Ending) (w' : World) (h : RunEnds p args f w e w') : RunEnds' p args f (rrun p.ps p.vs p.xs args f) (mcheck p.ps p.vs p.xs args.length f) w e w' := h
/-- The blocks that a law's run lies in. -/
theorem blk4 {W : World} {g : Nat} {t : TypeId} {a b c d : Value} (h : Blk W g t #[a, b, c, d]) : W.cell? ⟨g, 0, none⟩ = some a ∧ W.cell? ⟨g, 1, none⟩ = some b ∧ W.cell? ⟨g, 2, none⟩ = some c ∧ W.cell? ⟨g, 3, none⟩ = some d := ⟨h.cell 0, h.cell 1, h.cell 2, h.cell 3⟩

end Go.Proofs.Ytodejloonfkkmaa.Mach
