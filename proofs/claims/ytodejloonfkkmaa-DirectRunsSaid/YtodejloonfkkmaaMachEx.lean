/-
  The document's examples, plain: two programs, run.
-/
import Derived.Test.YtodejloonfkkmaaMachK
set_option linter.unusedVariables false
namespace Go.Proofs.Ytodejloonfkkmaa.Mach
open _root_.Go.Proofs.Ytodejloonfkkmaa.Arena _root_.Go.Proofs.Ytodejloonfkkmaa.Kinds

def X5 : List Nd := [(20, 1), (25, 0), (7, 0), (3, 0), (1, 1)]
theorem x5w : scan 1 X5 = some X5.length := by simp [X5, scan_cons, scan_0, ar, asks]
theorem okind_whole' {vs : List Int} {l : List Nd} (h : scan 1 l = some l.length) : okind vs l 0 = ((fold (kd vs) l).headD (-1, 0)).1 := by unfold okind val; rw [whole_part h]
theorem mean_whole {l : List Nd} (h : scan 1 l = some l.length) : mean l 0 = (fold nodeM l).headD (pureM 0) := by unfold mean val; rw [whole_part h]
theorem x5k : okind [0] X5 0 = 2 := by rw [okind_whole' x5w]; decide +kernel
theorem x5_right {al : Nat} {f : Int} (ha : (al : Int) = 1) (h0 : 0 ≤ f) (h1 : f ≤ 10000) : mcheck 1 [0] X5 al f = 0 := mcheck_zero.2 ⟨by decide +kernel, x5w, by decide, x5k, ha, h0, h1⟩
theorem x5_none : mcheck 1 [0] X5 0 4 = 18 := by
  unfold mcheck
  rw [whole_iff.2 x5w, x5k]
  decide +kernel
theorem x5_run : (rrun 1 [0] X5 [4] 5).kind = 0 ∧ (rrun 1 [0] X5 [4] 5).value = 5 ∧ (rrun 1 [0] X5 [4] 5).steps = 5 ∧ (rrun 1 [0] X5 [4] 5).ev = [] := by
  rw [rrun_ok (x5_right rfl (by decide) (by decide))]
  unfold mrun
  rw [mean_whole x5w]
  decide +kernel
end Go.Proofs.Ytodejloonfkkmaa.Mach
