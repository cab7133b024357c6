/-
  The document's examples, plain: two programs, run.
-/
import Derived.Test.YtobndhiihcejaaaMachK
set_option linter.unusedVariables false
namespace Go.Proofs.Ytobndhiihcejaaa.Mach
open _root_.Go.Proofs.Ytobndhiihcejaaa.Arena _root_.Go.Proofs.Ytobndhiihcejaaa.Kinds

def X5 : List Nd := [(20, 1), (25, 0), (7, 0), (3, 0), (1, 1)]
def X3 : List Nd := [(20, 1), (21, 0), (1, 7)]
theorem x5w : scan 1 X5 = some X5.length := by simp [X5, scan_cons, scan_0, ar, asks]
theorem x3w : scan 1 X3 = some X3.length := by simp [X3, scan_cons, scan_0, ar, asks]
theorem okind_whole' {vs : List Int} {l : List Nd} (h : scan 1 l = some l.length) : okind vs l 0 = ((fold (kd vs) l).headD (-1, 0)).1 := by unfold okind val; rw [whole_part h]
theorem mean_whole {l : List Nd} (h : scan 1 l = some l.length) : mean l 0 = (fold nodeM l).headD (pureM 0) := by unfold mean val; rw [whole_part h]
theorem x5k : okind [0] X5 0 = 2 := by rw [okind_whole' x5w]; decide +kernel
theorem x3k : okind [0] X3 0 = 2 := by rw [okind_whole' x3w]; decide +kernel
theorem x5_right {al : Nat} {f : Int} (ha : (al : Int) = 1) (h0 : 0 ≤ f) (h1 : f ≤ 10000) : mcheck 1 [0] X5 al f = 0 := mcheck_zero.2 ⟨by decide +kernel, x5w, by decide, x5k, ha, h0, h1⟩
theorem x3_right {f : Int} (h0 : 0 ≤ f) (h1 : f ≤ 10000) : mcheck 0 [0] X3 0 f = 0 := mcheck_zero.2 ⟨by decide +kernel, x3w, by decide, x3k, rfl, h0, h1⟩
theorem x5_none : mcheck 1 [0] X5 0 4 = 18 := by
  unfold mcheck
  rw [whole_iff.2 x5w, x5k]
  decide +kernel
theorem x5_fuel : mcheck 1 [0] X5 1 (-1) = 19 := by
  unfold mcheck
  rw [whole_iff.2 x5w, x5k]
  decide +kernel
theorem x0_none : mcheck 0 [] [] 0 4 = 23 := by
  unfold mcheck
  rw [if_pos]
  right
  have h := aend_none (l := []) (a := 0) (by rw [List.drop_nil]; exact scan_nil 0)
  rw [show ((0 : Nat) : Int) = 0 from rfl] at h
  rw [h]
  decide
theorem x5_run : (rrun 1 [0] X5 [4] 5).kind = 0 ∧ (rrun 1 [0] X5 [4] 5).value = 5 ∧ (rrun 1 [0] X5 [4] 5).steps = 5 ∧ (rrun 1 [0] X5 [4] 5).ev = [] := by
  rw [rrun_ok (x5_right rfl (by decide) (by decide))]
  unfold mrun
  rw [mean_whole x5w]
  decide +kernel
theorem x3_run : (rrun 0 [0] X3 [] 9).kind = 3 ∧ (rrun 0 [0] X3 [] 9).value = 0 ∧ (rrun 0 [0] X3 [] 9).steps = 3 ∧ (rrun 0 [0] X3 [] 9).ev = [(0, -1, 7)] := by
  rw [rrun_ok (x3_right (by decide) (by decide))]
  unfold mrun
  rw [mean_whole x3w]
  decide +kernel

end Go.Proofs.Ytobndhiihcejaaa.Mach
