/-
  The reference of deltas, walked: a body that is changed.
-/
import Derived.Test.YthkhonkibigdaaaGreatDeltaRefC
import Derived.Test.YthkhonkibigdaaaGreatArenaH
import Derived.Deep.RegionHeld3
import Derived.Deep.DrawnRows
namespace Go.Proofs.YthkhonkibigdaaaGreat.Delta
open Go.RowKit Mem _root_.Go.Proofs.YthkhonkibigdaaaGreat.Arena _root_.Go.Proofs.YthkhonkibigdaaaGreat.Path
set_option linter.unusedVariables false
attribute [local go_sem ↓] Go.wp_at_zero Go.wp_at_succ

theorem dmay_op {t op v : Int} (h : dmay t op v = true) : op = 1 ∨ op = 2 ∨ op = 3 ∨ op = 4 ∨ op = 5 ∨ op = 6 ∨ op = 7 := by
  rcases ops_split op with q | q | q | q | q | q | q | q
  all_goals try omega
  rw [dmay_no q] at h
  cases h
/-- The first kid of a Return. -/
theorem ret_kid {l : List Nd} {a n : Nat} {x : Nd} (h : scan 1 (l.drop a) = some n) (hx : l[a]? = some x) {v : Int} (hm : dmay x.1 7 v = true) : ∃ n1, scan 1 (l.drop (a + 1)) = some n1 ∧ a + 1 + n1 ≤ l.length := by
  have ha : a < l.length := (List.getElem?_eq_some_iff.1 hx).1
  have hm' : x.1 = 25 := by
    have : dmay x.1 7 v = decide (x.1 = 25) := rfl
    rw [this, decide_eq_true_eq] at hm
    exact hm
  have hd : l.drop a = x :: l.drop (a + 1) := by
    rw [List.drop_eq_getElem_cons ha]
    rw [List.getElem?_eq_getElem ha] at hx
    rw [Option.some.inj hx]
  have har : 0 ≤ ar x := by
    by_cases c : ar x < 0
    · rw [hd, show (1 : Nat) = 0 + 1 from rfl, scan_bad c] at h; cases h
    · omega
  have ha1 : ar x = 1 := by
    unfold ar at har ⊢
    rw [hm'] at har ⊢
    rw [if_neg (by decide)] at har ⊢
    split
    · rename_i c; rw [if_pos c] at har; omega
    · unfold asks; simp
  rw [hd, show (1 : Nat) = 0 + 1 from rfl, scan_good har, ha1, Option.map_eq_some_iff] at h
  obtain ⟨n1, h1, rfl⟩ := h
  have h1' : scan 1 (l.drop (a + 1)) = some n1 := h1
  have hl1 := scan_le _ _ _ h1'
  rw [List.length_drop] at hl1
  exact ⟨n1, h1', by omega⟩

end Go.Proofs.YthkhonkibigdaaaGreat.Delta
