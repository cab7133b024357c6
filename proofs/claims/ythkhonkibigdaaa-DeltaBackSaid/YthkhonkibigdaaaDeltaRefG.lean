/-
  The reference of deltas, walked: may one be put; its bytes.
-/
import Derived.Test.YthkhonkibigdaaaDeltaRefA
import Derived.Test.YthkhonkibigdaaaCodeG
import Derived.Deep.RegionHeld3
import Derived.Deep.DrawnRows
namespace Go.Proofs.Ythkhonkibigdaaa.Delta
open Go.RowKit Leb Mem Wire _root_.Go.Proofs.Ythkhonkibigdaaa.Arena _root_.Go.Proofs.Ythkhonkibigdaaa.Kinds _root_.Go.Proofs.Ythkhonkibigdaaa.Code
set_option linter.unusedVariables false
attribute [local go_sem ↓] Go.wp_at_zero Go.wp_at_succ

def rightB (p : List Int) (op : Int) : Bool := p.all (fun k => bt k 0 199) && (decide (p.length ≤ 30) && bt op 1 7)
theorem right_iff {p : List Int} {op : Int} : rightB p op = true ↔ Right p op := by
  unfold rightB bt
  rw [Bool.and_eq_true, Bool.and_eq_true, List.all_eq_true]
  simp only [decide_eq_true_eq]
  constructor
  · rintro ⟨h1, h2, h3⟩
    exact ⟨h2, h1, h3.1, h3.2⟩
  · rintro ⟨h1, h2, h3, h4⟩
    exact ⟨h2, h1, h3, h4⟩
theorem all_snoc (p : List Int) (k : Nat) (x : Int) (h : p[k]? = some x) (f : Int → Bool) : (p.take (k + 1)).all f = ((p.take k).all f && f x) := by
  rw [List.take_add_one, h]; simp

theorem path_snoc (p : List Int) (k : Nat) (x : Int) (h : p[k]? = some x) : pathb (p.take (k + 1)) = pathb (p.take k) ++ lput x.toNat := by
  unfold pathb
  rw [List.take_add_one, h]; simp
theorem path_len {p : List Int} (hp : ∀ k ∈ p, 0 ≤ k ∧ k ≤ 199) : (pathb p).length ≤ 10 * p.length := by
  induction p with
  | nil => simp [pathb]
  | cons x p ih =>
    have h := ih (fun k hk => hp k (List.mem_cons_of_mem _ hk))
    have := lput_len10 (n := x.toNat) (by have := hp x (List.mem_cons_self ..); omega)
    unfold pathb at *
    rw [List.flatMap_cons, List.length_append, List.length_cons]
    omega

end Go.Proofs.Ythkhonkibigdaaa.Delta
