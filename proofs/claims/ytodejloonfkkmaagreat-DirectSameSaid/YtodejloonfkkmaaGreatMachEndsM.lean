/-
  The places behind nodes, found from the right (plain).
-/
import Derived.Test.YtodejloonfkkmaaGreatMachSteps
set_option linter.unusedVariables false
namespace Go.Proofs.YtodejloonfkkmaaGreat.Mach
open _root_.Go.Proofs.YtodejloonfkkmaaGreat.Arena _root_.Go.Proofs.YtodejloonfkkmaaGreat.Kinds

/-- So many parts on. -/
def jmp (l : List Nd) : Nat → Nat → Nat
  | 0, k => k
  | A + 1, k => jmp l A (behind l k)
/-- The ends of so many parts from a place on, the first one's last. -/
def eFrom (l : List Nd) : Nat → Nat → List Int
  | 0, _ => []
  | c + 1, k => eFrom l c (behind l k) ++ [((behind l k : Nat) : Int)]
section
variable {l : List Nd}
theorem eFrom_len : ∀ (c k : Nat), (eFrom l c k).length = c
  | 0, k => rfl
  | c + 1, k => by rw [eFrom, List.length_append, eFrom_len c]; rfl
theorem eFrom_add : ∀ (A d k : Nat), eFrom l (A + d) k = eFrom l d (jmp l A k) ++ eFrom l A k
  | 0, d, k => by rw [Nat.zero_add, jmp, eFrom, List.append_nil]
  | A + 1, d, k => by
    rw [show A + 1 + d = (A + d) + 1 by omega, eFrom, eFrom_add A d, jmp, eFrom, List.append_assoc]
theorem eFrom_first : ∀ (A k : Nat), (eFrom l (A + 1) k)[0]? = some ((jmp l (A + 1) k : Nat) : Int)
  | 0, k => rfl
  | A + 1, k => by
    rw [eFrom, List.getElem?_append_left (by rw [eFrom_len]; omega), eFrom_first A]; rfl
theorem jmp_scan : ∀ (A a m : Nat), scan A (l.drop a) = some m → jmp l A a = a + m
  | 0, a, m, h => by
    rw [scan_0] at h
    have := Option.some.inj h
    rw [jmp]; omega
  | A + 1, a, m, h => by
    rw [Nat.add_comm, scan_add] at h
    cases h1 : scan 1 (l.drop a) with
    | none => rw [h1] at h; cases h
    | some n1 =>
      rw [h1] at h
      simp only [Option.bind_some, Option.map_eq_some_iff, List.drop_drop] at h
      obtain ⟨m2, h2, rfl⟩ := h
      have hb : behind l a = a + n1 := by unfold behind; rw [aend_some h1]; omega
      rw [jmp, hb, jmp_scan A (a + n1) m2 h2]; omega
end
/-- A whole row of parts is one from each place on. -/
theorem scan_tail : ∀ (X : List Nd) (c k : Nat), scan c X = some X.length → k ≤ X.length → ∃ c', scan c' (X.drop k) = some (X.length - k)
  | X, c, 0, h, _ => ⟨c, by rw [List.drop_zero, Nat.sub_zero]; exact h⟩
  | [], c, k + 1, h, hk => absurd hk (by simp)
  | x :: X, 0, k + 1, h, hk => by rw [scan_0] at h; have := Option.some.inj h; simp at this
  | x :: X, c + 1, k + 1, h, hk => by
    rw [scan_cons] at h
    split at h
    · cases h
    · obtain ⟨m, hm, e⟩ := Option.map_eq_some_iff.1 h
      have hm2 : m = X.length := by simp at e; exact e
      subst hm2
      obtain ⟨c', hc'⟩ := scan_tail X _ k hm (by simpa using hk)
      exact ⟨c', by rw [List.drop_succ_cons, hc', List.length_cons]; congr 1; omega⟩
/-- It is one row in one way. -/
theorem scan_one : ∀ (X : List Nd) (c c' : Nat), scan c X = some X.length → scan c' X = some X.length → c = c'
  | [], 0, 0, _, _ => rfl
  | [], c + 1, _, h, _ => by rw [scan_nil] at h; cases h
  | [], 0, c' + 1, _, h => by rw [scan_nil] at h; cases h
  | x :: X, 0, _, h, _ => by rw [scan_0] at h; have := Option.some.inj h; simp at this
  | x :: X, _ + 1, 0, _, h => by rw [scan_0] at h; have := Option.some.inj h; simp at this
  | x :: X, c + 1, c' + 1, h, h' => by
    rw [scan_cons] at h h'
    split at h
    · cases h
    · next q =>
      rw [if_neg q] at h'
      obtain ⟨m, hm, e⟩ := Option.map_eq_some_iff.1 h
      obtain ⟨m', hm', e'⟩ := Option.map_eq_some_iff.1 h'
      have hm2 : m = X.length := by simp at e; exact e
      have hm2' : m' = X.length := by simp at e'; exact e'
      subst hm2
      subst hm2'
      have := scan_one X _ _ hm hm'
      omega
/-- A round: the node at k, those from k + 1 on being told. -/
theorem ends_round {l : List Nd} (hw : scan 1 l = some l.length) {k c : Nat} (hk : k < l.length) (hc : scan c (l.drop (k + 1)) = some (l.length - (k + 1))) :
    ∃ x A, l[k]? = some x ∧ ar x = ((A : Nat) : Int) ∧ A ≤ c ∧ IsNode l k ∧ (A = 0 → behind l k = k + 1) ∧ (∀ A', A = A' + 1 → (eFrom l c (k + 1))[c - A]? = some ((behind l k : Nat) : Int)) ∧
      (eFrom l c (k + 1)).take (c - A) ++ [((behind l k : Nat) : Int)] = eFrom l (c - A + 1) k ∧ scan (c - A + 1) (l.drop k) = some (l.length - k) := by
  obtain ⟨c', hc'⟩ := scan_tail l 1 k hw (by omega)
  obtain ⟨x, hx⟩ : ∃ x, l[k]? = some x := ⟨_, List.getElem?_eq_getElem hk⟩
  have hd : l.drop k = x :: l.drop (k + 1) := by
    obtain ⟨hl, e⟩ := List.getElem?_eq_some_iff.1 hx
    rw [← e]; exact List.drop_eq_getElem_cons hl
  cases c' with
  | zero => rw [scan_0] at hc'; have := Option.some.inj hc'; omega
  | succ c' =>
    have h0 : 0 ≤ ar x := by
      by_cases q : ar x < 0
      · rw [hd, scan_bad q] at hc'; cases hc'
      · omega
    obtain ⟨A, hA⟩ := Int.eq_ofNat_of_zero_le h0
    have hc2 := hc'
    rw [hd, scan_good h0, hA, Int.toNat_natCast] at hc'
    obtain ⟨m, hm, e⟩ := Option.map_eq_some_iff.1 hc'
    have hm2 : m = l.length - (k + 1) := by omega
    rw [hm2] at hm
    have hlen : (l.drop (k + 1)).length = l.length - (k + 1) := by rw [List.length_drop]
    have hcc : c' + A = c := scan_one _ _ _ (by rw [hlen]; exact hm) (by rw [hlen]; exact hc)
    have hn : IsNode l k := by
      have := hc2
      rw [show c' + 1 = 1 + c' by omega, scan_add] at this
      cases h1 : scan 1 (l.drop k) with
      | none => rw [h1] at this; cases this
      | some n1 => exact ⟨n1, h1⟩
    obtain ⟨n1, hn1⟩ := hn
    have hb : behind l k = k + n1 := by unfold behind; rw [aend_some hn1]; omega
    have hj : jmp l A (k + 1) = behind l k := by
      rw [hd, scan_good h0, hA, Int.toNat_natCast, Nat.zero_add] at hn1
      obtain ⟨m1, hm1, e1⟩ := Option.map_eq_some_iff.1 hn1
      rw [jmp_scan A (k + 1) m1 hm1, hb]; omega
    refine ⟨x, A, hx, hA, by omega, ⟨n1, hn1⟩, fun e => by subst e; rw [← hj]; rfl, fun A' e => ?_, ?_, ?_⟩
    · subst e
      rw [show c = (A' + 1) + c' by omega, eFrom_add, hj, List.getElem?_append_right (by rw [eFrom_len]; omega), eFrom_len, show A' + 1 + c' - (A' + 1) - c' = 0 by omega, eFrom_first, hj]
    · rw [show c = A + c' by omega, eFrom_add, hj, show A + c' - A = c' by omega, List.take_append_of_le_length (by rw [eFrom_len]; exact Nat.le_refl _), List.take_of_length_le (by rw [eFrom_len]; exact Nat.le_refl _)]
      rfl
    · rw [show c - A + 1 = c' + 1 by omega]
      exact hc2
end Go.Proofs.YtodejloonfkkmaaGreat.Mach
