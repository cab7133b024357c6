/-
  Plain facts on nodes: whatever is told of a node by itself and by what is told of its kids, is told by the part alone; a part that tells the same may stand instead. No program is met here.
-/
import Derived.Test.YteknfglfbkknaaaArenaMath
namespace Go.Proofs.Yteknfglfbkknaaa.Arena

section
variable {β : Type} (f : Nd → List β → β) (d : β)

/-- What is told of the nodes that stand side by side, the first one first. -/
def fold : List Nd → List β
  | [] => []
  | x :: X => f x ((fold X).take (ar x).toNat) :: (fold X).drop (ar x).toNat
theorem fold_cons (x : Nd) (X : List Nd) : fold f (x :: X) = f x ((fold f X).take (ar x).toNat) :: (fold f X).drop (ar x).toNat := rfl
/-- What is told of a node. -/
def val (l : List Nd) (a : Int) : β := (fold f (apart l a)).headD d

theorem fold_len : ∀ (X : List Nd) (c : Nat), scan c X = some X.length → (fold f X).length = c
  | [], 0, _ => rfl
  | [], c + 1, h => by rw [scan_nil] at h; cases h
  | x :: X, 0, h => by rw [scan_0] at h; simp at h
  | x :: X, c + 1, h => by
    by_cases hx : ar x < 0
    · rw [scan_bad hx] at h; cases h
    · rw [scan_good (by omega), Option.map_eq_some_iff] at h
      obtain ⟨m, h, hm⟩ := h
      rw [List.length_cons] at hm
      obtain rfl : m = X.length := by omega
      rw [fold_cons, List.length_cons, List.length_drop, fold_len X _ h]
      omega
theorem fold_append : ∀ (P : List Nd) (c : Nat) (Z : List Nd), scan c P = some P.length → fold f (P ++ Z) = fold f P ++ fold f Z
  | [], _, Z, _ => rfl
  | x :: P, 0, Z, h => by rw [scan_0] at h; simp at h
  | x :: P, c + 1, Z, h => by
    by_cases hx : ar x < 0
    · rw [scan_bad hx] at h; cases h
    · rw [scan_good (by omega), Option.map_eq_some_iff] at h
      obtain ⟨m, h, hm⟩ := h
      rw [List.length_cons] at hm
      obtain rfl : m = P.length := by omega
      have hl := fold_len f P _ h
      rw [List.cons_append, fold_cons, fold_cons, fold_append P _ Z h, List.take_append_of_le_length (by omega), List.drop_append_of_le_length (by omega), List.cons_append]
theorem fold_congr (X : List Nd) {A B : List Nd} (h : fold f A = fold f B) : fold f (X ++ A) = fold f (X ++ B) := by
  induction X with
  | nil => exact h
  | cons x X ih => rw [List.cons_append, List.cons_append, fold_cons, fold_cons, ih]
theorem fold_part {l : List Nd} {k n : Nat} (h : scan 1 (l.drop k) = some n) : fold f (apart l k) = [val f d l k] := by
  have hp := part_scan h
  rw [← part_len h] at hp
  have hl := fold_len f _ 1 hp
  unfold val
  match hf : fold f (apart l k), hl with
  | [y], _ => rfl
theorem fold_kids {l : List Nd} (qs : List Int) (hq : ∀ q ∈ qs, 0 ≤ aend l q) : fold f (qs.flatMap (apart l)) = qs.map (val f d l) := by
  induction qs with
  | nil => rfl
  | cons q qs ih =>
    have h0 := hq q (List.mem_cons_self ..)
    rcases aend_cases l q with h | ⟨k, n, rfl, hs, he, h1, h2⟩
    · omega
    · have hp := part_scan hs
      rw [← part_len hs] at hp
      rw [List.flatMap_cons, fold_append f _ 1 _ hp, fold_part f d hs, ih (fun q h => hq q (List.mem_cons_of_mem _ h))]
      rfl
/-- A node's is told by itself, and by its kids'. -/
theorem val_kids {l : List Nd} {k n : Nat} (h : scan 1 (l.drop k) = some n) : ∃ x, l[k]? = some x ∧ 0 ≤ ar x ∧ (akids l k).length = (ar x).toNat ∧ val f d l k = f x ((akids l k).map (val f d l)) := by
  obtain ⟨x, hx, hl, h0, hp⟩ := part_kids h
  refine ⟨x, hx, h0, hl, ?_⟩
  have hk := fold_kids f d (l := l) (akids l k) (fun q hq => (kids_in h q hq).2.2)
  unfold val at hk ⊢
  rw [hp, fold_cons, hk, List.take_of_length_le (by rw [List.length_map]; omega)]
  rfl
theorem val_bad {l : List Nd} {a : Int} (h : aend l a < 0) : val f d l a = d := by
  unfold val apart; rw [if_pos h]; rfl
theorem whole_part {l : List Nd} (h : scan 1 l = some l.length) : apart l 0 = l := by
  have e := aend_some (l := l) (a := 0) (n := l.length) h
  show apart l ((0 : Nat) : Int) = l
  unfold apart
  rw [if_neg (by rw [e]; omega), e]
  rw [show (((0 : Nat) : Int) + (l.length : Int)).toNat - ((0 : Nat) : Int).toNat = l.length by omega, show ((0 : Nat) : Int).toNat = 0 from rfl, List.drop_zero, List.take_length]
/-- By the part alone. -/
theorem val_part {l : List Nd} {k n : Nat} (h : scan 1 (l.drop k) = some n) : val f d (apart l k) 0 = val f d l k := by
  have e : apart (apart l k) 0 = apart l k := whole_part (by rw [part_len h]; exact part_scan h)
  unfold val
  rw [e]
/-- What tells the same may stand instead of a part. -/
theorem val_rep {l m : List Nd} {k n : Nat} (hw : scan 1 l = some l.length) (h : scan 1 (l.drop k) = some n) (hm : scan 1 m = some m.length) (hv : val f d m 0 = val f d l k) : val f d (arep l k m) 0 = val f d l 0 := by
  obtain ⟨hs, ht⟩ := split3 h
  have hr := (rep_whole hw h hm).1
  have hp := part_scan h
  rw [← part_len h] at hp
  have e1 : fold f (apart l k) = [val f d l k] := fold_part f d h
  have e2 : fold f m = [val f d m 0] := by
    have := fold_part f d (l := m) (k := 0) (n := m.length) hm
    rw [show ((0 : Nat) : Int) = 0 from rfl, whole_part hm] at this
    exact this
  have e3 : fold f (arep l k m) = fold f l := by
    rw [rep_is h]
    conv => rhs; rw [hs]
    apply fold_congr
    rw [fold_append f _ 1 _ hm, fold_append f _ 1 _ hp, e1, e2, hv]
  unfold val
  rw [whole_part hr, whole_part hw, e3]
/-- If all that is told side by side is good, and what is good comes of good kids alone, all below is good. -/
theorem fold_good (G : β → Prop) (hG : ∀ (x : Nd) (ks : List β), 0 ≤ ar x → ks.length = (ar x).toNat → G (f x ks) → ∀ y ∈ ks, G y) : ∀ (X : List Nd) (c i : Nat), scan c X = some X.length → (∀ y ∈ fold f X, G y) → i ≤ X.length → ∀ y ∈ fold f (X.drop i), G y
  | X, c, 0, _, hg, _ => by rw [List.drop_zero]; exact hg
  | [], c, i + 1, _, _, hi => by simp at hi
  | x :: X, 0, i + 1, h, _, _ => by rw [scan_0] at h; simp at h
  | x :: X, c + 1, i + 1, h, hg, hi => by
    by_cases hx : ar x < 0
    · rw [scan_bad hx] at h; cases h
    · rw [scan_good (by omega), Option.map_eq_some_iff] at h
      obtain ⟨m, h, hm⟩ := h
      rw [List.length_cons] at hm hi
      obtain rfl : m = X.length := by omega
      have hl := fold_len f X _ h
      rw [List.drop_succ_cons]
      refine fold_good G hG X _ i h ?_ (by omega)
      intro y hy
      rw [← List.take_append_drop (ar x).toNat (fold f X)] at hy
      rcases List.mem_append.1 hy with hy | hy
      · exact hG x _ (by omega) (by rw [List.length_take]; omega) (hg _ (by rw [fold_cons]; exact List.mem_cons_self ..)) y hy
      · exact hg y (by rw [fold_cons]; exact List.mem_cons_of_mem _ hy)
theorem val_good (G : β → Prop) (hG : ∀ (x : Nd) (ks : List β), 0 ≤ ar x → ks.length = (ar x).toNat → G (f x ks) → ∀ y ∈ ks, G y) {l : List Nd} (hw : scan 1 l = some l.length) (h0 : G (val f d l 0)) {k n : Nat} (h : scan 1 (l.drop k) = some n) : G (val f d l k) := by
  have e0 : fold f l = [val f d l 0] := by
    have := fold_part f d (l := l) (k := 0) (n := l.length) hw
    rw [show ((0 : Nat) : Int) = 0 from rfl, whole_part hw] at this
    exact this
  have hk : k ≤ l.length := by have := scan_le _ _ _ h; rw [List.length_drop] at this; omega
  have hg := fold_good f G hG l 1 k hw (by rw [e0]; intro y hy; rw [List.mem_singleton] at hy; rw [hy]; exact h0) hk
  have hp := part_scan h
  rw [← part_len h] at hp
  have hsp : l.drop k = apart l k ++ l.drop (k + n) := by
    obtain ⟨hs, ht⟩ := split3 h
    conv => lhs; rw [hs]
    rw [List.drop_left' ht]
  rw [hsp, fold_append f _ 1 _ hp, fold_part f d h] at hg
  exact hg _ (List.mem_append_left _ (List.mem_singleton.2 rfl))
end
end Go.Proofs.Yteknfglfbkknaaa.Arena
