/-
  Package kinds: a node's kind by its way is its kind by the rule.
-/
import Derived.Test.YteknfglfbkknaaaKindsPMade
namespace Go.Proofs.Yteknfglfbkknaaa.Kinds
open Go.RowKit Mem _root_.Go.Proofs.Yteknfglfbkknaaa.Arena
set_option linter.unusedVariables false
set_option linter.unusedSimpArgs false

theorem ar_asks {x : Nd} (h : 0 ≤ ar x) : ar x = if x.1 = 1 then 0 else (asks x.1 x.2).1 := by
  unfold ar at *
  by_cases h1 : x.1 = 1
  · rw [if_pos h1, if_pos h1]
  · rw [if_neg h1] at h ⊢
    rw [if_neg h1]
    split at h
    · omega
    · rename_i hq; rw [if_neg hq]
theorem if_same {p q : Prop} [Decidable p] [Decidable q] (h : p ↔ q) (a b : Int) : (if p then a else b) = if q then a else b := by
  by_cases hp : p
  · rw [if_pos hp, if_pos (h.1 hp)]
  · rw [if_neg hp, if_neg (fun hq => hp (h.2 hq))]
theorem len0 {ks : List (Int × Int)} (h : ks.length = 0) : ks = [] := List.length_eq_zero_iff.1 h
theorem len1 {ks : List (Int × Int)} (h : ks.length = 1) : ∃ a, ks = [a] := List.length_eq_one_iff.1 h
theorem len2 {ks : List (Int × Int)} (h : ks.length = 2) : ∃ a b, ks = [a, b] := by
  match ks, h with
  | [a, b], _ => exact ⟨a, b, rfl⟩
theorem len3 {ks : List (Int × Int)} (h : ks.length = 3) : ∃ a b c, ks = [a, b, c] := by
  match ks, h with
  | [a, b, c], _ => exact ⟨a, b, c, rfl⟩
theorem rule_1 (vs : List Int) (n : Int) (ks : List (Int × Int)) (hl : ks.length = 0) : rule vs (1, n) ks = if (cls 1).fits (vtyp vs n) (ks.map sw).reverse then (cls 1).gives (vtyp vs n) else -1 := by
  obtain rfl := len0 hl
  simp [rule, cls, Way.fits, Way.gives, ifso, sw, isblk, blks] <;> exact if_same (by omega) _ _
theorem rule_2 (vs : List Int) (n : Int) (ks : List (Int × Int)) (hl : ks.length = 0) : rule vs (2, n) ks = if (cls 2).fits (vtyp vs n) (ks.map sw).reverse then (cls 2).gives (vtyp vs n) else -1 := by
  obtain rfl := len0 hl
  simp [rule, cls, Way.fits, Way.gives, ifso, sw, isblk, blks] <;> exact if_same (by omega) _ _
theorem rule_3 (vs : List Int) (n : Int) (ks : List (Int × Int)) (hl : ks.length = 0) : rule vs (3, n) ks = if (cls 3).fits (vtyp vs n) (ks.map sw).reverse then (cls 3).gives (vtyp vs n) else -1 := by
  obtain rfl := len0 hl
  simp [rule, cls, Way.fits, Way.gives, ifso, sw, isblk, blks] <;> exact if_same (by omega) _ _
theorem rule_4 (vs : List Int) (n : Int) (ks : List (Int × Int)) (hl : ks.length = 1) : rule vs (4, n) ks = if (cls 4).fits (vtyp vs n) (ks.map sw).reverse then (cls 4).gives (vtyp vs n) else -1 := by
  obtain ⟨a, rfl⟩ := len1 hl
  obtain ⟨a1, a2⟩ := a
  simp [rule, cls, Way.fits, Way.gives, ifso, sw, isblk, blks] <;> exact if_same (by omega) _ _
theorem rule_5 (vs : List Int) (n : Int) (ks : List (Int × Int)) (hl : ks.length = 1) : rule vs (5, n) ks = if (cls 5).fits (vtyp vs n) (ks.map sw).reverse then (cls 5).gives (vtyp vs n) else -1 := by
  obtain ⟨a, rfl⟩ := len1 hl
  obtain ⟨a1, a2⟩ := a
  simp [rule, cls, Way.fits, Way.gives, ifso, sw, isblk, blks] <;> exact if_same (by omega) _ _
theorem rule_6 (vs : List Int) (n : Int) (ks : List (Int × Int)) (hl : ks.length = 1) : rule vs (6, n) ks = if (cls 6).fits (vtyp vs n) (ks.map sw).reverse then (cls 6).gives (vtyp vs n) else -1 := by
  obtain ⟨a, rfl⟩ := len1 hl
  obtain ⟨a1, a2⟩ := a
  simp [rule, cls, Way.fits, Way.gives, ifso, sw, isblk, blks] <;> exact if_same (by omega) _ _
theorem rule_7 (vs : List Int) (n : Int) (ks : List (Int × Int)) (hl : ks.length = 2) : rule vs (7, n) ks = if (cls 7).fits (vtyp vs n) (ks.map sw).reverse then (cls 7).gives (vtyp vs n) else -1 := by
  obtain ⟨a, b, rfl⟩ := len2 hl
  obtain ⟨a1, a2⟩ := a
  obtain ⟨b1, b2⟩ := b
  simp [rule, cls, Way.fits, Way.gives, ifso, sw, isblk, blks] <;> exact if_same (by omega) _ _
theorem rule_8 (vs : List Int) (n : Int) (ks : List (Int × Int)) (hl : ks.length = 2) : rule vs (8, n) ks = if (cls 8).fits (vtyp vs n) (ks.map sw).reverse then (cls 8).gives (vtyp vs n) else -1 := by
  obtain ⟨a, b, rfl⟩ := len2 hl
  obtain ⟨a1, a2⟩ := a
  obtain ⟨b1, b2⟩ := b
  simp [rule, cls, Way.fits, Way.gives, ifso, sw, isblk, blks] <;> exact if_same (by omega) _ _
theorem rule_9 (vs : List Int) (n : Int) (ks : List (Int × Int)) (hl : ks.length = 2) : rule vs (9, n) ks = if (cls 9).fits (vtyp vs n) (ks.map sw).reverse then (cls 9).gives (vtyp vs n) else -1 := by
  obtain ⟨a, b, rfl⟩ := len2 hl
  obtain ⟨a1, a2⟩ := a
  obtain ⟨b1, b2⟩ := b
  simp [rule, cls, Way.fits, Way.gives, ifso, sw, isblk, blks] <;> exact if_same (by omega) _ _
theorem rule_10 (vs : List Int) (n : Int) (ks : List (Int × Int)) (hl : ks.length = 2) : rule vs (10, n) ks = if (cls 10).fits (vtyp vs n) (ks.map sw).reverse then (cls 10).gives (vtyp vs n) else -1 := by
  obtain ⟨a, b, rfl⟩ := len2 hl
  obtain ⟨a1, a2⟩ := a
  obtain ⟨b1, b2⟩ := b
  simp [rule, cls, Way.fits, Way.gives, ifso, sw, isblk, blks] <;> exact if_same (by omega) _ _
theorem rule_11 (vs : List Int) (n : Int) (ks : List (Int × Int)) (hl : ks.length = 2) : rule vs (11, n) ks = if (cls 11).fits (vtyp vs n) (ks.map sw).reverse then (cls 11).gives (vtyp vs n) else -1 := by
  obtain ⟨a, b, rfl⟩ := len2 hl
  obtain ⟨a1, a2⟩ := a
  obtain ⟨b1, b2⟩ := b
  simp [rule, cls, Way.fits, Way.gives, ifso, sw, isblk, blks] <;> exact if_same (by omega) _ _
theorem rule_12 (vs : List Int) (n : Int) (ks : List (Int × Int)) (hl : ks.length = 2) : rule vs (12, n) ks = if (cls 12).fits (vtyp vs n) (ks.map sw).reverse then (cls 12).gives (vtyp vs n) else -1 := by
  obtain ⟨a, b, rfl⟩ := len2 hl
  obtain ⟨a1, a2⟩ := a
  obtain ⟨b1, b2⟩ := b
  simp [rule, cls, Way.fits, Way.gives, ifso, sw, isblk, blks] <;> exact if_same (by omega) _ _
theorem rule_13 (vs : List Int) (n : Int) (ks : List (Int × Int)) (hl : ks.length = 2) : rule vs (13, n) ks = if (cls 13).fits (vtyp vs n) (ks.map sw).reverse then (cls 13).gives (vtyp vs n) else -1 := by
  obtain ⟨a, b, rfl⟩ := len2 hl
  obtain ⟨a1, a2⟩ := a
  obtain ⟨b1, b2⟩ := b
  simp [rule, cls, Way.fits, Way.gives, ifso, sw, isblk, blks] <;> exact if_same (by omega) _ _
theorem rule_14 (vs : List Int) (n : Int) (ks : List (Int × Int)) (hl : ks.length = 2) : rule vs (14, n) ks = if (cls 14).fits (vtyp vs n) (ks.map sw).reverse then (cls 14).gives (vtyp vs n) else -1 := by
  obtain ⟨a, b, rfl⟩ := len2 hl
  obtain ⟨a1, a2⟩ := a
  obtain ⟨b1, b2⟩ := b
  simp [rule, cls, Way.fits, Way.gives, ifso, sw, isblk, blks] <;> exact if_same (by omega) _ _
theorem rule_15 (vs : List Int) (n : Int) (ks : List (Int × Int)) (hl : ks.length = 2) : rule vs (15, n) ks = if (cls 15).fits (vtyp vs n) (ks.map sw).reverse then (cls 15).gives (vtyp vs n) else -1 := by
  obtain ⟨a, b, rfl⟩ := len2 hl
  obtain ⟨a1, a2⟩ := a
  obtain ⟨b1, b2⟩ := b
  simp [rule, cls, Way.fits, Way.gives, ifso, sw, isblk, blks] <;> exact if_same (by omega) _ _
theorem rule_16 (vs : List Int) (n : Int) (ks : List (Int × Int)) (hl : ks.length = 2) : rule vs (16, n) ks = if (cls 16).fits (vtyp vs n) (ks.map sw).reverse then (cls 16).gives (vtyp vs n) else -1 := by
  obtain ⟨a, b, rfl⟩ := len2 hl
  obtain ⟨a1, a2⟩ := a
  obtain ⟨b1, b2⟩ := b
  simp [rule, cls, Way.fits, Way.gives, ifso, sw, isblk, blks] <;> exact if_same (by omega) _ _
theorem rule_17 (vs : List Int) (n : Int) (ks : List (Int × Int)) (hl : ks.length = 2) : rule vs (17, n) ks = if (cls 17).fits (vtyp vs n) (ks.map sw).reverse then (cls 17).gives (vtyp vs n) else -1 := by
  obtain ⟨a, b, rfl⟩ := len2 hl
  obtain ⟨a1, a2⟩ := a
  obtain ⟨b1, b2⟩ := b
  simp [rule, cls, Way.fits, Way.gives, ifso, sw, isblk, blks] <;> exact if_same (by omega) _ _
theorem rule_18 (vs : List Int) (n : Int) (ks : List (Int × Int)) (hl : ks.length = 2) : rule vs (18, n) ks = if (cls 18).fits (vtyp vs n) (ks.map sw).reverse then (cls 18).gives (vtyp vs n) else -1 := by
  obtain ⟨a, b, rfl⟩ := len2 hl
  obtain ⟨a1, a2⟩ := a
  obtain ⟨b1, b2⟩ := b
  simp [rule, cls, Way.fits, Way.gives, ifso, sw, isblk, blks] <;> exact if_same (by omega) _ _
theorem rule_19 (vs : List Int) (n : Int) (ks : List (Int × Int)) (hl : ks.length = 2) : rule vs (19, n) ks = if (cls 19).fits (vtyp vs n) (ks.map sw).reverse then (cls 19).gives (vtyp vs n) else -1 := by
  obtain ⟨a, b, rfl⟩ := len2 hl
  obtain ⟨a1, a2⟩ := a
  obtain ⟨b1, b2⟩ := b
  simp [rule, cls, Way.fits, Way.gives, ifso, sw, isblk, blks] <;> exact if_same (by omega) _ _
theorem rule_21 (vs : List Int) (n : Int) (ks : List (Int × Int)) (hl : ks.length = 1) : rule vs (21, n) ks = if (cls 21).fits (vtyp vs n) (ks.map sw).reverse then (cls 21).gives (vtyp vs n) else -1 := by
  obtain ⟨a, rfl⟩ := len1 hl
  obtain ⟨a1, a2⟩ := a
  simp [rule, cls, Way.fits, Way.gives, ifso, sw, isblk, blks] <;> exact if_same (by omega) _ _
theorem rule_22 (vs : List Int) (n : Int) (ks : List (Int × Int)) (hl : ks.length = 2) : rule vs (22, n) ks = if (cls 22).fits (vtyp vs n) (ks.map sw).reverse then (cls 22).gives (vtyp vs n) else -1 := by
  obtain ⟨a, b, rfl⟩ := len2 hl
  obtain ⟨a1, a2⟩ := a
  obtain ⟨b1, b2⟩ := b
  simp [rule, cls, Way.fits, Way.gives, ifso, sw, isblk, blks] <;> exact if_same (by omega) _ _
theorem rule_23 (vs : List Int) (n : Int) (ks : List (Int × Int)) (hl : ks.length = 3) : rule vs (23, n) ks = if (cls 23).fits (vtyp vs n) (ks.map sw).reverse then (cls 23).gives (vtyp vs n) else -1 := by
  obtain ⟨a, b, c, rfl⟩ := len3 hl
  obtain ⟨a1, a2⟩ := a
  obtain ⟨b1, b2⟩ := b
  obtain ⟨c1, c2⟩ := c
  simp [rule, cls, Way.fits, Way.gives, ifso, sw, isblk, blks] <;> exact if_same (by omega) _ _
theorem rule_24 (vs : List Int) (n : Int) (ks : List (Int × Int)) (hl : ks.length = 2) : rule vs (24, n) ks = if (cls 24).fits (vtyp vs n) (ks.map sw).reverse then (cls 24).gives (vtyp vs n) else -1 := by
  obtain ⟨a, b, rfl⟩ := len2 hl
  obtain ⟨a1, a2⟩ := a
  obtain ⟨b1, b2⟩ := b
  simp [rule, cls, Way.fits, Way.gives, ifso, sw, isblk, blks] <;> exact if_same (by omega) _ _
theorem rule_25 (vs : List Int) (n : Int) (ks : List (Int × Int)) (hl : ks.length = 1) : rule vs (25, n) ks = if (cls 25).fits (vtyp vs n) (ks.map sw).reverse then (cls 25).gives (vtyp vs n) else -1 := by
  obtain ⟨a, rfl⟩ := len1 hl
  obtain ⟨a1, a2⟩ := a
  simp [rule, cls, Way.fits, Way.gives, ifso, sw, isblk, blks] <;> exact if_same (by omega) _ _
theorem rule_26 (vs : List Int) (n : Int) (ks : List (Int × Int)) (hl : ks.length = 0) : rule vs (26, n) ks = if (cls 26).fits (vtyp vs n) (ks.map sw).reverse then (cls 26).gives (vtyp vs n) else -1 := by
  obtain rfl := len0 hl
  simp [rule, cls, Way.fits, Way.gives, ifso, sw, isblk, blks] <;> exact if_same (by omega) _ _
theorem rule_20 (vs : List Int) (n : Int) (ks : List (Int × Int)) : rule vs (20, n) ks = if (cls 20).fits (vtyp vs n) (ks.map sw).reverse then (cls 20).gives (vtyp vs n) else -1 := by
  have e : ((ks.map sw).reverse.all fun x => x.2 == 2) = alltwo (ks.map Prod.fst) := by
    rw [List.all_reverse]
    unfold alltwo
    rw [List.all_map, List.all_map]
    rfl
  have c : cls 20 = .alike 2 2 := by simp [cls]
  rw [c]
  unfold Way.fits Way.gives
  simp only [e]
  simp [rule, ifso]

/-- A node's kind by its way. -/
theorem rule_cls (vs : List Int) (x : Nd) (ks : List (Int × Int)) (hx : 0 ≤ ar x) (hl : ks.length = (ar x).toNat) :
    rule vs x ks = if (cls x.1).fits (vtyp vs x.2) (ks.map sw).reverse then (cls x.1).gives (vtyp vs x.2) else -1 := by
  obtain ⟨h1, h2⟩ := ar_tag hx
  rw [ar_asks hx] at hl
  obtain ⟨t, n⟩ := x
  simp only at h1 h2 hl ⊢
  rcases (show t = 1 ∨ t = 2 ∨ t = 3 ∨ t = 4 ∨ t = 5 ∨ t = 6 ∨ t = 7 ∨ t = 8 ∨ t = 9 ∨ t = 10 ∨ t = 11 ∨ t = 12 ∨ t = 13 ∨ t = 14 ∨ t = 15 ∨ t = 16 ∨ t = 17 ∨ t = 18 ∨ t = 19 ∨ t = 20 ∨ t = 21 ∨ t = 22 ∨ t = 23 ∨ t = 24 ∨ t = 25 ∨ t = 26 by omega) with rfl | rfl | rfl | rfl | rfl | rfl | rfl | rfl | rfl | rfl | rfl | rfl | rfl | rfl | rfl | rfl | rfl | rfl | rfl | rfl | rfl | rfl | rfl | rfl | rfl | rfl
  · exact rule_1 vs n ks (by rw [hl]; simp [asks])
  · exact rule_2 vs n ks (by rw [hl]; simp [asks])
  · exact rule_3 vs n ks (by rw [hl]; simp [asks])
  · exact rule_4 vs n ks (by rw [hl]; simp [asks])
  · exact rule_5 vs n ks (by rw [hl]; simp [asks])
  · exact rule_6 vs n ks (by rw [hl]; simp [asks])
  · exact rule_7 vs n ks (by rw [hl]; simp [asks])
  · exact rule_8 vs n ks (by rw [hl]; simp [asks])
  · exact rule_9 vs n ks (by rw [hl]; simp [asks])
  · exact rule_10 vs n ks (by rw [hl]; simp [asks])
  · exact rule_11 vs n ks (by rw [hl]; simp [asks])
  · exact rule_12 vs n ks (by rw [hl]; simp [asks])
  · exact rule_13 vs n ks (by rw [hl]; simp [asks])
  · exact rule_14 vs n ks (by rw [hl]; simp [asks])
  · exact rule_15 vs n ks (by rw [hl]; simp [asks])
  · exact rule_16 vs n ks (by rw [hl]; simp [asks])
  · exact rule_17 vs n ks (by rw [hl]; simp [asks])
  · exact rule_18 vs n ks (by rw [hl]; simp [asks])
  · exact rule_19 vs n ks (by rw [hl]; simp [asks])
  · exact rule_20 vs n ks
  · exact rule_21 vs n ks (by rw [hl]; simp [asks])
  · exact rule_22 vs n ks (by rw [hl]; simp [asks])
  · exact rule_23 vs n ks (by rw [hl]; simp [asks])
  · exact rule_24 vs n ks (by rw [hl]; simp [asks])
  · exact rule_25 vs n ks (by rw [hl]; simp [asks])
  · exact rule_26 vs n ks (by rw [hl]; simp [asks])

end Go.Proofs.Yteknfglfbkknaaa.Kinds
