/-
  Plain facts on a program that is changed by one of its mutants: it is another one; two by one operator are unlike; where one is found. No program is met here.
-/
import Derived.Test.YtofhgaioidfdmaaGreatSitesMath
import Derived.Test.YtofhgaioidfdmaaGreatDeltaG
set_option linter.unusedVariables false
namespace Go.Proofs.YtofhgaioidfdmaaGreat.Sites
open _root_.Go.Proofs.YtofhgaioidfdmaaGreat.Arena _root_.Go.Proofs.YtofhgaioidfdmaaGreat.Delta _root_.Go.Proofs.YtofhgaioidfdmaaGreat.Path _root_.Go.Proofs.YtofhgaioidfdmaaGreat.Cat

/-- Where one stands in a list: its place, or -1; in a list that rises -1 alone where there is none. -/
def FindOk (L : List Mt) (d : Mt) (k : Int) : Prop := -1 ≤ k ∧ k < L.length ∧ (∀ i : Nat, k = i → L[i]? = some d) ∧ (MRise L → k = -1 → d ∉ L)
/-- A place ahead of which all is less, and behind which all is greater, holds it if anything does. -/
theorem rise_out {L : List Mt} (h : MRise L) {d : Mt} {a : Nat} (lo : ∀ i m, i < a → L[i]? = some m → mcmp m d < 0) (hi : ∀ i m, a ≤ i → L[i]? = some m → 0 < mcmp m d) : d ∉ L := by
  intro hm
  obtain ⟨i, hi', e⟩ := List.mem_iff_getElem.1 hm
  have h0 : L[i]? = some d := by rw [List.getElem?_eq_getElem hi', e]
  have hz : mcmp d d = 0 := mcmp_zero.2 rfl
  by_cases q : i < a
  · have := lo i d q h0; omega
  · have := hi i d (by omega) h0; omega
theorem rise_lo {L : List Mt} (h : MRise L) {d m : Mt} {j : Nat} (hj : L[j]? = some m) (hc : mcmp m d < 0) : ∀ i m', i ≤ j → L[i]? = some m' → mcmp m' d < 0 := by
  intro i m' hij hi
  by_cases q : i = j
  · subst q; rw [hj] at hi; cases hi; exact hc
  · exact mcmp_lt (rise_all h i j m' m (by omega) hi hj) hc
theorem rise_hi {L : List Mt} (h : MRise L) {d m : Mt} {j : Nat} (hj : L[j]? = some m) (hc : 0 < mcmp m d) : ∀ i m', j ≤ i → L[i]? = some m' → 0 < mcmp m' d := by
  intro i m' hij hi
  by_cases q : i = j
  · subst q; rw [hj] at hi; cases hi; exact hc
  · have h1 := rise_all h j i m m' (by omega) hj hi
    have h2 : mcmp d m < 0 := by have := mcmp_turn m d; omega
    have h3 := mcmp_lt h2 h1
    have := mcmp_turn d m'
    omega

theorem swap_at {l m : List Nd} {a b : Nat} {z : Nd} (ha : a ≤ l.length) : (swap l a b (z :: m))[a]? = some z := by
  unfold swap
  rw [List.append_assoc, List.getElem?_append_right (by rw [List.length_take]; omega), List.length_take, Nat.min_eq_left ha, Nat.sub_self]
  rfl
/-- The node that takes a node's place, by operators 1 to 4. -/
def newNd (x : Nd) (op n : Int) : Nd := if op = 4 then (x.1, n) else (n, x.2)
theorem dch_one {l : List Nd} {a : Nat} {x : Nd} (hx : l[a]? = some x) {op n : Int} (h1 : 1 ≤ op) (h4 : op ≤ 4) : dch l a op n = swap l a (a + 1) [newNd x op n] := by
  unfold dch newNd
  rw [getD_at hx]
  by_cases q : op = 4
  · rw [if_neg (by omega), if_pos q, if_pos q]
  · rw [if_pos (by omega), if_neg q]
theorem newNd_ne {x y : Nd} (hb : x.1 = 2 → 0 ≤ x.2 ∧ x.2 ≤ 1) {op n : Int} (h1 : 1 ≤ op) (h4 : op ≤ 4) (h : cis x y op n = true) : newNd x op n ≠ x := by
  obtain ⟨t, v⟩ := x
  unfold newNd
  unfold cis at h
  simp only at hb h ⊢
  by_cases q : op = 4
  · subst q
    simp at h
    rw [if_pos rfl]
    intro e
    simp only [Prod.mk.injEq, true_and] at e
    rcases h with ⟨h1, h2, h3⟩ | ⟨h1, h2⟩
    · exact h3 e
    · obtain ⟨b0, b1⟩ := hb h1
      unfold rnd at h2
      rw [IntKind.wrap_i64] at h2
      omega
  · rw [if_neg q]
    intro e
    simp only [Prod.mk.injEq, and_true] at e
    by_cases o1 : op = 1
    · rw [if_pos o1] at h; simp at h; omega
    rw [if_neg o1] at h
    by_cases o2 : op = 2
    · rw [if_pos o2] at h; simp at h; omega
    rw [if_neg o2] at h
    by_cases o3 : op = 3
    · rw [if_pos o3] at h; simp at h; omega
    · omega
/-- ANOTHER PROGRAM. -/
theorem dch_new {l : List Nd} {a m : Nat} (hs : scan 1 (l.drop a) = some m) {op n : Int} (h : cis (nodeAt l a) (behind l a) op n = true) : dch l a op n ≠ l := by
  have hx := nodeAt_some hs
  have hb := bool_rng (arity_some hs).1
  have ha : a < l.length := (List.getElem?_eq_some_iff.1 hx).1
  by_cases h4 : 1 ≤ op ∧ op ≤ 4
  · have hn := newNd_ne hb h4.1 h4.2 h
    rw [dch_one hx h4.1 h4.2]
    intro e
    have := swap_at (l := l) (m := []) (a := a) (b := a + 1) (z := newNd (nodeAt l a) op n) (by omega)
    rw [e, hx] at this
    exact hn (Option.some.inj this).symm
  · have hop : op = 5 ∨ op = 6 ∨ op = 7 := by
      by_cases q : op = 5 ∨ op = 6 ∨ op = 7
      · exact q
      · unfold cis at h
        rw [if_neg (by omega), if_neg (by omega), if_neg (by omega), if_neg (by omega), if_neg (by omega), if_neg (by omega), if_neg (by omega)] at h
        cases h
    rcases hop with rfl | rfl | rfl
    · intro e
      have h0 : dch l a 5 n = swap l a (aend l a).toNat [(26, 0)] := by unfold dch; simp
      rw [h0] at e
      have := swap_at (l := l) (m := []) (a := a) (b := (aend l a).toNat) (z := ((26, 0) : Nd)) (by omega)
      rw [e, hx] at this
      have hx6 := Option.some.inj this
      unfold cis at h
      rw [hx6] at h
      simp at h
    · intro e
      have h0 : dch l a 6 n = swap l (a + 1) (a + 1) [(6, 0)] := by unfold dch; simp
      rw [h0] at e
      have := congrArg List.length e
      rw [swap_len (by omega)] at this
      simp at this
      omega
    · intro e
      have h0 : dch l a 7 n = swap l (a + 1) (aend l ((a + 1 : Nat) : Int)).toNat [(1, n)] := by unfold dch; simp
      rw [h0] at e
      unfold cis at h
      simp at h
      obtain ⟨h25, -, hy⟩ := h
      have hb1 := behind_some hs h25
      have := swap_at (l := l) (m := []) (a := a + 1) (b := (aend l ((a + 1 : Nat) : Int)).toNat) (z := ((1, n) : Nd)) (by omega)
      rw [e, hb1] at this
      exact hy (Option.some.inj this)
/-- What comes of one of all. -/
theorem sites_apply {l : List Nd} (hw : Whole l) {p : List Int} {op n : Int} (h : (p, op, n) ∈ msites l) : ∃ a m : Nat, pfind l p = a ∧ scan 1 (l.drop a) = some m ∧ a + m ≤ l.length ∧ cis (nodeAt l a) (behind l a) op n = true ∧
    aerr l p op n = 0 ∧ anew l p op n = dch l a op n ∧ dmay (nodeAt l a).1 op n = true ∧ dch l a op n ≠ l := by
  obtain ⟨h0, h1⟩ := (sites_mem hw).1 h
  rcases find_cases l p with e | ⟨a, m, x, e, hs, hx, hl, -⟩
  · omega
  · rw [e, isv_some hs] at h1
    have hb := bool_rng (arity_some hs).1
    have hx' := nodeAt_some hs
    rw [hx'] at hx
    have hm := cis_may hb h1
    refine ⟨a, m, e, hs, hl, h1, ?_, ?_, hm, dch_new hs h1⟩
    · rw [aerr_at e hx', if_pos hm]
    · unfold anew
      rw [e, Int.toNat_natCast]
end Go.Proofs.YtofhgaioidfdmaaGreat.Sites
