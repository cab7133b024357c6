/-
  Plain facts on typed programs: what is below, what stands instead, a variable more. No program is met here.
-/
import Derived.Test.YteknfglfbkknaaaKindsRefC
namespace Go.Proofs.Yteknfglfbkknaaa.Kinds
open _root_.Go.Proofs.Yteknfglfbkknaaa.Arena

theorem pcheck_zero {ps : Int} {vs : List Int} {xs : List Nd} (h : pcheck ps vs xs = 0) : acheck xs = 0 ∧ avars ps vs = 0 ∧ otag xs 0 = 20 ∧ okind vs xs 0 = 2 := by
  unfold pcheck at h
  by_cases h1 : acheck xs = 0
  · rw [if_neg (by simpa using h1)] at h
    by_cases h2 : avars ps vs = 0
    · rw [if_neg (by simpa using h2)] at h
      by_cases h3 : otag xs 0 ≠ 20 ∨ okind vs xs 0 ≠ 2
      · rw [if_pos h3] at h; omega
      · exact ⟨h1, h2, by omega, by omega⟩
    · rw [if_pos h2] at h; exact absurd h h2
  · rw [if_pos h1] at h; exact absurd h h1
theorem acheck_zero {xs : List Nd} (h : acheck xs = 0) : xs.length ≤ 200 ∧ scan 1 xs = some xs.length := by
  unfold acheck at h
  by_cases h0 : xs.length = 0
  · rw [if_pos h0] at h; omega
  rw [if_neg h0] at h
  by_cases h1 : 200 < xs.length
  · rw [if_pos h1] at h; omega
  rw [if_neg h1] at h
  by_cases h2 : bads xs = true
  · rw [if_pos h2] at h; omega
  rw [if_neg h2] at h
  by_cases h3 : aend xs 0 ≠ xs.length
  · rw [if_pos h3] at h; omega
  refine ⟨by omega, ?_⟩
  rcases aend_cases xs 0 with he | ⟨k, n, hk, hs, he, h5, h6⟩
  · omega
  · obtain rfl : k = 0 := by omega
    rw [List.drop_zero] at hs
    rw [hs]
    congr 1
    omega
theorem bads_scan : ∀ (X : List Nd) (c : Nat), scan c X = some X.length → bads X = false
  | [], _, _ => rfl
  | x :: X, 0, h => by rw [scan_0] at h; simp at h
  | x :: X, c + 1, h => by
    by_cases hx : ar x < 0
    · rw [scan_bad hx] at h; cases h
    · rw [scan_good (by omega), Option.map_eq_some_iff] at h
      obtain ⟨m, h, hm⟩ := h
      rw [List.length_cons] at hm
      obtain rfl : m = X.length := by omega
      have := bads_scan X _ h
      unfold bads at this ⊢
      rw [List.any_cons, this]
      simp; omega
theorem end_all {l : List Nd} (h : scan 1 l = some l.length) : aend l 0 = l.length := by
  have := aend_some (l := l) (a := 0) (n := l.length) h
  simpa using this
theorem acheck_scan {xs : List Nd} (h : scan 1 xs = some xs.length) (hl : xs.length ≤ 200) : acheck xs = if 30 < adep xs 0 then 13 else 0 := by
  have h1 := (scan_le _ _ _ h).1
  unfold acheck
  rw [if_neg (by omega), if_neg (by omega), if_neg (by rw [bads_scan _ _ h]; simp), if_neg (by rw [end_all h]; simp)]

/-- With a part of the same kind and tag instead, a typed program stays so, or becomes too deep. -/
theorem pcheck_rep {ps : Int} {vs : List Int} {l m : List Nd} {k n : Nat} (hc : pcheck ps vs l = 0) (hl : l.length ≤ 60) (h : scan 1 (l.drop k) = some n) (hm : scan 1 m = some m.length) (hl2 : m.length ≤ 60) (hk : okind vs m 0 = okind vs l k) (ht : otag m 0 = otag l k) :
    okind vs (arep l k m) 0 = 2 ∧ pcheck ps vs (arep l k m) = (if 30 < adep (arep l k m) 0 then 13 else 0) ∧ (arep l k m).length ≤ 200 := by
  obtain ⟨c1, c2, c3, c4⟩ := pcheck_zero hc
  obtain ⟨-, hw⟩ := acheck_zero c1
  obtain ⟨e1, e2⟩ := okind_rep hw h hm hk ht
  obtain ⟨r1, r2⟩ := rep_whole hw h hm
  refine ⟨by omega, ?_, by omega⟩
  unfold pcheck
  rw [acheck_scan r1 (by omega)]
  by_cases hd : 30 < adep (arep l k m) 0
  · rw [if_pos hd, if_pos (by omega)]
  · rw [if_neg hd, if_neg (by omega), if_neg (by omega), if_neg (by omega)]

theorem getD_more (vs : List Int) (t : Int) {k : Nat} (hk : k < vs.length) : (vs ++ [t]).getD k 0 = vs.getD k 0 := by
  rw [List.getD_eq_getElem?_getD, List.getD_eq_getElem?_getD, List.getElem?_append_left hk]
theorem vsgood_more (ps : Int) (vs : List Int) (t : Int) : ∀ k, k ≤ vs.length → vsgood ps (vs ++ [t]) k = vsgood ps vs k
  | 0, _ => rfl
  | k + 1, h => by rw [vsgood, vsgood, vsgood_more ps vs t k (by omega), getD_more vs t (by omega)]
theorem avars_zero {ps : Int} {vs : List Int} (h : avars ps vs = 0) : 0 ≤ ps ∧ ps ≤ vs.length ∧ vs.length ≤ 12 ∧ vsgood ps vs vs.length = true := by
  unfold avars at h
  by_cases h1 : ps < 0 ∨ (vs.length : Int) < ps ∨ 12 < vs.length
  · rw [if_pos h1] at h; omega
  · rw [if_neg h1] at h
    by_cases h2 : vsgood ps vs vs.length = true
    · exact ⟨by omega, by omega, by omega, h2⟩
    · rw [if_neg h2] at h; omega
theorem avars_more {ps : Int} {vs : List Int} (t : Int) (ht : 0 ≤ t ∧ t ≤ 9) (h : avars ps vs = 0) : avars ps (vs ++ [t]) = if vs.length = 12 then 14 else 0 := by
  obtain ⟨a1, a2, a3, a4⟩ := avars_zero h
  have hl : (vs ++ [t]).length = vs.length + 1 := by simp
  unfold avars
  rw [hl]
  by_cases h12 : vs.length = 12
  · rw [if_pos h12, if_pos (.inr (.inr (by omega)))]
  · have hg : vsgood ps (vs ++ [t]) (vs.length + 1) = true := by
      rw [vsgood, vsgood_more ps vs t vs.length (Nat.le_refl _), a4, Bool.true_and]
      have : (vs ++ [t]).getD vs.length 0 = t := by rw [List.getD_eq_getElem?_getD]; simp
      rw [this]
      unfold vgood
      rw [decide_eq_true_eq]
      omega
    rw [if_neg h12, if_neg (by omega), if_pos hg]
/-- A variable more makes no difference, but for how many there may be. -/
theorem pcheck_more {ps : Int} {vs : List Int} {xs : List Nd} (t : Int) (ht : 0 ≤ t ∧ t ≤ 9) (h : pcheck ps vs xs = 0) : pcheck ps (vs ++ [t]) xs = (if vs.length = 12 then 14 else 0) ∧ okind (vs ++ [t]) xs 0 = 2 := by
  obtain ⟨c1, c2, c3, c4⟩ := pcheck_zero h
  obtain ⟨-, hw⟩ := acheck_zero c1
  have hk := okind_more (vs := vs) t hw (by omega)
  refine ⟨?_, by omega⟩
  unfold pcheck
  rw [avars_more t ht c2, if_neg (by omega)]
  by_cases h12 : vs.length = 12
  · rw [if_pos h12, if_pos (by omega)]
  · rw [if_neg h12, if_neg (by omega), if_neg (by omega)]

/-- What a typed program has below a node is typed, too. -/
theorem pcheck_below {ps : Int} {vs : List Int} {l : List Nd} (h : pcheck ps vs l = 0) {k n : Nat} (hs : scan 1 (l.drop k) = some n) : 0 ≤ okind vs l k ∧ okind vs l k ≤ 2 ∧ okind vs (apart l k) 0 = okind vs l k ∧ ∀ q ∈ akids l k, 0 ≤ okind vs l q := by
  obtain ⟨c1, c2, c3, c4⟩ := pcheck_zero h
  obtain ⟨-, hw⟩ := acheck_zero c1
  refine ⟨okind_below hw (by omega) hs, (okind_range vs l k).2, okind_part hs, ?_⟩
  intro q hq
  have h2 := (kids_in hs q hq).2.2
  rcases aend_cases l q with h' | ⟨k', n', rfl, hs', -⟩
  · omega
  · exact okind_below hw (by omega) hs'
/-- In a whole program a part begins at each place. -/
theorem scan_at : ∀ (X : List Nd) (c k : Nat), scan c X = some X.length → k < X.length → ∃ n, scan 1 (X.drop k) = some n
  | [], c, k, _, hk => by simp at hk
  | x :: X, 0, k, h, _ => by rw [scan_0] at h; simp at h
  | x :: X, c + 1, 0, h, _ => by
    rw [List.drop_zero]
    rw [Nat.add_comm, scan_add] at h
    cases h1 : scan 1 (x :: X) with
    | none => rw [h1] at h; cases h
    | some n => exact ⟨n, rfl⟩
  | x :: X, c + 1, k + 1, h, hk => by
    by_cases hx : ar x < 0
    · rw [scan_bad hx] at h; cases h
    · rw [scan_good (by omega), Option.map_eq_some_iff] at h
      obtain ⟨m, h, hm⟩ := h
      rw [List.length_cons] at hm hk
      obtain rfl : m = X.length := by omega
      rw [List.drop_succ_cons]
      exact scan_at X _ k h (by omega)
theorem pcheck_at {ps : Int} {vs : List Int} {l : List Nd} (h : pcheck ps vs l = 0) {k : Nat} (hk : k < l.length) : ∃ n, scan 1 (l.drop k) = some n :=
  scan_at l 1 k (acheck_zero (pcheck_zero h).1).2 hk

end Go.Proofs.Yteknfglfbkknaaa.Kinds
