/-
  Plain facts on deltas: one order; what is changed stands in one place; a tag or a number that is changed is changed back. No program is met here.
-/
import Derived.Test.YthkhonkibigdaaaGreatDeltaMath
import Derived.Test.YthkhonkibigdaaaGreatPathG
namespace Go.Proofs.YthkhonkibigdaaaGreat.Delta
open _root_.Go.Proofs.YthkhonkibigdaaaGreat.Arena _root_.Go.Proofs.YthkhonkibigdaaaGreat.Path

def three (a b : Int) : Int := if a < b then -1 else if b < a then 1 else 0
/-- How do two deltas stand? -/
def dcmp (p : List Int) (op n : Int) (p' : List Int) (op' n' : Int) : Int := if cmp p p' ≠ 0 then cmp p p' else if op ≠ op' then three op op' else three n n'
theorem three_turn (a b : Int) : three b a = -three a b := by
  unfold three
  repeat' split
  all_goals omega
theorem three_zero {a b : Int} : three a b = 0 ↔ a = b := by
  unfold three
  constructor
  · intro h
    repeat' split at h
    all_goals omega
  · rintro rfl
    simp
theorem dcmp_turn (p : List Int) (op n : Int) (p' : List Int) (op' n' : Int) : dcmp p' op' n' p op n = -dcmp p op n p' op' n' := by
  unfold dcmp
  rw [cmp_turn p p']
  by_cases h : cmp p p' = 0
  · rw [h, if_neg (show ¬ (-(0 : Int) ≠ 0) by simp), if_neg (show ¬ ((0 : Int) ≠ 0) by simp)]
    by_cases k : op = op'
    · rw [if_neg (by omega), if_neg (by omega)]; exact three_turn _ _
    · rw [if_pos (by omega), if_pos (by omega)]; exact three_turn _ _
  · rw [if_pos (by omega), if_pos (by omega)]
theorem dcmp_zero {p : List Int} {op n : Int} {p' : List Int} {op' n' : Int} : dcmp p op n p' op' n' = 0 ↔ p = p' ∧ op = op' ∧ n = n' := by
  unfold dcmp
  constructor
  · intro h
    by_cases c : cmp p p' = 0
    · rw [if_neg (by omega)] at h
      by_cases k : op = op'
      · rw [if_neg (by omega)] at h
        exact ⟨cmp_zero _ _ c, k, three_zero.1 h⟩
      · rw [if_pos k] at h
        exact absurd (three_zero.1 h) k
    · rw [if_pos c] at h; exact absurd h c
  · rintro ⟨rfl, rfl, rfl⟩
    rw [cmp_self, if_neg (by simp), if_neg (by simp)]
    exact three_zero.2 rfl
theorem three_trans {a b c : Int} (h : three a b ≤ 0) (k : three b c ≤ 0) : three a c ≤ 0 := by
  unfold three at *
  repeat' split at h
  all_goals repeat' split at k
  all_goals repeat' split
  all_goals omega
theorem three_le {a b : Int} : three a b ≤ 0 ↔ a ≤ b := by
  unfold three
  repeat' split
  all_goals omega
theorem cmp_both {p q r : List Int} (h : cmp p q ≤ 0) (k : cmp q r ≤ 0) (e : cmp p r = 0) : cmp p q = 0 ∧ cmp q r = 0 := by
  have := cmp_zero _ _ e
  subst this
  have t := cmp_turn p q
  omega
theorem dcmp_trans {p : List Int} {op n : Int} {p' : List Int} {op' n' : Int} {p2 : List Int} {op2 n2 : Int} (h : dcmp p op n p' op' n' ≤ 0) (k : dcmp p' op' n' p2 op2 n2 ≤ 0) : dcmp p op n p2 op2 n2 ≤ 0 := by
  unfold dcmp at *
  have h1 : cmp p p' ≤ 0 := by
    by_cases c : cmp p p' = 0
    · omega
    · rw [if_pos c] at h; exact h
  have k1 : cmp p' p2 ≤ 0 := by
    by_cases c : cmp p' p2 = 0
    · omega
    · rw [if_pos c] at k; exact k
  have t := cmp_trans p p' p2 h1 k1
  by_cases e : cmp p p2 = 0
  · obtain ⟨e1, e2⟩ := cmp_both h1 k1 e
    rw [if_neg (by omega)] at h k ⊢
    by_cases o1 : op = op'
    · subst o1
      rw [if_neg (by omega)] at h
      by_cases o2 : op = op2
      · rw [if_neg (by omega)] at k ⊢
        exact three_trans h k
      · rw [if_pos o2] at k ⊢
        exact k
    · rw [if_pos o1] at h
      have h2 := three_le.1 h
      by_cases o2 : op' = op2
      · subst o2
        rw [if_pos o1]
        exact h
      · rw [if_pos o2] at k
        have k2 := three_le.1 k
        rw [if_pos (by omega)]
        exact three_trans h k
  · rw [if_pos e]; exact t

/-- Ahead of the place, and behind it, all is as it was. -/
theorem swap_len {l m : List Nd} {a b : Nat} (ha : a ≤ l.length) : (swap l a b m).length = a + m.length + (l.length - b) := by
  unfold swap
  rw [List.length_append, List.length_append, List.length_take, List.length_drop]
  omega
theorem swap_lo {l m : List Nd} {a b i : Nat} (ha : a ≤ l.length) (h : i < a) : (swap l a b m)[i]? = l[i]? := by
  unfold swap
  rw [List.append_assoc, List.getElem?_append_left (by rw [List.length_take]; omega), List.getElem?_take, if_pos h]
theorem swap_hi {l m : List Nd} {a b i : Nat} (ha : a ≤ l.length) (h : b ≤ i) : (swap l a b m)[a + m.length + (i - b)]? = l[i]? := by
  unfold swap
  rw [List.getElem?_append_right (by rw [List.length_append, List.length_take]; omega), List.getElem?_drop, List.length_append, List.length_take]
  congr 1
  omega
/-- What is done is one swap within what stands below the node. -/
theorem dch_swap {l : List Nd} {a n : Nat} {x : Nd} (h : scan 1 (l.drop a) = some n) (hx : l[a]? = some x) {op v : Int} (hm : dmay x.1 op v = true) : ∃ (f t : Nat) (y : Nd), dch l a op v = swap l f t [y] ∧ a ≤ f ∧ f ≤ t ∧ t ≤ a + n ∧ t ≤ l.length ∧ (op ≤ 4 → f = a ∧ t = a + 1) := by
  have hl := scan_le _ _ _ h
  rw [List.length_drop] at hl
  have ha : a < l.length := (List.getElem?_eq_some_iff.1 hx).1
  unfold dch
  by_cases o1 : op = 1 ∨ op = 2 ∨ op = 3
  · rw [if_pos o1]
    exact ⟨a, a + 1, _, rfl, by omega, by omega, by omega, by omega, fun _ => ⟨rfl, rfl⟩⟩
  rw [if_neg o1]
  by_cases o4 : op = 4
  · rw [if_pos o4]
    exact ⟨a, a + 1, _, rfl, by omega, by omega, by omega, by omega, fun _ => ⟨rfl, rfl⟩⟩
  rw [if_neg o4]
  by_cases o5 : op = 5
  · rw [if_pos o5, aend_some h, show (((a : Int) + (n : Int)).toNat) = a + n by omega]
    exact ⟨a, a + n, _, rfl, by omega, by omega, by omega, by omega, fun _ => by omega⟩
  rw [if_neg o5]
  by_cases o6 : op = 6
  · rw [if_pos o6]
    exact ⟨a + 1, a + 1, _, rfl, by omega, by omega, by omega, by omega, fun _ => by omega⟩
  rw [if_neg o6]
  unfold dmay at hm
  by_cases o7 : op = 7
  · rw [if_neg (by omega), if_neg (by omega), if_neg (by omega), if_neg o4, if_neg o5, if_neg o6, if_pos o7, decide_eq_true_eq] at hm
    have hd : l.drop a = x :: l.drop (a + 1) := by
      rw [List.drop_eq_getElem_cons ha]
      rw [List.getElem?_eq_getElem ha] at hx
      rw [Option.some.inj hx]
    have har : 0 ≤ ar x := by
      by_cases c : ar x < 0
      · rw [hd, show (1 : Nat) = 0 + 1 from rfl, scan_bad c] at h; cases h
      · omega
    have ha1 : ar x = 1 := by
      unfold ar at har ⊢
      rw [hm] at har ⊢
      rw [if_neg (by decide)] at har ⊢
      split
      · rename_i c; rw [if_pos c] at har; omega
      · unfold asks; simp
    rw [hd, show (1 : Nat) = 0 + 1 from rfl, scan_good har, ha1, Option.map_eq_some_iff] at h
    obtain ⟨n1, h1, rfl⟩ := h
    have h1' : scan 1 (l.drop (a + 1)) = some n1 := h1
    rw [aend_some h1', show ((((a + 1 : Nat) : Int) + (n1 : Int)).toNat) = a + 1 + n1 by omega]
    have hl1 := scan_le _ _ _ h1'
    rw [List.length_drop] at hl1
    exact ⟨a + 1, a + 1 + n1, _, rfl, by omega, by omega, by omega, by omega, fun _ => by omega⟩
  · rw [if_neg (by omega), if_neg (by omega), if_neg (by omega), if_neg o4, if_neg o5, if_neg o6, if_neg o7] at hm
    cases hm
/-- ONE PLACE IS CHANGED, AND ALL ELSE STAYS. -/
theorem dch_else {l : List Nd} {a n : Nat} {x : Nd} (h : scan 1 (l.drop a) = some n) (hx : l[a]? = some x) {op v : Int} (hm : dmay x.1 op v = true) {i : Nat} (hi : i < l.length) :
    (i < a → i < (dch l a op v).length ∧ (dch l a op v)[i]? = l[i]?) ∧
    (a + n ≤ i → ∃ j : Nat, ((dch l a op v).length : Int) - l.length + i = j ∧ j < (dch l a op v).length ∧ (dch l a op v)[j]? = l[i]?) := by
  obtain ⟨f, t, y, e, h1, h2, h3, h4, -⟩ := dch_swap h hx hm
  rw [e]
  have hl := swap_len (l := l) (m := [y]) (a := f) (b := t) (by omega)
  rw [List.length_singleton] at hl
  refine ⟨fun q => ⟨by omega, swap_lo (by omega) (by omega)⟩, fun q => ⟨f + 1 + (i - t), by omega, by omega, ?_⟩⟩
  exact swap_hi (m := [y]) (by omega) (by omega)

/-- A node of as many kids instead: all stands as it stood. -/
theorem root_drop {l : List Nd} {a : Nat} {x x' : Nd} (hx : l[a]? = some x) (h : ar x = ar x') (k c : Nat) : scan c ((swap l a (a + 1) [x']).drop k) = scan c (l.drop k) := by
  have hs := at_split hx
  have ha : a < l.length := (List.getElem?_eq_some_iff.1 hx).1
  have ht : (l.take a).length = a := by rw [List.length_take]; omega
  have e : swap l a (a + 1) [x'] = l.take a ++ (x' :: l.drop (a + 1)) := by unfold swap; simp
  rw [e]
  conv => rhs; rw [hs]
  by_cases q : k ≤ a
  · rw [List.drop_append_of_le_length (by omega), List.drop_append_of_le_length (by omega)]
    exact scan_root h _ _ _
  · rw [List.drop_append, List.drop_append, ht, show k - a = (k - a - 1) + 1 by omega, List.drop_succ_cons, List.drop_succ_cons]
theorem root_end {l : List Nd} {a : Nat} {x x' : Nd} (hx : l[a]? = some x) (h : ar x = ar x') (k : Int) : aend (swap l a (a + 1) [x']) k = aend l k := by
  unfold aend
  rw [root_drop hx h]
theorem root_ar {l : List Nd} {a : Nat} {x x' : Nd} (hx : l[a]? = some x) (h : ar x = ar x') (k : Nat) : ar ((swap l a (a + 1) [x']).getD k (0, 0)) = ar (l.getD k (0, 0)) := by
  have ha : a < l.length := (List.getElem?_eq_some_iff.1 hx).1
  rw [List.getD_eq_getElem?_getD, List.getD_eq_getElem?_getD]
  rcases Nat.lt_trichotomy k a with q | q | q
  · rw [swap_lo (by omega) q]
  · subst q
    rw [hx]
    have : (swap l k (k + 1) [x'])[k]? = some x' := by
      unfold swap
      have ht : (l.take k).length = k := by rw [List.length_take]; omega
      rw [List.append_assoc, List.getElem?_append_right (by omega), ht, Nat.sub_self]
      rfl
    rw [this]
    exact h.symm
  · have := swap_hi (l := l) (m := [x']) (a := a) (b := a + 1) (i := k) (by omega) (by omega)
    rw [List.length_singleton, show a + 1 + (k - (a + 1)) = k by omega] at this
    rw [this]
theorem root_from {l : List Nd} {a : Nat} {x x' : Nd} (hx : l[a]? = some x) (h : ar x = ar x') : ∀ (c : Nat) (k : Int), kidsFrom (swap l a (a + 1) [x']) c k = kidsFrom l c k
  | 0, _ => rfl
  | c + 1, k => by rw [kidsFrom, kidsFrom, root_end hx h, root_from hx h c]
theorem root_kids {l : List Nd} {a : Nat} {x x' : Nd} (hx : l[a]? = some x) (h : ar x = ar x') (k : Int) : akids (swap l a (a + 1) [x']) k = akids l k := by
  unfold akids
  rw [root_end hx h, root_ar hx h, root_from hx h]
theorem root_down {l : List Nd} {a : Nat} {x x' : Nd} (hx : l[a]? = some x) (h : ar x = ar x') : ∀ (p : List Int) (k : Int), down (swap l a (a + 1) [x']) p k = down l p k
  | [], _ => rfl
  | y :: p, k => by rw [down, down, root_kids hx h, root_down hx h p]
theorem root_len {l : List Nd} {a : Nat} {x x' : Nd} (hx : l[a]? = some x) : (swap l a (a + 1) [x']).length = l.length := by
  have ha : a < l.length := (List.getElem?_eq_some_iff.1 hx).1
  rw [swap_len (by omega), List.length_singleton]
  omega
theorem root_find {l : List Nd} {a : Nat} {x x' : Nd} (hx : l[a]? = some x) (h : ar x = ar x') (p : List Int) : pfind (swap l a (a + 1) [x']) p = pfind l p := by
  unfold pfind
  rw [root_end hx h, root_len hx, root_down hx h]
theorem root_at {l : List Nd} {a : Nat} {x x' : Nd} (hx : l[a]? = some x) : (swap l a (a + 1) [x'])[a]? = some x' := by
  have ha : a < l.length := (List.getElem?_eq_some_iff.1 hx).1
  have ht : (l.take a).length = a := by rw [List.length_take]; omega
  unfold swap
  rw [List.append_assoc, List.getElem?_append_right (by omega), ht, Nat.sub_self]
  rfl
theorem root_back {l : List Nd} {a : Nat} {x : Nd} (x' : Nd) (hx : l[a]? = some x) : swap (swap l a (a + 1) [x']) a (a + 1) [x] = l := by
  have ha : a < l.length := (List.getElem?_eq_some_iff.1 hx).1
  have ht : (l.take a).length = a := by rw [List.length_take]; omega
  have e : swap l a (a + 1) [x'] = l.take a ++ (x' :: l.drop (a + 1)) := by unfold swap; simp
  rw [e]
  unfold swap
  rw [List.take_left' ht, show a + 1 = (l.take a).length + 1 by omega, ← List.drop_drop, List.drop_left' rfl, ht]
  conv => rhs; rw [at_split hx]
  simp
/-- WHAT CHANGED A TAG, OR A NUMBER, IS CHANGED BACK. -/
theorem dch_twice {l : List Nd} {a n : Nat} {x : Nd} (h : scan 1 (l.drop a) = some n) (hx : l[a]? = some x) {op v : Int} (hm : dmay x.1 op v = true) (ho : op ≤ 4) {p : List Int} (hp : pfind l p = a) :
    ∃ y : Nd, (dch l a op v)[a]? = some y ∧ pfind (dch l a op v) p = a ∧ dmay y.1 op (if op = 4 then x.2 else x.1) = true ∧ dch (dch l a op v) a op (if op = 4 then x.2 else x.1) = l := by
  have ha : a < l.length := (List.getElem?_eq_some_iff.1 hx).1
  have hd : l.drop a = x :: l.drop (a + 1) := by
    rw [List.drop_eq_getElem_cons ha]
    have hx' := hx
    rw [List.getElem?_eq_getElem ha] at hx'
    rw [Option.some.inj hx']
  have har : 0 ≤ ar x := by
    by_cases c : ar x < 0
    · rw [hd, show (1 : Nat) = 0 + 1 from rfl, scan_bad c] at h; cases h
    · omega
  obtain ⟨t, k⟩ := x
  have hg := getD_at hx
  have key : ∀ y : Nd, dch l a op v = swap l a (a + 1) [y] → ar (t, k) = ar y → dmay y.1 op (if op = 4 then k else t) = true → (dch (swap l a (a + 1) [y]) a op (if op = 4 then k else t) = swap (swap l a (a + 1) [y]) a (a + 1) [(t, k)]) →
      ∃ y : Nd, (dch l a op v)[a]? = some y ∧ pfind (dch l a op v) p = a ∧ dmay y.1 op (if op = 4 then k else t) = true ∧ dch (dch l a op v) a op (if op = 4 then k else t) = l := by
    intro y e1 e2 e3 e4
    rw [e1]
    exact ⟨y, root_at hx, by rw [root_find hx e2, hp], e3, by rw [e4, root_back y hx]⟩
  by_cases o4 : op = 4
  · subst o4
    simp only [dmay] at hm
    simp at hm
    refine key (t, v) ?_ ?_ ?_ ?_
    · unfold dch; rw [if_neg (by omega), if_pos rfl, hg]
    · rcases hm with q | ⟨q, q1, q2⟩
      · unfold ar; simp [q]
      · unfold ar asks at har ⊢
        simp [q] at har ⊢
        split at har
        · omega
        · first | rfl | (rw [if_neg (by omega)]; done) | (rw [if_neg (by omega), if_neg (by omega)])
    · rw [if_pos rfl]
      simp only [dmay]
      simp
      rcases hm with q | ⟨q, q1, q2⟩
      · exact .inl q
      · refine .inr ⟨q, ?_⟩
        unfold ar asks at har
        simp [q] at har
        split at har
        · omega
        · omega
    · rw [if_pos rfl]
      unfold dch
      rw [if_neg (by omega), if_pos rfl, getD_at (root_at hx)]
  · rw [if_neg o4] at key ⊢
    have hr : (7 ≤ t ∧ t ≤ 19 ∧ 7 ≤ v ∧ v ≤ 19) ∧ (op = 1 ∨ op = 2 ∨ op = 3) ∧ dmay v op t = true := by
      unfold dmay at hm ⊢
      by_cases o1 : op = 1
      · rw [if_pos o1] at hm ⊢
        simp at hm ⊢
        omega
      rw [if_neg o1] at hm ⊢
      by_cases o2 : op = 2
      · rw [if_pos o2] at hm ⊢
        simp at hm ⊢
        omega
      rw [if_neg o2] at hm ⊢
      by_cases o3 : op = 3
      · rw [if_pos o3] at hm ⊢
        simp at hm ⊢
        omega
      rw [if_neg o3, if_neg o4, if_neg (by omega), if_neg (by omega), if_neg (by omega)] at hm
      cases hm
    obtain ⟨r1, r2, r3⟩ := hr
    refine key (v, k) ?_ ?_ r3 ?_
    · unfold dch; rw [if_pos r2, hg]
    · rw [ar_two ⟨r1.1, r1.2.1⟩, ar_two ⟨r1.2.2.1, r1.2.2.2⟩]
    · unfold dch
      rw [if_pos r2, getD_at (root_at hx)]

end Go.Proofs.YthkhonkibigdaaaGreat.Delta
