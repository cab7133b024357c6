/-
  Plain facts on deltas: what is changed, and that a typed program stays typed. No program is met here.
-/
import Derived.Test.YthkhonkibigdaaaGreatDeltaKinds
namespace Go.Proofs.YthkhonkibigdaaaGreat.Delta
open _root_.Go.Proofs.YthkhonkibigdaaaGreat.Arena _root_.Go.Proofs.YthkhonkibigdaaaGreat.Kinds

/-- Is a node, and the number, as an operator asks? -/
def dmay (t op n : Int) : Bool :=
  if op = 1 then decide (7 ≤ t ∧ t ≤ 11) && decide (7 ≤ n ∧ n ≤ 11)
  else if op = 2 then decide (12 ≤ t ∧ t ≤ 17) && decide (12 ≤ n ∧ n ≤ 17)
  else if op = 3 then decide (18 ≤ t ∧ t ≤ 19) && decide (18 ≤ n ∧ n ≤ 19)
  else if op = 4 then decide (t = 1) || (decide (t = 2) && decide (0 ≤ n ∧ n ≤ 1))
  else if op = 5 then decide (t = 21 ∨ t = 22 ∨ t = 23 ∨ t = 24 ∨ t = 25) && decide (n = 0)
  else if op = 6 then decide (t = 23 ∨ t = 24) && decide (n = 0)
  else if op = 7 then decide (t = 25) else false
/-- With others instead of what stands between two places. -/
def swap (l : List Nd) (a b : Nat) (m : List Nd) : List Nd := l.take a ++ m ++ l.drop b
/-- What a body becomes, of a delta that may be, at a place. -/
def dch (l : List Nd) (a : Nat) (op n : Int) : List Nd :=
  if op = 1 ∨ op = 2 ∨ op = 3 then swap l a (a + 1) [(n, (l.getD a (0, 0)).2)]
  else if op = 4 then swap l a (a + 1) [((l.getD a (0, 0)).1, n)]
  else if op = 5 then swap l a (aend l a).toNat [(26, 0)]
  else if op = 6 then swap l (a + 1) (a + 1) [(6, 0)]
  else swap l (a + 1) (aend l ((a + 1 : Nat) : Int)).toNat [(1, n)]

theorem at_split {l : List Nd} {a : Nat} {x : Nd} (h : l[a]? = some x) : l = l.take a ++ (x :: l.drop (a + 1)) := by
  obtain ⟨ha, e⟩ := List.getElem?_eq_some_iff.1 h
  conv => lhs; rw [← List.take_append_drop a l, List.drop_eq_getElem_cons ha, e]
theorem getD_at {l : List Nd} {a : Nat} {x : Nd} (h : l[a]? = some x) : l.getD a (0, 0) = x := by
  rw [List.getD_eq_getElem?_getD, h]; rfl
/-- A node of as many kids instead. -/
theorem scan_root {x x' : Nd} (h : ar x = ar x') (Y : List Nd) : ∀ (X : List Nd) (c : Nat), scan c (X ++ (x' :: Y)) = scan c (X ++ (x :: Y))
  | [], 0 => by rw [scan_0, scan_0]
  | [], c + 1 => by rw [List.nil_append, List.nil_append, scan_cons, scan_cons, h]
  | y :: X, 0 => by rw [scan_0, scan_0]
  | y :: X, c + 1 => by rw [List.cons_append, List.cons_append, scan_cons, scan_cons, scan_root h Y X]
theorem fold_root (vs : List Int) {x x' : Nd} (h : ar x = ar x') (Y : List Nd) (hk : ∀ K, kb vs x' K = kb vs x K) : fold (kb vs) (x :: Y) = fold (kb vs) (x' :: Y) := by
  rw [fold_cons, fold_cons, ← h, hk]
theorem stk_root {x x' : Nd} (h : ar x = ar x') (Y : List Nd) : Less (stk (x' :: Y)) (stk (x :: Y)) := by
  rw [stk, stk, h]; exact less_refl _
/-- A part, and what stands behind it. -/
theorem fold_part_add {β : Type} (f : Nd → List β → β) {P : List Nd} (hP : scan 1 P = some P.length) (Z : List Nd) (d : β) : fold f (P ++ Z) = val f d P 0 :: fold f Z := by
  have e := fold_part f d (l := P) (k := 0) (n := P.length) hP
  rw [show ((0 : Nat) : Int) = 0 from rfl, whole_part hP] at e
  rw [fold_append f _ 1 _ hP, e]
  rfl
theorem val_kb (vs : List Int) {l : List Nd} {k n : Nat} (h : scan 1 (l.drop k) = some n) : val (kb vs) (-1, false) l k = (okind vs l k, decide (otag l k = 20)) := by
  have e1 := okind_drop vs h
  have e2 := oblk_drop vs h
  rw [val_drop _ _ h]
  rw [e1, e2]

/-- What is told of a node that is typed, by its tag. -/
theorem kind_of_tag {vs : List Int} {x : Nd} {ks : List (Int × Int)} (h : 0 ≤ rule vs x ks) :
    ((x.1 = 21 ∨ x.1 = 22 ∨ x.1 = 23 ∨ x.1 = 24 ∨ x.1 = 25) → rule vs x ks = 2) ∧ (x.1 = 23 → ks.map Prod.fst = [1, 2, 2]) ∧ (x.1 = 24 → ks.map Prod.fst = [1, 2]) ∧ (x.1 = 25 → ks.map Prod.fst = [0]) ∧ (x.1 = 20 → rule vs x ks = 2) := by
  refine ⟨?_, ?_, ?_, ?_, ?_⟩
  · rintro (q | q | q | q | q) <;> (unfold rule at h ⊢; simp only [q] at h ⊢; simp at h ⊢; have := ifso_ge h; unfold ifso; rw [if_pos this])
  · intro q; unfold rule at h; simp only [q] at h; simp at h; exact (ifso_ge h).1
  · intro q; unfold rule at h; simp only [q] at h; simp at h; exact (ifso_ge h).1
  · intro q; unfold rule at h; simp only [q] at h; simp at h; exact ifso_ge h
  · intro q; unfold rule at h ⊢; simp only [q] at h ⊢; simp at h ⊢; have := ifso_ge h; unfold ifso; rw [if_pos this]

/-- What is known of a node of a typed program. -/
theorem typed_at {ps : Int} {vs : List Int} {l : List Nd} (hc : pcheck ps vs l = 0) {a : Nat} (ha : a < l.length) : ∃ (x : Nd) (n : Nat), l[a]? = some x ∧ 0 ≤ ar x ∧ scan 1 (l.drop a) = some n ∧ 0 ≤ okind vs l a ∧ (akids l a).length = (ar x).toNat ∧
    okind vs l a = rule vs x ((akids l a).map fun q => (okind vs l q, otag l q)) ∧ otag l a = x.1 ∧ scan 1 l = some l.length ∧ l.length ≤ 200 := by
  obtain ⟨c1, c2, c3, c4⟩ := pcheck_zero hc
  obtain ⟨l1, hw⟩ := acheck_zero c1
  obtain ⟨n, hn⟩ := scan_at l 1 a hw ha
  obtain ⟨x, e1, e2, e3, e4⟩ := okind_kids (vs := vs) hn
  refine ⟨x, n, e1, e2, hn, okind_below hw (by omega) hn, e3, e4, ?_, hw, l1⟩
  unfold otag
  rw [Int.toNat_natCast, getD_at e1]
theorem ar_two {t k : Int} (h : 7 ≤ t ∧ t ≤ 19) : ar (t, k) = if k < 0 ∨ 0 < k then -1 else 2 := by
  have ha : asks t k = (2, 0) := by
    unfold asks
    rw [if_neg (by omega), if_neg (by omega), if_neg (by omega), if_neg (by omega), if_neg (by omega), if_pos (by omega)]
  unfold ar
  simp only
  rw [if_neg (by omega), ha]
/-- What is told of a body that is changed. -/
def Told (ps : Int) (vs : List Int) (l l' : List Nd) (a : Nat) : Prop := okind vs l' 0 = 2 ∧ okind vs l' a = okind vs l a ∧ pcheck ps vs l' = 0
theorem root_told {ps : Int} {vs : List Int} {l : List Nd} (hc : pcheck ps vs l = 0) {a : Nat} {x x' : Nd} (hx : l[a]? = some x) (h : ar x = ar x') (hk : ∀ K, kb vs x' K = kb vs x K) : Told ps vs l (swap l a (a + 1) [x']) a := by
  have e := at_split hx
  have ha : a < l.length := (List.getElem?_eq_some_iff.1 hx).1
  obtain ⟨c1, -, -, -⟩ := pcheck_zero hc
  obtain ⟨l1, hw⟩ := acheck_zero c1
  have hlt : (l.take a).length = a := by rw [List.length_take]; omega
  have e2 : swap l a (a + 1) [x'] = l.take a ++ (x' :: l.drop (a + 1)) := by unfold swap; simp
  have hlen : (l.take a ++ (x' :: l.drop (a + 1))).length = l.length := by
    conv => rhs; rw [e]
    simp
  rw [e2]
  unfold Told
  have hc' := hc
  rw [e] at hc'
  have hb : scan 1 (l.take a ++ (x' :: l.drop (a + 1))) = some (l.take a ++ (x' :: l.drop (a + 1))).length := by
    rw [scan_root h, hlen, ← e]; exact hw
  have q := typed_less hc' (fold_root vs h _ hk) (stk_root h _) hb (by rw [hlen]; exact l1) (k := a) (by omega) (by rw [hlen]; exact ha) (by rw [← e]; exact ha)
  rw [← e] at q
  exact q
theorem arith_told {ps : Int} {vs : List Int} {l : List Nd} (hc : pcheck ps vs l = 0) {a : Nat} {x : Nd} (hx : l[a]? = some x) {n : Int}
    (h : (7 ≤ x.1 ∧ x.1 ≤ 11 ∧ 7 ≤ n ∧ n ≤ 11) ∨ (12 ≤ x.1 ∧ x.1 ≤ 17 ∧ 12 ≤ n ∧ n ≤ 17) ∨ (18 ≤ x.1 ∧ x.1 ≤ 19 ∧ 18 ≤ n ∧ n ≤ 19)) : Told ps vs l (swap l a (a + 1) [(n, x.2)]) a := by
  refine root_told hc hx ?_ (fun K => ?_)
  · obtain ⟨t, k⟩ := x
    simp only at h ⊢
    rw [ar_two (by omega), ar_two (by omega)]
  · unfold kb ruleB
    simp only
    rcases h with ⟨h1, h2, h3, h4⟩ | ⟨h1, h2, h3, h4⟩ | ⟨h1, h2, h3, h4⟩
    · rw [if_neg (by omega), if_neg (by omega), if_neg (by omega), if_neg (by omega), if_neg (by omega), if_neg (by omega), if_pos (by omega), if_neg (by omega), if_neg (by omega), if_neg (by omega), if_neg (by omega), if_neg (by omega), if_neg (by omega), if_pos (by omega), decide_eq_false (by omega), decide_eq_false (by omega)]
    · rw [if_neg (by omega), if_neg (by omega), if_neg (by omega), if_neg (by omega), if_neg (by omega), if_neg (by omega), if_neg (by omega), if_pos (by omega), if_neg (by omega), if_neg (by omega), if_neg (by omega), if_neg (by omega), if_neg (by omega), if_neg (by omega), if_neg (by omega), if_pos (by omega), decide_eq_false (by omega), decide_eq_false (by omega)]
    · rw [if_neg (by omega), if_neg (by omega), if_neg (by omega), if_neg (by omega), if_neg (by omega), if_neg (by omega), if_neg (by omega), if_neg (by omega), if_pos (by omega), if_neg (by omega), if_neg (by omega), if_neg (by omega), if_neg (by omega), if_neg (by omega), if_neg (by omega), if_neg (by omega), if_neg (by omega), if_pos (by omega), decide_eq_false (by omega), decide_eq_false (by omega)]
theorem const_told {ps : Int} {vs : List Int} {l : List Nd} (hc : pcheck ps vs l = 0) {a : Nat} {x : Nd} (hx : l[a]? = some x) {n : Int}
    (h : x.1 = 1 ∨ (x.1 = 2 ∧ 0 ≤ n ∧ n ≤ 1)) : Told ps vs l (swap l a (a + 1) [(x.1, n)]) a := by
  have ha : a < l.length := (List.getElem?_eq_some_iff.1 hx).1
  obtain ⟨x2, m, e1, e2, -⟩ := typed_at hc ha
  rw [hx] at e1
  obtain rfl := Option.some.inj e1
  obtain ⟨t, k⟩ := x
  simp only at h
  rcases h with rfl | ⟨rfl, h1, h2⟩
  · exact root_told hc hx rfl (fun K => rfl)
  · refine root_told hc hx ?_ (fun K => rfl)
    have q : ∀ z : Int, ar (2, z) = if z < 0 ∨ 1 < z then -1 else 0 := fun z => by unfold ar asks; simp
    rw [q] at e2
    rw [q, q]
    split at e2
    · omega
    · rename_i c
      rw [if_neg c, if_neg (show ¬ (n < 0 ∨ 1 < n) by omega)]
/-- A part of which another one stands instead, that tells the same and is no deeper. -/
theorem part_told {ps : Int} {vs : List Int} {l m : List Nd} (hc : pcheck ps vs l = 0) (hl : l.length + m.length ≤ 200) {a k n : Nat} (ha : a ≤ k) (h : scan 1 (l.drop k) = some n) (hm : scan 1 m = some m.length) (hv : val (kb vs) (-1, false) m 0 = val (kb vs) (-1, false) l k) (hd : adep m 0 ≤ adep (apart l k) 0) : Told ps vs l (l.take k ++ (m ++ l.drop (k + n))) a := by
  obtain ⟨hs, ht⟩ := split3 h
  obtain ⟨c1, -, -, -⟩ := pcheck_zero hc
  obtain ⟨l1, hw⟩ := acheck_zero c1
  obtain ⟨r1, r2⟩ := rep_whole hw h hm
  rw [rep_is h] at r1 r2
  have hll := scan_le _ _ _ h
  rw [List.length_drop] at hll
  have hp := part_scan h
  rw [← part_len h] at hp
  have hm1 := (scan_le _ _ _ hm).1
  have hc' := hc
  rw [hs] at hc'
  unfold Told
  have q := typed_less hc' (A := apart l k ++ l.drop (k + n)) (B := m ++ l.drop (k + n)) (by
      rw [fold_part_add _ hp _ (-1, false), fold_part_add _ hm _ (-1, false), hv, val_part _ _ h])
    (by rw [stk_add hp, stk_add hm]; exact ⟨hd, less_refl _⟩) r1 (by omega) (k := a) (by omega) (by omega) (by rw [← hs]; omega)
  rw [← hs] at q
  exact q
theorem leaf_scan {x : Nd} (h : ar x = 0) : scan 1 ([x] : List Nd) = some [x].length := by
  rw [show (1 : Nat) = 0 + 1 from rfl, scan_good (by omega), h]
  show (scan 0 []).map (· + 1) = some 1
  rw [scan_0]; rfl
theorem adep_leaf {x : Nd} (h : ar x = 0) : adep [x] 0 = 1 := by
  have hs : scan 1 ([x] : List Nd) = some 1 := leaf_scan h
  have q := stk_whole (l := [x]) (k := 0) hs
  rw [List.drop_zero, show ([x] : List Nd).take 1 = [x] from rfl, stk, h] at q
  simp [stk, most] at q
  exact q.symm
theorem leaf_val (vs : List Int) {x : Nd} (h : ar x = 0) : val (kb vs) (-1, false) [x] 0 = kb vs x [] := by
  have e := val_drop (kb vs) (-1, false) (l := [x]) (k := 0) (n := 1) (leaf_scan h)
  rw [show ((0 : Nat) : Int) = 0 from rfl] at e
  rw [e, List.drop_zero, fold_cons, h]
  rfl
theorem leaf_told {ps : Int} {vs : List Int} {l : List Nd} (hc : pcheck ps vs l = 0) (hl : l.length ≤ 199) {a k n : Nat} (ha : a ≤ k) (h : scan 1 (l.drop k) = some n) {x : Nd} (hx : ar x = 0) (hv : kb vs x [] = (okind vs l k, decide (otag l k = 20))) : Told ps vs l (l.take k ++ ([x] ++ l.drop (k + n))) a := by
  have hp := part_scan h
  rw [← part_len h] at hp
  refine part_told hc (by simp; omega) ha h (leaf_scan hx) ?_ ?_
  · rw [leaf_val vs hx, hv, val_kb vs h]
  · rw [adep_leaf hx]; exact adep_pos hp

/-- A node's first kid stands right behind it. -/
theorem first_kid {vs : List Int} {l : List Nd} {a n : Nat} (h : scan 1 (l.drop a) = some n) {k1 : Int} {ks : List Int} (hk : ((akids l a).map fun q => (okind vs l q, otag l q)).map Prod.fst = k1 :: ks) : okind vs l ((a + 1 : Nat) : Int) = k1 ∧ ∃ n1, scan 1 (l.drop (a + 1)) = some n1 := by
  obtain ⟨x, -, -, e, hs, -, -⟩ := node_kids h
  rw [e] at hk
  cases hc : (ar x).toNat with
  | zero => rw [hc] at hk; simp [kidsFrom] at hk
  | succ c =>
    rw [hc, kidsFrom] at hk
    rw [hc, Nat.add_comm, scan_add] at hs
    simp only [List.map_cons, List.cons.injEq] at hk
    refine ⟨hk.1, ?_⟩
    cases h1 : scan 1 (l.drop (a + 1)) with
    | none => rw [h1] at hs; cases hs
    | some n1 => exact ⟨n1, rfl⟩
/-- A kind that is no statement's is no block's. -/
theorem no_block {ps : Int} {vs : List Int} {l : List Nd} (hc : pcheck ps vs l = 0) {k : Nat} (hk : k < l.length) (h : okind vs l k ≠ 2) : otag l k ≠ 20 := by
  obtain ⟨x, n, e1, e2, e3, e4, e5, e6, e7, -⟩ := typed_at hc hk
  intro q
  rw [e7] at q
  rw [e6] at e4 h
  exact h ((kind_of_tag e4).2.2.2.2 q)

/-- A TYPED PROGRAM THAT IS CHANGED IS TYPED, unless it becomes too deep by a Not; what is changed has the same kind. -/
theorem dch_typed {ps : Int} {vs : List Int} {l : List Nd} (hc : pcheck ps vs l = 0) (hl : l.length ≤ 199) {a : Nat} {x : Nd} (hx : l[a]? = some x) {op n : Int} (hm : dmay x.1 op n = true) :
    okind vs (dch l a op n) 0 = 2 ∧ okind vs (dch l a op n) a = okind vs l a ∧ (pcheck ps vs (dch l a op n) = 0 ∨ (pcheck ps vs (dch l a op n) = 13 ∧ op = 6)) := by
  have ha : a < l.length := (List.getElem?_eq_some_iff.1 hx).1
  obtain ⟨x2, nn, e1, e2, e3, e4, e5, e6, e7, hw, -⟩ := typed_at hc ha
  rw [hx] at e1
  obtain rfl := Option.some.inj e1
  have hg := getD_at hx
  have hT : ∀ l', Told ps vs l l' a → okind vs l' 0 = 2 ∧ okind vs l' a = okind vs l a ∧ (pcheck ps vs l' = 0 ∨ (pcheck ps vs l' = 13 ∧ op = 6)) := fun l' t => ⟨t.1, t.2.1, .inl t.2.2⟩
  have e4' := e4
  rw [e6] at e4'
  have hkt := kind_of_tag e4'
  unfold dmay at hm
  unfold dch
  rw [hg]
  by_cases o1 : op = 1
  · rw [if_pos o1] at hm
    rw [if_pos (.inl o1)]
    simp at hm
    exact hT _ (arith_told hc hx (.inl ⟨hm.1.1, hm.1.2, hm.2.1, hm.2.2⟩))
  rw [if_neg o1] at hm
  by_cases o2 : op = 2
  · rw [if_pos o2] at hm
    rw [if_pos (.inr (.inl o2))]
    simp at hm
    exact hT _ (arith_told hc hx (.inr (.inl ⟨hm.1.1, hm.1.2, hm.2.1, hm.2.2⟩)))
  rw [if_neg o2] at hm
  by_cases o3 : op = 3
  · rw [if_pos o3] at hm
    rw [if_pos (.inr (.inr o3))]
    simp at hm
    exact hT _ (arith_told hc hx (.inr (.inr ⟨hm.1.1, hm.1.2, hm.2.1, hm.2.2⟩)))
  rw [if_neg o3] at hm
  rw [if_neg (by omega)]
  by_cases o4 : op = 4
  · rw [if_pos o4] at hm
    rw [if_pos o4]
    simp at hm
    exact hT _ (const_told hc hx (hm.imp id (fun q => ⟨q.1, q.2.1, q.2.2⟩)))
  rw [if_neg o4] at hm
  rw [if_neg o4]
  by_cases o5 : op = 5
  · rw [if_pos o5] at hm
    rw [if_pos o5]
    simp at hm
    have hk2 := hkt.1 hm.1
    have hd : (aend l a).toNat = a + nn := by rw [aend_some e3]; omega
    have q := leaf_told hc hl (Nat.le_refl a) e3 (x := (26, 0)) (by unfold ar asks; simp) (by
      rw [e6, hk2, e7, decide_eq_false (by omega)]
      unfold kb ruleB
      simp)
    rw [hd]
    unfold swap
    rw [List.append_assoc]
    exact hT _ q
  rw [if_neg o5] at hm
  rw [if_neg o5]
  by_cases o6 : op = 6
  · rw [if_pos o6] at hm
    rw [if_pos o6]
    simp at hm
    have hfk : ∃ ks, ((akids l a).map fun q => (okind vs l q, otag l q)).map Prod.fst = 1 :: ks := by
      rcases hm.1 with q | q
      · exact ⟨_, hkt.2.1 q⟩
      · exact ⟨_, hkt.2.2.1 q⟩
    obtain ⟨ks, hks⟩ := hfk
    obtain ⟨k1, n1, hn1⟩ := first_kid e3 hks
    have hll := scan_le _ _ _ hn1
    rw [List.length_drop] at hll
    have hnb := no_block hc (k := a + 1) (by omega) (by rw [k1]; omega)
    obtain ⟨hs, ht⟩ := split3 hn1
    have hp := part_scan hn1
    rw [← part_len hn1] at hp
    have hm6 : scan 1 ((6, 0) :: apart l ((a + 1 : Nat) : Int)) = some ((6, 0) :: apart l ((a + 1 : Nat) : Int)).length := by
      have h6 : ar (6, 0) = 1 := by unfold ar asks; simp
      rw [show (1 : Nat) = 0 + 1 from rfl, scan_good (by rw [h6]; omega), h6]
      show (scan 1 (apart l ((a + 1 : Nat) : Int))).map (· + 1) = _
      rw [hp]; rfl
    obtain ⟨r1, r2⟩ := rep_whole hw hn1 hm6
    rw [rep_is hn1] at r1 r2
    have e9 : swap l (a + 1) (a + 1) [(6, 0)] = l.take (a + 1) ++ ((6, 0) :: apart l ((a + 1 : Nat) : Int) ++ l.drop (a + 1 + n1)) := by
      unfold swap
      have : l.drop (a + 1) = apart l ((a + 1 : Nat) : Int) ++ l.drop (a + 1 + n1) := by
        conv => lhs; rw [hs, List.drop_left' ht]
      rw [this]; simp
    rw [e9]
    have hpl := part_len hn1
    simp only [List.length_cons] at r2
    have hc' := hc
    rw [hs] at hc'
    have hf : fold (kb vs) (apart l ((a + 1 : Nat) : Int) ++ l.drop (a + 1 + n1)) = fold (kb vs) ((6, 0) :: apart l ((a + 1 : Nat) : Int) ++ l.drop (a + 1 + n1)) := by
      have h6 : ar (6, 0) = 1 := by unfold ar asks; simp
      rw [List.cons_append, fold_cons, h6, fold_part_add _ hp _ (-1, false), val_part _ _ hn1, val_kb vs hn1, k1, decide_eq_false hnb]
      show _ = kb vs (6, 0) [(1, false)] :: fold (kb vs) (l.drop (a + 1 + n1))
      unfold kb ruleB ifso
      simp
    have q := typed_of hc' hf r1 (by omega) (k := a) (by omega) (by omega) (by rw [← hs]; omega)
    rw [← hs] at q
    obtain ⟨q1, q2, q3⟩ := q
    refine ⟨q1, q2, ?_⟩
    rw [q3]
    split
    · exact .inr ⟨rfl, o6⟩
    · exact .inl rfl
  rw [if_neg o6] at hm
  rw [if_neg o6]
  by_cases o7 : op = 7
  · rw [if_pos o7, decide_eq_true_eq] at hm
    obtain ⟨k1, n1, hn1⟩ := first_kid e3 (hkt.2.2.2.1 hm)
    have hll := scan_le _ _ _ hn1
    rw [List.length_drop] at hll
    have hnb := no_block hc (k := a + 1) (by omega) (by rw [k1]; omega)
    have hd : (aend l ((a + 1 : Nat) : Int)).toNat = a + 1 + n1 := by rw [aend_some hn1]; omega
    have q := leaf_told hc hl (Nat.le_succ a) hn1 (x := (1, n)) (by unfold ar; simp) (by
      rw [k1, decide_eq_false hnb]
      unfold kb ruleB
      simp)
    rw [hd]
    unfold swap
    rw [List.append_assoc]
    exact hT _ q
  · rw [if_neg o7] at hm; cases hm

end Go.Proofs.YthkhonkibigdaaaGreat.Delta
