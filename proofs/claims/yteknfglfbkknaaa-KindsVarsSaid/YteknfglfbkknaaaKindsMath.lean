/-
  Plain facts on kinds: a node's kind, by its tag, its number, variables, and its kids' kinds and tags. No program is met here.
-/
import Derived.Test.YteknfglfbkknaaaArenaFold
namespace Go.Proofs.Yteknfglfbkknaaa.Kinds
open _root_.Go.Proofs.Yteknfglfbkknaaa.Arena

/-- A variable's type; -1: there is none. -/
def vtyp (vs : List Int) (v : Int) : Int := if v < 0 then -1 else vs.getD v.toNat (-1)
def asz (t : Int) : Int := if t < 2 ∨ 9 < t then 0 else t - 1
/-- If so, a kind; else -1. -/
def ifso (p : Prop) [Decidable p] (k : Int) : Int := if p then k else -1
theorem ifso_ge {p : Prop} [Decidable p] {k : Int} (h : 0 ≤ ifso p k) : p := by
  unfold ifso at h; split at h
  · assumption
  · omega
/-- Are the kids from the second one on blocks? -/
def blks (ks : List (Int × Int)) : Bool := (ks.drop 1).all fun y => decide (y.2 = 20)
/-- Are all of kind 2? -/
def alltwo (q : List Int) : Bool := q.all fun k => decide (k = 2)
/-- A node's kind, of its kids' kinds and tags. -/
def rule (vs : List Int) (x : Nd) (ks : List (Int × Int)) : Int :=
  if x.1 = 1 then 0 else if x.1 = 2 then 1
  else if x.1 = 3 then ifso (vtyp vs x.2 = 0 ∨ vtyp vs x.2 = 1) (vtyp vs x.2)
  else if x.1 = 4 then ifso (0 < asz (vtyp vs x.2) ∧ ks.map Prod.fst = [0]) 0
  else if x.1 = 5 then ifso (ks.map Prod.fst = [0]) 0
  else if x.1 = 6 then ifso (ks.map Prod.fst = [1]) 1
  else if 7 ≤ x.1 ∧ x.1 ≤ 11 then ifso (ks.map Prod.fst = [0, 0]) 0
  else if 12 ≤ x.1 ∧ x.1 ≤ 17 then ifso (ks.map Prod.fst = [0, 0]) 1
  else if x.1 = 18 ∨ x.1 = 19 then ifso (ks.map Prod.fst = [1, 1]) 1
  else if x.1 = 20 then ifso (alltwo (ks.map Prod.fst) = true) 2
  else if x.1 = 21 then ifso ((vtyp vs x.2 = 0 ∨ vtyp vs x.2 = 1) ∧ ks.map Prod.fst = [vtyp vs x.2]) 2
  else if x.1 = 22 then ifso (0 < asz (vtyp vs x.2) ∧ ks.map Prod.fst = [0, 0]) 2
  else if x.1 = 23 then ifso (ks.map Prod.fst = [1, 2, 2] ∧ blks ks = true) 2
  else if x.1 = 24 then ifso (ks.map Prod.fst = [1, 2] ∧ blks ks = true) 2
  else if x.1 = 25 then ifso (ks.map Prod.fst = [0]) 2
  else 2
theorem rule_range (vs : List Int) (x : Nd) (ks : List (Int × Int)) : -1 ≤ rule vs x ks ∧ rule vs x ks ≤ 2 := by
  unfold rule ifso
  repeat' split
  all_goals omega

/-- A node's kind and tag. -/
def kd (vs : List Int) (x : Nd) (ks : List (Int × Int)) : Int × Int := (rule vs x ks, x.1)
def okind (vs : List Int) (l : List Nd) (a : Int) : Int := (val (kd vs) (-1, 0) l a).1
def otag (l : List Nd) (a : Int) : Int := (l.getD a.toNat (0, 0)).1
theorem okind_bad {vs : List Int} {l : List Nd} {a : Int} (h : aend l a < 0) : okind vs l a = -1 := by unfold okind; rw [val_bad _ _ h]
theorem val_tag {vs : List Int} {l : List Nd} {k n : Nat} (h : scan 1 (l.drop k) = some n) : val (kd vs) (-1, 0) l k = (okind vs l k, otag l k) := by
  obtain ⟨x, hx, -, -, hv⟩ := val_kids (kd vs) (-1, 0) h
  have ht : otag l k = x.1 := by
    unfold otag
    rw [Int.toNat_natCast, List.getD_eq_getElem?_getD, hx]
    rfl
  have h2 : (val (kd vs) (-1, 0) l k).2 = x.1 := by rw [hv]; rfl
  unfold okind
  rw [ht, ← h2]
/-- A node's kind, of its kids'. -/
theorem okind_kids {vs : List Int} {l : List Nd} {k n : Nat} (h : scan 1 (l.drop k) = some n) : ∃ x, l[k]? = some x ∧ 0 ≤ ar x ∧ (akids l k).length = (ar x).toNat ∧ okind vs l k = rule vs x ((akids l k).map fun q => (okind vs l q, otag l q)) := by
  obtain ⟨x, hx, h0, hl, hv⟩ := val_kids (kd vs) (-1, 0) h
  refine ⟨x, hx, h0, hl, ?_⟩
  have hm : (akids l k).map (val (kd vs) (-1, 0) l) = (akids l k).map fun q => (okind vs l q, otag l q) := by
    apply List.map_congr_left
    intro q hq
    have h2 := (kids_in h q hq).2.2
    rcases aend_cases l q with h' | ⟨k', n', rfl, hs', -⟩
    · omega
    · exact val_tag hs'
  unfold okind
  rw [hv, hm]
  rfl
theorem okind_range (vs : List Int) (l : List Nd) (a : Int) : -1 ≤ okind vs l a ∧ okind vs l a ≤ 2 := by
  rcases aend_cases l a with h | ⟨k, n, rfl, hs, -⟩
  · rw [okind_bad (by omega)]; omega
  · obtain ⟨x, -, -, -, hv⟩ := okind_kids (vs := vs) hs
    rw [hv]; exact rule_range _ _ _
theorem okind_part {vs : List Int} {l : List Nd} {k n : Nat} (h : scan 1 (l.drop k) = some n) : okind vs (apart l k) 0 = okind vs l k := by unfold okind; rw [val_part _ _ h]

/-- What is of some kind has kids of some kind. -/
theorem rule_good {vs : List Int} (x : Nd) (ks : List (Int × Int)) (hx : 0 ≤ ar x) (hl : ks.length = (ar x).toNat) (h : 0 ≤ rule vs x ks) : ∀ y ∈ ks, 0 ≤ y.1 := by
  have key : ∀ L : List Int, ks.map Prod.fst = L → (∀ z ∈ L, 0 ≤ z) → ∀ y ∈ ks, 0 ≤ y.1 := by
    intro L hL hz y hy
    exact hz _ (by rw [← hL]; exact List.mem_map.2 ⟨y, hy, rfl⟩)
  have none : (ar x).toNat = 0 → ∀ y ∈ ks, 0 ≤ y.1 := by
    intro h0 y hy
    rw [List.length_eq_zero_iff.1 (hl.trans h0)] at hy; cases hy
  obtain ⟨t, n⟩ := x
  unfold rule at h
  simp only at h
  by_cases h1 : t = 1
  · subst h1; exact none (by simp [ar])
  rw [if_neg h1] at h
  by_cases h2 : t = 2
  · subst h2; exact none (by simp [ar, asks]; split <;> omega)
  rw [if_neg h2] at h
  by_cases h3 : t = 3
  · subst h3; exact none (by simp [ar, asks]; split <;> omega)
  rw [if_neg h3] at h
  by_cases h4 : t = 4
  · rw [if_pos h4] at h; exact key _ (ifso_ge h).2 (by simp)
  rw [if_neg h4] at h
  by_cases h5 : t = 5
  · rw [if_pos h5] at h; exact key _ (ifso_ge h) (by simp)
  rw [if_neg h5] at h
  by_cases h6 : t = 6
  · rw [if_pos h6] at h; exact key _ (ifso_ge h) (by simp)
  rw [if_neg h6] at h
  by_cases h7 : 7 ≤ t ∧ t ≤ 11
  · rw [if_pos h7] at h; exact key _ (ifso_ge h) (by simp)
  rw [if_neg h7] at h
  by_cases h12 : 12 ≤ t ∧ t ≤ 17
  · rw [if_pos h12] at h; exact key _ (ifso_ge h) (by simp)
  rw [if_neg h12] at h
  by_cases h18 : t = 18 ∨ t = 19
  · rw [if_pos h18] at h; exact key _ (ifso_ge h) (by simp)
  rw [if_neg h18] at h
  by_cases h20 : t = 20
  · rw [if_pos h20] at h
    have := ifso_ge h
    intro y hy
    unfold alltwo at this
    rw [List.all_eq_true] at this
    have := this y.1 (List.mem_map.2 ⟨y, hy, rfl⟩)
    simp at this
    omega
  rw [if_neg h20] at h
  by_cases h21 : t = 21
  · rw [if_pos h21] at h
    obtain ⟨q1, q2⟩ := ifso_ge h
    exact key _ q2 (by intro z hz; rw [List.mem_singleton] at hz; omega)
  rw [if_neg h21] at h
  by_cases h22 : t = 22
  · rw [if_pos h22] at h; exact key _ (ifso_ge h).2 (by simp)
  rw [if_neg h22] at h
  by_cases h23 : t = 23
  · rw [if_pos h23] at h; exact key _ (ifso_ge h).1 (by simp)
  rw [if_neg h23] at h
  by_cases h24 : t = 24
  · rw [if_pos h24] at h; exact key _ (ifso_ge h).1 (by simp)
  rw [if_neg h24] at h
  by_cases h25 : t = 25
  · rw [if_pos h25] at h; exact key _ (ifso_ge h) (by simp)
  by_cases h26 : t = 26
  · subst h26; exact none (by simp [ar, asks]; split <;> omega)
  · exfalso
    unfold ar asks at hx
    rw [if_neg h1, if_neg h2, if_neg h3, if_neg (by omega), if_neg h22, if_neg (by omega), if_neg (by omega), if_neg h20, if_neg h23, if_neg h26] at hx
    simp only at hx
    split at hx <;> omega

/-- WHAT A TYPED PROGRAM HAS BELOW A NODE IS TYPED, TOO. -/
theorem okind_below {vs : List Int} {l : List Nd} (hw : scan 1 l = some l.length) (h0 : 0 ≤ okind vs l 0) {k n : Nat} (h : scan 1 (l.drop k) = some n) : 0 ≤ okind vs l k :=
  val_good (kd vs) (-1, 0) (fun y => 0 ≤ y.1) (fun x ks h1 h2 h3 => rule_good x ks h1 h2 h3) hw h0 h
/-- With a part of the same kind and tag instead, a program stays so. -/
theorem okind_rep {vs : List Int} {l m : List Nd} {k n : Nat} (hw : scan 1 l = some l.length) (h : scan 1 (l.drop k) = some n) (hm : scan 1 m = some m.length) (hk : okind vs m 0 = okind vs l k) (ht : otag m 0 = otag l k) : okind vs (arep l k m) 0 = okind vs l 0 ∧ otag (arep l k m) 0 = otag l 0 := by
  have hr := (rep_whole hw h hm).1
  have e := val_rep (kd vs) (-1, 0) hw h hm (by
    have a1 := val_tag (vs := vs) (l := m) (k := 0) (n := m.length) hm
    have a2 := val_tag (vs := vs) h
    rw [a2, ← hk, ← ht]
    exact a1)
  have b1 := val_tag (vs := vs) (l := arep l k m) (k := 0) (n := (arep l k m).length) hr
  have b2 := val_tag (vs := vs) (l := l) (k := 0) (n := l.length) hw
  rw [show ((0 : Nat) : Int) = 0 from rfl] at b1 b2
  rw [b1, b2] at e
  exact ⟨(Prod.mk.inj e).1, (Prod.mk.inj e).2⟩

/-- A variable more makes no difference where there is a kind. -/
theorem vtyp_more (vs : List Int) (t v : Int) (h : 0 ≤ vtyp vs v) : vtyp (vs ++ [t]) v = vtyp vs v := by
  unfold vtyp at *
  by_cases hv : v < 0
  · rw [if_pos hv, if_pos hv]
  · rw [if_neg hv] at h ⊢
    rw [if_neg hv]
    rw [List.getD_eq_getElem?_getD] at h ⊢
    rw [List.getD_eq_getElem?_getD]
    rcases Nat.lt_or_ge v.toNat vs.length with q | q
    · rw [List.getElem?_append_left q]
    · rw [List.getElem?_eq_none q] at h
      simp at h
theorem asz_pos {t : Int} (h : 0 < asz t) : 0 ≤ t := by unfold asz at h; split at h <;> omega
theorem rule_more (vs : List Int) (t : Int) (x : Nd) (ks : List (Int × Int)) (h : 0 ≤ rule vs x ks) : rule (vs ++ [t]) x ks = rule vs x ks := by
  have hv : 0 ≤ vtyp vs x.2 → vtyp (vs ++ [t]) x.2 = vtyp vs x.2 := vtyp_more vs t x.2
  unfold rule at h ⊢
  by_cases h1 : x.1 = 1
  · rw [if_pos h1, if_pos h1]
  rw [if_neg h1] at h
  rw [if_neg h1, if_neg h1]
  by_cases h2 : x.1 = 2
  · rw [if_pos h2, if_pos h2]
  rw [if_neg h2] at h
  rw [if_neg h2, if_neg h2]
  by_cases h3 : x.1 = 3
  · rw [if_pos h3] at h
    rw [if_pos h3, if_pos h3, hv (by have := ifso_ge h; omega)]
  rw [if_neg h3] at h
  rw [if_neg h3, if_neg h3]
  by_cases h4 : x.1 = 4
  · rw [if_pos h4] at h
    rw [if_pos h4, if_pos h4, hv (by exact asz_pos (ifso_ge h).1)]
  rw [if_neg h4] at h
  rw [if_neg h4, if_neg h4]
  by_cases h5 : x.1 = 5
  · rw [if_pos h5, if_pos h5]
  rw [if_neg h5] at h
  rw [if_neg h5, if_neg h5]
  by_cases h6 : x.1 = 6
  · rw [if_pos h6, if_pos h6]
  rw [if_neg h6] at h
  rw [if_neg h6, if_neg h6]
  by_cases h7 : 7 ≤ x.1 ∧ x.1 ≤ 11
  · rw [if_pos h7, if_pos h7]
  rw [if_neg h7] at h
  rw [if_neg h7, if_neg h7]
  by_cases h12 : 12 ≤ x.1 ∧ x.1 ≤ 17
  · rw [if_pos h12, if_pos h12]
  rw [if_neg h12] at h
  rw [if_neg h12, if_neg h12]
  by_cases h18 : x.1 = 18 ∨ x.1 = 19
  · rw [if_pos h18, if_pos h18]
  rw [if_neg h18] at h
  rw [if_neg h18, if_neg h18]
  by_cases h20 : x.1 = 20
  · rw [if_pos h20, if_pos h20]
  rw [if_neg h20] at h
  rw [if_neg h20, if_neg h20]
  by_cases h21 : x.1 = 21
  · rw [if_pos h21] at h
    rw [if_pos h21, if_pos h21, hv (by have := (ifso_ge h).1; omega)]
  rw [if_neg h21] at h
  rw [if_neg h21, if_neg h21]
  by_cases h22 : x.1 = 22
  · rw [if_pos h22] at h
    rw [if_pos h22, if_pos h22, hv (by exact asz_pos (ifso_ge h).1)]
  rw [if_neg h22] at h
  rw [if_neg h22, if_neg h22]
theorem fold_more (vs : List Int) (t : Int) : ∀ (X : List Nd) (c : Nat), scan c X = some X.length → (∀ y ∈ fold (kd vs) X, 0 ≤ y.1) → fold (kd (vs ++ [t])) X = fold (kd vs) X
  | [], _, _, _ => rfl
  | x :: X, 0, h, _ => by rw [scan_0] at h; simp at h
  | x :: X, c + 1, h, hg => by
    have hg1 := fold_good (kd vs) (fun y => 0 ≤ y.1) (fun x ks h1 h2 h3 => rule_good x ks h1 h2 h3) (x :: X) (c + 1) 1 h hg (by simp)
    rw [List.drop_succ_cons, List.drop_zero] at hg1
    by_cases hx : ar x < 0
    · rw [scan_bad hx] at h; cases h
    · rw [scan_good (by omega), Option.map_eq_some_iff] at h
      obtain ⟨m, h, hm⟩ := h
      rw [List.length_cons] at hm
      obtain rfl : m = X.length := by omega
      have h0 := hg (kd vs x ((fold (kd vs) X).take (ar x).toNat)) (by rw [fold_cons]; exact List.mem_cons_self ..)
      rw [fold_cons, fold_cons, fold_more vs t X _ h hg1]
      congr 1
      exact Prod.ext (rule_more vs t x _ h0) rfl
theorem okind_more {vs : List Int} {l : List Nd} (t : Int) (hw : scan 1 l = some l.length) (h0 : 0 ≤ okind vs l 0) : okind (vs ++ [t]) l 0 = okind vs l 0 := by
  have e0 : fold (kd vs) l = [val (kd vs) (-1, 0) l 0] := by
    have := fold_part (kd vs) (-1, 0) (l := l) (k := 0) (n := l.length) hw
    rw [show ((0 : Nat) : Int) = 0 from rfl, whole_part hw] at this
    exact this
  have e := fold_more vs t l 1 hw (by rw [e0]; intro y hy; rw [List.mem_singleton] at hy; rw [hy]; exact h0)
  unfold okind val
  rw [whole_part hw, e]

/-- What is wrong with variables; with a program. -/
def varsOk (ps : Int) (vs : List Int) : Bool := decide (0 ≤ ps ∧ ps ≤ vs.length ∧ vs.length ≤ 12) && (vs.zipIdx.all fun y => decide (0 ≤ y.1 ∧ y.1 ≤ 9 ∧ ((y.2 : Int) < ps → y.1 = 0)))

end Go.Proofs.Yteknfglfbkknaaa.Kinds
