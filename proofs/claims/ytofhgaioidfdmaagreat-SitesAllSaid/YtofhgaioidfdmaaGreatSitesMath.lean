/-
  Plain facts on all mutants of a program: in order, each once, just those that the catalogue lets. No program is met here.
-/
import Derived.Test.YtofhgaioidfdmaaGreatCatG
import Derived.Test.YtofhgaioidfdmaaGreatDeltaG
set_option linter.unusedVariables false
namespace Go.Proofs.YtofhgaioidfdmaaGreat.Sites
open _root_.Go.Proofs.YtofhgaioidfdmaaGreat.Arena _root_.Go.Proofs.YtofhgaioidfdmaaGreat.Delta _root_.Go.Proofs.YtofhgaioidfdmaaGreat.Path _root_.Go.Proofs.YtofhgaioidfdmaaGreat.Cat

/-- A mutant's delta: its path, operator and number. -/
abbrev Mt := List Int × Int × Int
def mcmp (a b : Mt) : Int := dcmp a.1 a.2.1 a.2.2 b.1 b.2.1 b.2.2
theorem mcmp_zero {a b : Mt} : mcmp a b = 0 ↔ a = b := by
  obtain ⟨p, o, n⟩ := a
  obtain ⟨p', o', n'⟩ := b
  unfold mcmp
  rw [dcmp_zero]
  simp
theorem mcmp_turn (a b : Mt) : mcmp b a = -mcmp a b := dcmp_turn _ _ _ _ _ _
theorem mcmp_lt {a b c : Mt} (h : mcmp a b < 0) (k : mcmp b c < 0) : mcmp a c < 0 := by
  have h1 : mcmp a c ≤ 0 := dcmp_trans (Int.le_of_lt h) (Int.le_of_lt k)
  rcases Int.lt_or_eq_of_le h1 with q | q
  · exact q
  · have e := mcmp_zero.1 q
    subst e
    have := mcmp_turn b a
    omega
/-- Each stands ahead of the next one. -/
def MRise (l : List Mt) : Prop := ∀ i a b, l[i]? = some a → l[i + 1]? = some b → mcmp a b < 0
theorem rise_all {l : List Mt} (h : MRise l) : ∀ (i j : Nat) (a b : Mt), i < j → l[i]? = some a → l[j]? = some b → mcmp a b < 0
  | i, j + 1, a, b, hij, ha, hb => by
    by_cases q : i = j
    · subst q; exact h i a b ha hb
    · have hj : j < l.length := by have := (List.getElem?_eq_some_iff.1 hb).1; omega
      have hc := List.getElem?_eq_getElem hj
      exact mcmp_lt (rise_all h i j a _ (by omega) ha hc) (h j _ b hc hb)
theorem rise_of {l : List Mt} (h : l.Pairwise fun a b => mcmp a b < 0) : MRise l := by
  intro i a b ha hb
  obtain ⟨hi, rfl⟩ := List.getElem?_eq_some_iff.1 ha
  obtain ⟨hj, rfl⟩ := List.getElem?_eq_some_iff.1 hb
  exact List.pairwise_iff_getElem.1 h i (i + 1) hi hj (Nat.lt_succ_self _)

/-- A node's path. -/
noncomputable def ppath (l : List Nd) (a : Int) : List Int := open Classical in if h : ∃ p, Leads l a p then h.choose else []
theorem ppath_leads {l : List Nd} {a : Int} {p : List Int} (h : Leads l a p) : ppath l a = p := by
  have hx : ∃ p, Leads l a p := ⟨p, h⟩
  unfold ppath
  rw [dif_pos hx]
  exact hx.choose_spec.one h
theorem leads_ppath {l : List Nd} (hw : Whole l) {a : Nat} (ha : a < l.length) : Leads l a (ppath l a) := by
  obtain ⟨p, hp⟩ := leads_ex hw (b := (a : Int)) (by omega) (by omega)
  rw [ppath_leads hp]
  exact hp
theorem find_leads {l : List Nd} {a : Nat} {p : List Int} : pfind l p = (a : Int) ↔ Leads l a p := by
  unfold pfind Leads Whole
  by_cases h : aend l 0 = l.length
  · rw [if_pos h]
    exact ⟨fun k => ⟨h, by omega, k⟩, fun k => k.2.2⟩
  · rw [if_neg h]
    exact ⟨fun k => by omega, fun k => absurd k.1 h⟩
theorem ppath_cmp {l : List Nd} (hw : Whole l) {a b : Nat} (ha : a < l.length) (hb : b < l.length) : cmp (ppath l a) (ppath l b) = if a < b then -1 else if b < a then 1 else 0 :=
  down_cmp l _ _ 0 l.length a b hw.t (leads_ppath hw ha).2.2 (leads_ppath hw hb).2.2

/-- The mutants at a node; at all nodes; at the first nodes. -/
noncomputable def mat (l : List Nd) (a : Nat) : List Mt := (chs l a).map fun b => (ppath l a, b.1, b.2)
noncomputable def mupto (l : List Nd) : Nat → List Mt
  | 0 => []
  | k + 1 => mupto l k ++ mat l k
noncomputable def msites (l : List Nd) : List Mt := mupto l l.length
theorem mat_len (l : List Nd) (a : Nat) : (mat l a).length = (chs l a).length := List.length_map ..
theorem chs_row (l : List Nd) (a : Int) : Row (chs l a) ∧ (chs l a).length ≤ 5 ∧ ∀ op n, isv l a op n = decide ((op, n) ∈ chs l a) := by
  rcases aend_cases l a with he | ⟨k, m, rfl, hs, -, -, -⟩
  · have h1 : chs l a = [] := if_pos (by rw [he]; decide)
    have h2 : ∀ op n, isv l a op n = false := fun op n => if_pos (by rw [he]; decide)
    rw [h1]
    exact ⟨trivial, by decide, fun op n => by rw [h2]; simp⟩
  · rw [chs_some hs]
    have hb := bool_rng (arity_some hs).1
    obtain ⟨h1, h2⟩ := choices_row (nodeAt l k) (behind l k) hb
    refine ⟨h1, choices_len _ _ hb, fun op n => ?_⟩
    rw [isv_some hs]
    by_cases q : cis (nodeAt l k) (behind l k) op n = true
    · rw [q, decide_eq_true ((h2 op n).2 q)]
    · rw [decide_eq_false (fun z => q ((h2 op n).1 z))]
      simpa using q
theorem mupto_len (l : List Nd) : ∀ k, (mupto l k).length ≤ k * 5
  | 0 => Nat.le_refl _
  | k + 1 => by
    have := mupto_len l k
    have := (chs_row l k).2.1
    rw [mupto, List.length_append, mat_len]
    omega
theorem row_pairs {p : List Int} : ∀ {l : List (Int × Int)}, Row l → (l.map fun b => ((p, b.1, b.2) : Mt)).Pairwise fun a b => mcmp a b < 0
  | [], _ => List.Pairwise.nil
  | a :: l, h => by
    rw [List.map_cons, List.pairwise_cons]
    refine ⟨fun b hb => ?_, row_pairs h.2⟩
    obtain ⟨c, hc, rfl⟩ := List.mem_map.1 hb
    have hl := h.1 c hc
    have h0 : cmp p p = 0 := cmp_self p
    unfold mcmp dcmp
    simp only
    rw [if_neg (by rw [h0]; decide)]
    unfold Lt at hl
    unfold three
    repeat' split
    all_goals omega
theorem mupto_mem {l : List Nd} : ∀ {k : Nat} {m : Mt}, m ∈ mupto l k ↔ ∃ a, a < k ∧ m ∈ mat l a
  | 0, m => ⟨(fun h => by cases h), fun ⟨_, h, _⟩ => by omega⟩
  | k + 1, m => by
    rw [mupto, List.mem_append, mupto_mem]
    constructor
    · rintro (⟨a, h1, h2⟩ | h)
      · exact ⟨a, by omega, h2⟩
      · exact ⟨k, by omega, h⟩
    · rintro ⟨a, h1, h2⟩
      by_cases q : a = k
      · subst q; exact .inr h2
      · exact .inl ⟨a, by omega, h2⟩
theorem mat_mem {l : List Nd} {a : Nat} {p : List Int} {op n : Int} : (p, op, n) ∈ mat l a ↔ p = ppath l a ∧ (op, n) ∈ chs l a := by
  unfold mat
  rw [List.mem_map]
  constructor
  · rintro ⟨b, hb, e⟩
    simp only [Prod.mk.injEq] at e
    obtain ⟨rfl, rfl, rfl⟩ := e
    exact ⟨rfl, hb⟩
  · rintro ⟨rfl, h⟩
    exact ⟨_, h, rfl⟩
theorem mupto_rise {l : List Nd} (hw : Whole l) : ∀ k, k ≤ l.length → (mupto l k).Pairwise fun a b => mcmp a b < 0
  | 0, _ => List.Pairwise.nil
  | k + 1, hk => by
    rw [mupto, List.pairwise_append]
    refine ⟨mupto_rise hw k (by omega), row_pairs (chs_row l k).1, fun a ha b hb => ?_⟩
    obtain ⟨i, hi, ha⟩ := mupto_mem.1 ha
    obtain ⟨p, o, n⟩ := a
    obtain ⟨p', o', n'⟩ := b
    obtain ⟨rfl, -⟩ := mat_mem.1 ha
    obtain ⟨rfl, -⟩ := mat_mem.1 hb
    have hc := ppath_cmp hw (a := i) (b := k) (by omega) (by omega)
    rw [if_pos hi] at hc
    unfold mcmp dcmp
    simp only
    rw [if_pos (by rw [hc]; decide), hc]
    decide
/-- THEY RISE. -/
theorem sites_rise {l : List Nd} (hw : Whole l) : MRise (msites l) := rise_of (mupto_rise hw l.length (Nat.le_refl _))
/-- JUST THOSE THAT THE CATALOGUE LETS. -/
theorem sites_mem {l : List Nd} (hw : Whole l) {p : List Int} {op n : Int} : (p, op, n) ∈ msites l ↔ 0 ≤ pfind l p ∧ isv l (pfind l p) op n = true := by
  unfold msites
  rw [mupto_mem]
  constructor
  · rintro ⟨a, ha, h⟩
    obtain ⟨rfl, h2⟩ := mat_mem.1 h
    rw [find_leads.2 (leads_ppath hw ha), (chs_row l a).2.2]
    exact ⟨by omega, decide_eq_true h2⟩
  · rintro ⟨h0, h⟩
    obtain ⟨a, e⟩ := Int.eq_ofNat_of_zero_le h0
    have hl := find_leads.1 e
    have hr := hl.rng
    rw [e, (chs_row l a).2.2] at h
    exact ⟨a, by omega, mat_mem.2 ⟨(ppath_leads hl).symm, of_decide_eq_true h⟩⟩
theorem sites_len (l : List Nd) : (msites l).length ≤ l.length * 5 := mupto_len l l.length
theorem mupto_succ (l : List Nd) (k : Nat) : mupto l (k + 1) = mupto l k ++ mat l k := rfl

end Go.Proofs.YtofhgaioidfdmaaGreat.Sites
