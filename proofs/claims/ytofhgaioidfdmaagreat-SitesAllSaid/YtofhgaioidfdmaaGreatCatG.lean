/-
  Plain facts on the catalogue: which choices there are at a node, in their order. No program is met here.
  Plain facts on the catalogue: how many choices there are; each can be applied, and makes another program; the way back. No program is met here.
  Plain facts on the catalogue: which operators are offered at a node, each with its numbers; together they are the choices. No program is met here.
  The reference of the catalogue, walked: is there such a choice?
  The reference of the catalogue, walked: is there such a choice? At any node and any number.
  The reference of the catalogue, walked: numbers that may be a choice's.
  A row of deltas whose paths are empty: in memory, and as a row that a call owns.
  The reference of the catalogue, walked: all choices at a node, in order.
  What the functions of the catalogue come to; and the document's examples.
-/
import Derived.Test.YtofhgaioidfdmaaGreatDeltaG
import Derived.Lib.SlicesCompact
import Derived.Test.YtofhgaioidfdmaaGreatArenaH
import Derived.Deep.QuietTactic
import Derived.Deep.CutBlock
import Derived.Deep.CutRange
import Derived.Maps.OwnIn
import Derived.BigQuiet
import Derived.Deep.RegionHeld3
import Derived.Deep.DrawnRows
set_option linter.unusedVariables false
namespace Go.Proofs.YtofhgaioidfdmaaGreat.Cat
open _root_.Go.Proofs.YtofhgaioidfdmaaGreat.Arena _root_.Go.Proofs.YtofhgaioidfdmaaGreat.Delta _root_.Go.Proofs.YtofhgaioidfdmaaGreat.Path

/-- Numbers go round. -/
def rnd (n : Int) : Int := IntKind.i64.wrap n
/-- Is it a choice? x: the node, y: the one behind it. -/
def cis (x y : Nd) (op n : Int) : Bool :=
  if op = 1 then decide (7 ≤ x.1 ∧ x.1 ≤ 11) && (decide (7 ≤ n ∧ n ≤ 11) && decide (n ≠ x.1))
  else if op = 2 then decide (12 ≤ x.1 ∧ x.1 ≤ 17) && (decide (12 ≤ n ∧ n ≤ 17) && decide (n ≠ x.1))
  else if op = 3 then decide (18 ≤ x.1 ∧ x.1 ≤ 19) && (decide (18 ≤ n ∧ n ≤ 19) && decide (n ≠ x.1))
  else if op = 4 then (decide (x.1 = 1) && (decide (n = 0 ∨ n = 1 ∨ n = -1 ∨ n = rnd (x.2 + 1) ∨ n = rnd (x.2 - 1)) && decide (n ≠ x.2))) || (decide (x.1 = 2) && decide (n = rnd (1 - x.2)))
  else if op = 5 then decide (x.1 = 21 ∨ x.1 = 22 ∨ x.1 = 23 ∨ x.1 = 24 ∨ x.1 = 25) && decide (n = 0)
  else if op = 6 then decide (x.1 = 23 ∨ x.1 = 24) && decide (n = 0)
  else if op = 7 then decide (x.1 = 25) && (decide (n = 0 ∨ n = 1) && decide (y ≠ (1, n)))
  else false

/-- Rising, each once. -/
def Up : List Int → Prop
  | [] => True
  | [_] => True
  | a :: b :: l => a < b ∧ Up (b :: l)
theorem Up.tail {a : Int} {l : List Int} (h : Up (a :: l)) : Up l := by
  cases l with
  | nil => trivial
  | cons b l => exact h.2
theorem Up.lt {a : Int} : ∀ {l : List Int}, Up (a :: l) → ∀ b ∈ l, a < b
  | [], _, _, hb => by simp at hb
  | c :: l, h, b, hb => by
    rcases List.mem_cons.1 hb with rfl | hb
    · exact h.1
    · exact Int.lt_trans h.1 (Up.lt h.2 b hb)
theorem Up.cons {a : Int} {l : List Int} (h : Up l) (k : ∀ b ∈ l, a < b) : Up (a :: l) := by
  cases l with
  | nil => trivial
  | cons b l => exact ⟨k b (List.mem_cons_self ..), h⟩
/-- How many stand ahead of one: the place behind the last one that is less. -/
def lastLt (v : Int) : List Int → Nat → Nat → Nat
  | [], _, k => k
  | x :: l, j, k => lastLt v l (j + 1) (if x < v then j + 1 else k)
theorem lastLt_ge (v : Int) : ∀ (l : List Int) (j k : Nat), (∀ b ∈ l, ¬ b < v) → lastLt v l j k = k
  | [], _, _, _ => rfl
  | x :: l, j, k, h => by rw [lastLt, if_neg (h x (List.mem_cons_self ..)), lastLt_ge v l _ _ (fun b hb => h b (List.mem_cons_of_mem _ hb))]
theorem lastLt_up (v : Int) : ∀ (l : List Int) (j k : Nat), Up l → ∃ t, t ≤ l.length ∧ (∀ b ∈ l.take t, b < v) ∧ (∀ b ∈ l.drop t, ¬ b < v) ∧ lastLt v l j k = if t = 0 then k else j + t
  | [], _, _, _ => ⟨0, by simp, by simp, by simp, rfl⟩
  | x :: l, j, k, h => by
    by_cases hx : x < v
    · obtain ⟨t, t1, t2, t3, t4⟩ := lastLt_up v l (j + 1) (j + 1) h.tail
      refine ⟨t + 1, by simp; omega, ?_, by rw [List.drop_succ_cons]; exact t3, ?_⟩
      · intro b hb
        rw [List.take_succ_cons] at hb
        rcases List.mem_cons.1 hb with rfl | hb
        · exact hx
        · exact t2 b hb
      · rw [lastLt, if_pos hx, t4]
        by_cases q : t = 0
        · rw [if_pos q, if_neg (by omega)]; omega
        · rw [if_neg q, if_neg (by omega)]; omega
    · refine ⟨0, by simp, by simp, ?_, ?_⟩
      · intro b hb
        rw [List.drop_zero] at hb
        rcases List.mem_cons.1 hb with rfl | hb
        · exact hx
        · have := h.lt b hb; omega
      · rw [lastLt, if_neg hx, lastLt_ge v l _ _ (fun b hb => by have := h.lt b hb; omega)]
        rfl
/-- One more. -/
def ins (out : List Int) (v : Int) : List Int := if v ∈ out then out else out.take (lastLt v out 0 0) ++ (v :: out.drop (lastLt v out 0 0))
theorem up_join {v : Int} : ∀ {l m : List Int}, Up l → Up m → (∀ b ∈ l, b < v) → (∀ b ∈ m, v < b) → Up (l ++ (v :: m))
  | [], _, _, hm, _, h2 => Up.cons hm h2
  | [a], m, _, hm, h1, h2 => ⟨h1 a (List.mem_cons_self ..), Up.cons hm h2⟩
  | a :: b :: l, m, hl, hm, h1, h2 => ⟨hl.1, up_join (l := b :: l) hl.2 hm (fun c hc => h1 c (List.mem_cons_of_mem _ hc)) h2⟩
theorem Up.take {l : List Int} (h : Up l) : ∀ k, Up (l.take k) := by
  intro k
  induction l generalizing k with
  | nil => simp [Up]
  | cons a l ih =>
    cases k with
    | zero => trivial
    | succ k => rw [List.take_succ_cons]; exact Up.cons (ih h.tail k) (fun b hb => h.lt b (List.mem_of_mem_take hb))
theorem Up.drop {l : List Int} (h : Up l) : ∀ k, Up (l.drop k) := by
  intro k
  induction l generalizing k with
  | nil => simp [Up]
  | cons a l ih =>
    cases k with
    | zero => exact h
    | succ k => rw [List.drop_succ_cons]; exact ih h.tail k
theorem ins_up {out : List Int} (h : Up out) (v : Int) : Up (ins out v) ∧ ∀ b, b ∈ ins out v ↔ b = v ∨ b ∈ out := by
  unfold ins
  by_cases hv : v ∈ out
  · rw [if_pos hv]
    exact ⟨h, fun b => ⟨fun q => .inr q, fun q => by rcases q with rfl | q; exact hv; exact q⟩⟩
  · rw [if_neg hv]
    obtain ⟨t, t1, t2, t3, t4⟩ := lastLt_up v out 0 0 h
    have e : lastLt v out 0 0 = t := by rw [t4]; split <;> omega
    rw [e]
    refine ⟨up_join (h.take t) (h.drop t) t2 (fun b hb => ?_), fun b => ?_⟩
    · have h1 := t3 b hb
      have h2 : b ≠ v := fun q => hv (q ▸ List.mem_of_mem_drop hb)
      omega
    · constructor
      · intro hb
        rcases List.mem_append.1 hb with hb | hb
        · exact .inr (List.mem_of_mem_take hb)
        · rcases List.mem_cons.1 hb with rfl | hb
          · exact .inl rfl
          · exact .inr (List.mem_of_mem_drop hb)
      · rintro (rfl | hb)
        · exact List.mem_append_right _ (List.mem_cons_self ..)
        · rw [← List.take_append_drop t out] at hb
          rcases List.mem_append.1 hb with hb | hb
          · exact List.mem_append_left _ hb
          · exact List.mem_append_right _ (List.mem_cons_of_mem _ hb)
theorem ins_len {out : List Int} (v : Int) : (ins out v).length ≤ out.length + 1 := by
  unfold ins
  split
  · omega
  · simp only [List.length_append, List.length_cons, List.length_take, List.length_drop]; omega
/-- Numbers that may be a choice's, as they are put in; rising, each once. -/
def adds (x : Nd) : List Int := [-1, 0, 1, rnd (x.2 - 1), rnd (x.2 + 1), 7, 8, 9, 10, 11, 12, 13, 14, 15, 16, 17, 18, 19]
@[irreducible] def tries (x : Nd) : List Int := (adds x).foldl ins []
theorem fold_up : ∀ (l out : List Int), Up out → Up (l.foldl ins out) ∧ (∀ b, b ∈ l.foldl ins out ↔ b ∈ l ∨ b ∈ out) ∧ (l.foldl ins out).length ≤ out.length + l.length
  | [], out, h => ⟨h, fun b => by simp, by simp⟩
  | v :: l, out, h => by
    obtain ⟨h1, h2⟩ := ins_up h v
    obtain ⟨k1, k2, k3⟩ := fold_up l (ins out v) h1
    refine ⟨k1, fun b => ?_, ?_⟩
    · rw [List.foldl_cons, k2, h2, List.mem_cons]
      constructor
      · rintro (q | q | q)
        · exact .inl (.inr q)
        · exact .inl (.inl q)
        · exact .inr q
      · rintro ((q | q) | q)
        · exact .inr (.inl q)
        · exact .inl q
        · exact .inr (.inr q)
    · have := ins_len (out := out) v
      rw [List.foldl_cons, List.length_cons]
      omega
theorem tries_up (x : Nd) : Up (tries x) ∧ (∀ b, b ∈ tries x ↔ b ∈ adds x) ∧ (tries x).length ≤ 18 := by
  have hl : (adds x).length = 18 := rfl
  unfold tries
  generalize adds x = L at *
  obtain ⟨h1, h2, h3⟩ := fold_up L [] trivial
  refine ⟨h1, fun b => ?_, ?_⟩
  · rw [h2]; simp
  · have h0 : ([] : List Int).length = 0 := rfl
    omega

/-- Two choices, one ahead of the other. -/
def Lt (a b : Int × Int) : Prop := a.1 < b.1 ∨ (a.1 = b.1 ∧ a.2 < b.2)
/-- In order, each once. -/
def Row : List (Int × Int) → Prop
  | [] => True
  | a :: l => (∀ b ∈ l, Lt a b) ∧ Row l
theorem Lt.irr {a : Int × Int} (h : Lt a a) : False := by unfold Lt at h; omega
theorem Lt.asymm {a b : Int × Int} (h : Lt a b) (k : Lt b a) : False := by unfold Lt at *; omega
theorem Lt.trans {a b c : Int × Int} (h : Lt a b) (k : Lt b c) : Lt a c := by unfold Lt at *; omega
/-- THERE IS ONE ROW OF THE SAME CHOICES. -/
theorem Row.one : ∀ {l m : List (Int × Int)}, Row l → Row m → (∀ b, b ∈ l ↔ b ∈ m) → l = m
  | [], [], _, _, _ => rfl
  | [], b :: m, _, _, h => by have := (h b).2 (List.mem_cons_self ..); simp at this
  | a :: l, [], _, _, h => by have := (h a).1 (List.mem_cons_self ..); simp at this
  | a :: l, b :: m, hl, hm, h => by
    have hab : a = b := by
      rcases List.mem_cons.1 ((h a).1 (List.mem_cons_self ..)) with q | q
      · exact q
      · rcases List.mem_cons.1 ((h b).2 (List.mem_cons_self ..)) with k | k
        · exact k.symm
        · exact (Lt.asymm (hm.1 a q) (hl.1 b k)).elim
    subst hab
    rw [Row.one hl.2 hm.2 (fun c => ?_)]
    constructor
    · intro hc
      rcases List.mem_cons.1 ((h c).1 (List.mem_cons_of_mem _ hc)) with q | q
      · subst q; exact (Lt.irr (hl.1 c hc)).elim
      · exact q
    · intro hc
      rcases List.mem_cons.1 ((h c).2 (List.mem_cons_of_mem _ hc)) with q | q
      · subst q; exact (Lt.irr (hm.1 c hc)).elim
      · exact q
theorem Row.join : ∀ {l m : List (Int × Int)}, Row l → Row m → (∀ a ∈ l, ∀ b ∈ m, Lt a b) → Row (l ++ m)
  | [], _, _, hm, _ => hm
  | a :: l, m, hl, hm, h => ⟨fun b hb => by
      rcases List.mem_append.1 hb with hb | hb
      · exact hl.1 b hb
      · exact h a (List.mem_cons_self ..) b hb, Row.join hl.2 hm (fun c hc => h c (List.mem_cons_of_mem _ hc))⟩
/-- Choices of one operator. -/
def ofOp (x y : Nd) (op : Int) (l : List Int) : List (Int × Int) := (l.filter fun n => cis x y op n).map fun n => (op, n)
theorem ofOp_row (x y : Nd) (op : Int) : ∀ {l : List Int}, Up l → Row (ofOp x y op l)
  | [], _ => trivial
  | a :: l, h => by
    have ih := ofOp_row x y op h.tail
    unfold ofOp at *
    rw [List.filter_cons]
    split
    · rw [List.map_cons]
      refine ⟨fun b hb => ?_, ih⟩
      obtain ⟨n, hn, rfl⟩ := List.mem_map.1 hb
      exact .inr ⟨rfl, h.lt n (List.mem_filter.1 hn).1⟩
    · exact ih
theorem ofOp_mem {x y : Nd} {op : Int} {l : List Int} {b : Int × Int} : b ∈ ofOp x y op l ↔ b.1 = op ∧ b.2 ∈ l ∧ cis x y op b.2 = true := by
  unfold ofOp
  rw [List.mem_map]
  constructor
  · rintro ⟨n, hn, rfl⟩
    exact ⟨rfl, (List.mem_filter.1 hn).1, (List.mem_filter.1 hn).2⟩
  · rintro ⟨rfl, h2, h3⟩
    exact ⟨b.2, List.mem_filter.2 ⟨h2, h3⟩, rfl⟩
/-- Operators from one on. -/
def upto (x y : Nd) : Nat → List (Int × Int)
  | 0 => []
  | k + 1 => upto x y k ++ ofOp x y (k + 1 : Nat) (tries x)
theorem upto_row (x y : Nd) : ∀ k, Row (upto x y k) ∧ ∀ b ∈ upto x y k, 1 ≤ b.1 ∧ b.1 ≤ k
  | 0 => ⟨trivial, (fun b hb => by cases hb)⟩
  | k + 1 => by
    obtain ⟨h1, h2⟩ := upto_row x y k
    refine ⟨Row.join h1 (ofOp_row x y _ (tries_up x).1) (fun a ha b hb => ?_), fun b hb => ?_⟩
    · have := h2 a ha
      have := (ofOp_mem.1 hb).1
      exact .inl (by omega)
    · rcases List.mem_append.1 hb with hb | hb
      · have := h2 b hb; omega
      · have := (ofOp_mem.1 hb).1; omega
theorem upto_mem (x y : Nd) : ∀ k b, b ∈ upto x y k ↔ (1 ≤ b.1 ∧ b.1 ≤ (k : Int)) ∧ b.2 ∈ tries x ∧ cis x y b.1 b.2 = true
  | 0, b => ⟨(fun h => by cases h), (fun h => by omega)⟩
  | k + 1, b => by
    rw [upto, List.mem_append, upto_mem x y k b, ofOp_mem]
    constructor
    · rintro (⟨h1, h2⟩ | ⟨h1, h2, h3⟩)
      · exact ⟨by omega, h2⟩
      · exact ⟨by omega, h2, by rw [h1]; exact h3⟩
    · rintro ⟨h1, h2, h3⟩
      by_cases q : b.1 = ((k + 1 : Nat) : Int)
      · exact .inr ⟨q, h2, by rw [← q]; exact h3⟩
      · exact .inl ⟨by omega, h2, h3⟩
/-- All choices, in order. -/
@[irreducible] def choices (x y : Nd) : List (Int × Int) := upto x y 7
theorem cis_rng {x y : Nd} {op n : Int} (hb : x.1 = 2 → 0 ≤ x.2 ∧ x.2 ≤ 1) (h : cis x y op n = true) : (1 ≤ op ∧ op ≤ 7) ∧ n ∈ adds x := by
  have hr : ∀ k : Int, 0 ≤ k → k ≤ 1 → rnd (1 - k) = 1 - k := fun k h0 h1 => by unfold rnd; rw [IntKind.wrap_i64]; omega
  unfold cis at h
  unfold adds
  by_cases o1 : op = 1
  · rw [if_pos o1] at h
    simp at h ⊢
    omega
  rw [if_neg o1] at h
  by_cases o2 : op = 2
  · rw [if_pos o2] at h
    simp at h ⊢
    omega
  rw [if_neg o2] at h
  by_cases o3 : op = 3
  · rw [if_pos o3] at h
    simp at h ⊢
    omega
  rw [if_neg o3] at h
  by_cases o4 : op = 4
  · rw [if_pos o4] at h
    simp at h ⊢
    rcases h with ⟨-, h, -⟩ | ⟨h1, h2⟩
    · omega
    · obtain ⟨b0, b1⟩ := hb h1
      rw [hr _ b0 b1] at h2
      omega
  rw [if_neg o4] at h
  by_cases o5 : op = 5
  · rw [if_pos o5] at h
    simp at h ⊢
    omega
  rw [if_neg o5] at h
  by_cases o6 : op = 6
  · rw [if_pos o6] at h
    simp at h ⊢
    omega
  rw [if_neg o6] at h
  by_cases o7 : op = 7
  · rw [if_pos o7] at h
    simp at h ⊢
    omega
  · rw [if_neg o7] at h
    cases h
/-- WHAT THE ROW HOLDS: just the choices, in order. -/
theorem choices_row (x y : Nd) (hb : x.1 = 2 → 0 ≤ x.2 ∧ x.2 ≤ 1) : Row (choices x y) ∧ ∀ op n, (op, n) ∈ choices x y ↔ cis x y op n = true := by
  unfold choices
  refine ⟨(upto_row x y 7).1, fun op n => ?_⟩
  rw [upto_mem, (tries_up x).2.1]
  constructor
  · exact fun h => h.2.2
  · intro h
    obtain ⟨h1, h2⟩ := cis_rng hb h
    exact ⟨h1, h2, h⟩
theorem choices_one {x y : Nd} (hb : x.1 = 2 → 0 ≤ x.2 ∧ x.2 ≤ 1) {l : List (Int × Int)} (h : Row l) (k : ∀ op n, (op, n) ∈ l ↔ cis x y op n = true) : l = choices x y := by
  obtain ⟨h1, h2⟩ := choices_row x y hb
  exact h.one h1 (fun b => (k b.1 b.2).trans (h2 b.1 b.2).symm)

end Go.Proofs.YtofhgaioidfdmaaGreat.Cat

set_option linter.unusedVariables false
namespace Go.Proofs.YtofhgaioidfdmaaGreat.Cat
open _root_.Go.Proofs.YtofhgaioidfdmaaGreat.Arena _root_.Go.Proofs.YtofhgaioidfdmaaGreat.Delta _root_.Go.Proofs.YtofhgaioidfdmaaGreat.Path

theorem bool_rng {x : Nd} (h : 0 ≤ ar x) (h2 : x.1 = 2) : 0 ≤ x.2 ∧ x.2 ≤ 1 := by
  obtain ⟨t, k⟩ := x
  simp only at h2
  subst h2
  unfold ar asks at h
  simp at h
  split at h
  · omega
  · simp only; omega
theorem rnd_one {k : Int} (h0 : 0 ≤ k) (h1 : k ≤ 1) : rnd (1 - k) = 1 - k := by unfold rnd; rw [IntKind.wrap_i64]; omega

/-- What is there once, and is of a row, is no more than the row. -/
theorem len_le : ∀ {l m : List (Int × Int)}, Row l → (∀ b ∈ l, b ∈ m) → l.length ≤ m.length
  | [], _, _, _ => by simp
  | a :: l, m, h, k => by
    have ha := k a (List.mem_cons_self ..)
    have hl : ∀ b ∈ l, b ∈ m.erase a := fun b hb => by
      have hne : b ≠ a := fun q => by subst q; exact Lt.irr (h.1 b hb)
      exact (List.mem_erase_of_ne hne).2 (k b (List.mem_cons_of_mem _ hb))
    have ih := len_le h.2 hl
    have he := List.length_erase_of_mem ha
    have hp : 0 < m.length := List.length_pos_of_mem ha
    rw [List.length_cons]
    omega
/-- NO MORE THAN FIVE. -/
theorem choices_len (x y : Nd) (hb : x.1 = 2 → 0 ≤ x.2 ∧ x.2 ≤ 1) : (choices x y).length ≤ 5 := by
  obtain ⟨hr, hm⟩ := choices_row x y hb
  have key : ∀ m : List (Int × Int), m.length ≤ 5 → (∀ op n, cis x y op n = true → (op, n) ∈ m) → (choices x y).length ≤ 5 := fun m h5 h => Nat.le_trans (len_le hr (fun b hb' => h b.1 b.2 ((hm b.1 b.2).1 hb'))) h5
  obtain ⟨t, k⟩ := x
  by_cases t1 : 7 ≤ t ∧ t ≤ 11
  · refine key [(1, 7), (1, 8), (1, 9), (1, 10), (1, 11)] (by simp) (fun op n h => ?_)
    unfold cis at h
    simp only at h
    repeat' split at h
    all_goals simp at h ⊢
    all_goals omega
  by_cases t2 : 12 ≤ t ∧ t ≤ 17
  · refine key ([(2, 12), (2, 13), (2, 14), (2, 15), (2, 16), (2, 17)].erase (2, t)) ?_ (fun op n h => ?_)
    · rw [List.length_erase_of_mem (by simp; omega)]; simp
    · have hn : (op, n) ≠ (2, t) ∧ (op, n) ∈ [((2 : Int), (12 : Int)), (2, 13), (2, 14), (2, 15), (2, 16), (2, 17)] := by
        unfold cis at h
        simp only at h
        repeat' split at h
        all_goals simp at h ⊢
        all_goals omega
      exact (List.mem_erase_of_ne hn.1).2 hn.2
  by_cases t3 : t = 1
  · refine key [(4, 0), (4, 1), (4, -1), (4, rnd (k + 1)), (4, rnd (k - 1))] (by simp) (fun op n h => ?_)
    unfold cis at h
    simp only at h
    repeat' split at h
    all_goals simp at h ⊢
    all_goals omega
  by_cases t4 : t = 25
  · refine key [(5, 0), (7, 0), (7, 1)] (by simp) (fun op n h => ?_)
    unfold cis at h
    simp only at h
    repeat' split at h
    all_goals simp at h ⊢
    all_goals omega
  · refine key [(3, 18), (3, 19), (4, rnd (1 - k)), (5, 0), (6, 0)] (by simp) (fun op n h => ?_)
    unfold cis at h
    simp only at h
    repeat' split at h
    all_goals simp at h ⊢
    all_goals omega

/-- EACH CHOICE CAN BE APPLIED, AND MAKES ANOTHER PROGRAM. -/
theorem cis_may {x y : Nd} (hb : x.1 = 2 → 0 ≤ x.2 ∧ x.2 ≤ 1) {op n : Int} (h : cis x y op n = true) : dmay x.1 op n = true := by
  unfold cis at h
  unfold dmay
  by_cases o1 : op = 1
  · rw [if_pos o1] at h ⊢; simp at h ⊢; omega
  rw [if_neg o1] at h ⊢
  by_cases o2 : op = 2
  · rw [if_pos o2] at h ⊢; simp at h ⊢; omega
  rw [if_neg o2] at h ⊢
  by_cases o3 : op = 3
  · rw [if_pos o3] at h ⊢; simp at h ⊢; omega
  rw [if_neg o3] at h ⊢
  by_cases o4 : op = 4
  · rw [if_pos o4] at h ⊢
    simp at h ⊢
    rcases h with ⟨h, -, -⟩ | ⟨h1, h2⟩
    · exact .inl h
    · obtain ⟨b0, b1⟩ := hb h1
      rw [rnd_one b0 b1] at h2
      exact .inr ⟨h1, by omega⟩
  rw [if_neg o4] at h ⊢
  by_cases o5 : op = 5
  · rw [if_pos o5] at h ⊢; simp at h ⊢; omega
  rw [if_neg o5] at h ⊢
  by_cases o6 : op = 6
  · rw [if_pos o6] at h ⊢; simp at h ⊢; omega
  rw [if_neg o6] at h ⊢
  by_cases o7 : op = 7
  · rw [if_pos o7] at h ⊢; simp at h ⊢; exact h.1
  · rw [if_neg o7] at h; cases h
end Go.Proofs.YtofhgaioidfdmaaGreat.Cat

set_option linter.unusedVariables false
namespace Go.Proofs.YtofhgaioidfdmaaGreat.Cat
open _root_.Go.Proofs.YtofhgaioidfdmaaGreat.Arena _root_.Go.Proofs.YtofhgaioidfdmaaGreat.Delta _root_.Go.Proofs.YtofhgaioidfdmaaGreat.Path

/-- What is in order, each once. -/
theorem compact_upto (d : Array Int) (h : ∀ i j, i ≤ j → j < d.size → d[i]! ≤ d[j]!) : ∀ m, m ≤ d.size → (Lib.compactUpTo d m).Pairwise (· < ·) ∧ (∀ b ∈ Lib.compactUpTo d m, ∃ j, j < m ∧ b = d[j]!) ∧ (∀ j, j < m → d[j]! ∈ Lib.compactUpTo d m)
  | 0, _ => by
    have e : Lib.compactUpTo d 0 = [] := rfl
    rw [e]
    exact ⟨List.Pairwise.nil, by simp, by omega⟩
  | m + 1, hm => by
    obtain ⟨h1, h2, h3⟩ := compact_upto d h m (by omega)
    rw [Lib.compactUpTo_succ]
    by_cases hk : Lib.keeps d m = true
    · rw [if_pos hk]
      refine ⟨?_, ?_, ?_⟩
      · rw [List.pairwise_append]
        refine ⟨h1, List.pairwise_singleton _ _, fun a ha b hb => ?_⟩
        rw [List.mem_singleton] at hb
        subst hb
        obtain ⟨j, hj, rfl⟩ := h2 a ha
        rcases Nat.eq_zero_or_pos m with q | q
        · omega
        · have hne : d[m]! ≠ d[m - 1]! := by
            unfold Lib.keeps at hk
            rcases of_decide_eq_true hk with k | k
            · omega
            · exact k
          have a1 := h j (m - 1) (by omega) (by omega)
          have a2 := h (m - 1) m (by omega) (by omega)
          omega
      · intro b hb
        rcases List.mem_append.1 hb with hb | hb
        · obtain ⟨j, hj, e⟩ := h2 b hb
          exact ⟨j, by omega, e⟩
        · rw [List.mem_singleton] at hb
          exact ⟨m, by omega, hb⟩
      · intro j hj
        by_cases q : j = m
        · subst q; exact List.mem_append_right _ (List.mem_singleton.2 rfl)
        · exact List.mem_append_left _ (h3 j (by omega))
    · rw [if_neg hk, List.append_nil]
      refine ⟨h1, fun b hb => ?_, fun j hj => ?_⟩
      · obtain ⟨j, hj, e⟩ := h2 b hb
        exact ⟨j, by omega, e⟩
      · by_cases q : j = m
        · have hk' : ¬ (m = 0 ∨ d[m]! ≠ d[m - 1]!) := fun z => hk (by unfold Lib.keeps; exact decide_eq_true z)
          have e : d[m]! = d[m - 1]! := by
            by_cases z : d[m]! = d[m - 1]!
            · exact z
            · exact (hk' (.inr z)).elim
          rw [q, e]
          exact h3 _ (by omega)
        · exact h3 j (by omega)
theorem compact_up {zs : List Int} (h : zs.Pairwise (· ≤ ·)) : (Lib.compact zs).Pairwise (· < ·) ∧ ∀ b, b ∈ Lib.compact zs ↔ b ∈ zs := by
  have hs : ∀ i j, i ≤ j → j < zs.toArray.size → zs.toArray[i]! ≤ zs.toArray[j]! := by
    intro i j hij hj
    have hj' : j < zs.length := by simpa using hj
    rw [getElem!_pos zs.toArray i (by simp; omega), getElem!_pos zs.toArray j hj]
    simp only [List.getElem_toArray]
    rcases Nat.lt_or_ge i j with q | q
    · exact List.pairwise_iff_getElem.1 h i j (by omega) hj' q
    · have e : i = j := by omega
      subst e
      exact Int.le_refl _
  obtain ⟨h1, h2, h3⟩ := compact_upto zs.toArray hs zs.length (by simp)
  refine ⟨h1, fun b => ⟨fun hb => ?_, fun hb => ?_⟩⟩
  · obtain ⟨j, hj, rfl⟩ := h2 b hb
    rw [getElem!_pos zs.toArray j (by simpa using hj)]
    simp only [List.getElem_toArray]
    exact List.getElem_mem _
  · obtain ⟨j, hj, rfl⟩ := List.mem_iff_getElem.1 hb
    have := h3 j hj
    rw [getElem!_pos zs.toArray j (by simpa using hj)] at this
    simp only [List.getElem_toArray] at this
    exact this

/-- Things in order, each once, but for some. -/
@[irreducible] def oth (zs ys : List Int) : List Int := (Lib.compact (zs.mergeSort fun x y => decide (x ≤ y))).filter fun x => !(ys.contains x)
theorem oth_up (zs ys : List Int) : (oth zs ys).Pairwise (· < ·) ∧ ∀ b, b ∈ oth zs ys ↔ b ∈ zs ∧ b ∉ ys := by
  have hs : (zs.mergeSort fun x y => decide (x ≤ y)).Pairwise (· ≤ ·) := by
    have := List.pairwise_mergeSort (le := fun x y : Int => decide (x ≤ y)) (by intro a b c; simp; omega) (by intro a b; simp; omega) zs
    exact this.imp (fun h => by simpa using h)
  obtain ⟨h1, h2⟩ := compact_up hs
  unfold oth
  refine ⟨h1.filter _, fun b => ?_⟩
  rw [List.mem_filter, h2, List.mem_mergeSort]
  simp

/-- What is offered: operators, each with its numbers. x: the node, y: the one behind it. -/
def offs (x y : Nd) : List (Int × List Int) :=
  if 7 ≤ x.1 ∧ x.1 ≤ 11 then [(1, oth [7, 8, 9, 10, 11] [x.1])]
  else if 12 ≤ x.1 ∧ x.1 ≤ 17 then [(2, oth [12, 13, 14, 15, 16, 17] [x.1])]
  else if 18 ≤ x.1 ∧ x.1 ≤ 19 then [(3, oth [18, 19] [x.1])]
  else if x.1 = 1 then [(4, oth [-1, rnd (x.2 + 1), rnd (x.2 - 1), 0, 1] [x.2])]
  else if x.1 = 2 then [(4, oth [0, 1] [x.2])]
  else if x.1 = 23 ∨ x.1 = 24 then [(5, [0]), (6, [0])]
  else if x.1 = 25 then [(5, [0]), (7, oth [0, 1] (if y.1 = 1 then [y.2] else []))]
  else if x.1 = 21 ∨ x.1 = 22 then [(5, [0])]
  else []
/-- All of them, as choices. -/
def flat (l : List (Int × List Int)) : List (Int × Int) := l.flatMap fun p => p.2.map fun n => (p.1, n)
theorem flat_snoc (l : List (Int × List Int)) (p : Int × List Int) : flat (l ++ [p]) = flat l ++ p.2.map fun n => (p.1, n) := by simp [flat]
theorem flat_mem {l : List (Int × List Int)} {op n : Int} : (op, n) ∈ flat l ↔ ∃ p ∈ l, p.1 = op ∧ n ∈ p.2 := by
  unfold flat
  rw [List.mem_flatMap]
  constructor
  · rintro ⟨p, hp, h⟩
    obtain ⟨m, hm, e⟩ := List.mem_map.1 h
    cases e
    exact ⟨p, hp, rfl, hm⟩
  · rintro ⟨p, hp, rfl, hn⟩
    exact ⟨p, hp, List.mem_map.2 ⟨n, hn, rfl⟩⟩
theorem map_row (op : Int) : ∀ {l : List Int}, l.Pairwise (· < ·) → Row (l.map fun n => (op, n))
  | [], _ => trivial
  | a :: l, h => by
    have h1 := List.pairwise_cons.1 h
    refine ⟨fun b hb => ?_, map_row op h1.2⟩
    obtain ⟨n, hn, rfl⟩ := List.mem_map.1 hb
    exact .inr ⟨rfl, h1.1 n hn⟩
theorem row_one {op : Int} {l : List Int} (h : l.Pairwise (· < ·)) : Row (flat [(op, l)]) := by
  have e : flat [(op, l)] = l.map fun n => (op, n) := by simp [flat]
  rw [e]
  exact map_row op h
theorem row_two {op op' : Int} {l l' : List Int} (h : l.Pairwise (· < ·)) (h' : l'.Pairwise (· < ·)) (ho : op < op') : Row (flat [(op, l), (op', l')]) := by
  have e : flat [(op, l), (op', l')] = (l.map fun n => (op, n)) ++ l'.map fun n => (op', n) := by simp [flat]
  rw [e]
  refine Row.join (map_row op h) (map_row op' h') (fun a ha b hb => ?_)
  obtain ⟨n, -, rfl⟩ := List.mem_map.1 ha
  obtain ⟨m, -, rfl⟩ := List.mem_map.1 hb
  exact .inl ho
theorem offs_row (x y : Nd) : Row (flat (offs x y)) := by
  have s0 : ([0] : List Int).Pairwise (· < ·) := List.pairwise_singleton _ _
  unfold offs
  repeat' split
  all_goals first
    | exact row_one (oth_up _ _).1
    | exact row_two s0 (oth_up _ _).1 (by decide)
    | exact row_two s0 s0 (by decide)
    | exact row_one s0
    | exact trivial
theorem offs_mem (x y : Nd) (hb : x.1 = 2 → 0 ≤ x.2 ∧ x.2 ≤ 1) (op n : Int) : (op, n) ∈ flat (offs x y) ↔ cis x y op n = true := by
  have hr : ∀ k : Int, 0 ≤ k → k ≤ 1 → rnd (1 - k) = 1 - k := fun k h0 h1 => by unfold rnd; rw [IntKind.wrap_i64]; omega
  obtain ⟨t, v⟩ := x
  obtain ⟨t', v'⟩ := y
  rw [flat_mem]
  have e1 : ∀ (q : Int) (l : List Int), (∃ p ∈ [(q, l)], p.1 = op ∧ n ∈ p.2) ↔ op = q ∧ n ∈ l := fun q l => by
    simp only [List.mem_singleton, exists_eq_left]
    exact ⟨fun h => ⟨h.1.symm, h.2⟩, fun h => ⟨h.1.symm, h.2⟩⟩
  have e2 : ∀ (q : Int) (l : List Int) (q' : Int) (l' : List Int), (∃ p ∈ [(q, l), (q', l')], p.1 = op ∧ n ∈ p.2) ↔ (op = q ∧ n ∈ l) ∨ (op = q' ∧ n ∈ l') := fun q l q' l' => by
    simp only [List.mem_cons, List.not_mem_nil, or_false, exists_eq_or_imp, exists_eq_left]
    exact ⟨fun h => h.imp (fun k => ⟨k.1.symm, k.2⟩) (fun k => ⟨k.1.symm, k.2⟩), fun h => h.imp (fun k => ⟨k.1.symm, k.2⟩) (fun k => ⟨k.1.symm, k.2⟩)⟩
  unfold offs cis
  simp only at hb ⊢
  by_cases c1 : 7 ≤ t ∧ t ≤ 11
  · rw [if_pos c1, e1, (oth_up _ _).2]
    simp only [List.mem_cons, List.not_mem_nil, or_false]
    repeat' split
    all_goals simp
    all_goals omega
  rw [if_neg c1]
  by_cases c2 : 12 ≤ t ∧ t ≤ 17
  · rw [if_pos c2, e1, (oth_up _ _).2]
    simp only [List.mem_cons, List.not_mem_nil, or_false]
    repeat' split
    all_goals simp
    all_goals omega
  rw [if_neg c2]
  by_cases c3 : 18 ≤ t ∧ t ≤ 19
  · rw [if_pos c3, e1, (oth_up _ _).2]
    simp only [List.mem_cons, List.not_mem_nil, or_false]
    repeat' split
    all_goals simp
    all_goals omega
  rw [if_neg c3]
  by_cases c4 : t = 1
  · subst c4
    rw [if_pos rfl, e1, (oth_up _ _).2]
    simp only [List.mem_cons, List.not_mem_nil, or_false]
    generalize rnd (v + 1) = a
    generalize rnd (v - 1) = b
    repeat' split
    all_goals simp
    all_goals omega
  rw [if_neg c4]
  by_cases c5 : t = 2
  · subst c5
    obtain ⟨b0, b1⟩ := hb rfl
    rw [if_pos rfl, e1, (oth_up _ _).2]
    simp only [List.mem_cons, List.not_mem_nil, or_false]
    rw [hr v b0 b1]
    repeat' split
    all_goals simp
    all_goals omega
  rw [if_neg c5]
  by_cases c6 : t = 23 ∨ t = 24
  · rw [if_pos c6, e2]
    simp only [List.mem_singleton]
    repeat' split
    all_goals simp
    all_goals omega
  rw [if_neg c6]
  by_cases c7 : t = 25
  · subst c7
    rw [if_pos rfl, e2, (oth_up _ _).2]
    by_cases d : t' = 1
    · subst d
      rw [if_pos rfl]
      simp only [List.mem_cons, List.not_mem_nil, or_false]
      repeat' split
      all_goals simp
      all_goals omega
    · rw [if_neg d]
      simp only [List.mem_cons, List.not_mem_nil, or_false]
      repeat' split
      all_goals simp
      all_goals omega
  rw [if_neg c7]
  by_cases c8 : t = 21 ∨ t = 22
  · rw [if_pos c8, e1]
    simp only [List.mem_singleton]
    repeat' split
    all_goals simp
    all_goals omega
  rw [if_neg c8]
  simp only [List.not_mem_nil, false_and, exists_false, false_iff]
  repeat' split
  all_goals simp
  all_goals omega
/-- TOGETHER THEY ARE THE CHOICES. -/
theorem offs_choices (x y : Nd) (hb : x.1 = 2 → 0 ≤ x.2 ∧ x.2 ≤ 1) : flat (offs x y) = choices x y := choices_one hb (offs_row x y) (offs_mem x y hb)

/-- Whether a number is offered with an operator: the first such operator tells. -/
def isF (l : List (Int × List Int)) (op n : Int) : Bool :=
  match l with
  | [] => false
  | p :: r => if p.1 = op then p.2.contains n else isF r op n
theorem isF_two {x y : Nd} {op n : Int} : isF (offs x y) op n = decide ((op, n) ∈ flat (offs x y)) := by
  have h : ∀ l : List (Int × List Int), (l.map (·.1)).Nodup → isF l op n = decide ((op, n) ∈ flat l) := by
    intro l
    induction l with
    | nil => intro _; simp [isF, flat]
    | cons p r ih =>
      intro hn
      rw [List.map_cons, List.nodup_cons] at hn
      rw [isF]
      by_cases q : p.1 = op
      · rw [if_pos q]
        by_cases z : n ∈ p.2
        · rw [decide_eq_true (flat_mem.2 ⟨p, List.mem_cons_self .., q, z⟩)]
          simpa using z
        · rw [decide_eq_false]
          · simpa using z
          · intro hm
            obtain ⟨p', hp', q', z'⟩ := flat_mem.1 hm
            rcases List.mem_cons.1 hp' with rfl | hp'
            · exact z z'
            · exact hn.1 (List.mem_map.2 ⟨p', hp', by rw [q', q]⟩)
      · rw [if_neg q, ih hn.2]
        by_cases z : (op, n) ∈ flat r
        · obtain ⟨p', hp', q', z'⟩ := flat_mem.1 z
          rw [decide_eq_true z, decide_eq_true (flat_mem.2 ⟨p', List.mem_cons_of_mem _ hp', q', z'⟩)]
        · rw [decide_eq_false z, decide_eq_false]
          intro hm
          obtain ⟨p', hp', q', z'⟩ := flat_mem.1 hm
          rcases List.mem_cons.1 hp' with rfl | hp'
          · exact q q'
          · exact z (flat_mem.2 ⟨p', hp', q', z'⟩)
  apply h
  unfold offs
  repeat' split
  all_goals simp
/-- Early or late: what has come tells it. -/
theorem isF_snoc_hit {op n : Int} {p : Int × List Int} {r : List (Int × List Int)} (hp : p.1 = op) : ∀ pre : List (Int × List Int), (∀ q ∈ pre, q.1 ≠ op) → isF (pre ++ p :: r) op n = p.2.contains n
  | [], _ => by rw [List.nil_append, isF, if_pos hp]
  | q :: pre, h => by
    rw [List.cons_append, isF, if_neg (h q (List.mem_cons_self ..))]
    exact isF_snoc_hit hp pre (fun z hz => h z (List.mem_cons_of_mem _ hz))
theorem isF_none {op n : Int} : ∀ l : List (Int × List Int), (∀ q ∈ l, q.1 ≠ op) → isF l op n = false
  | [], _ => rfl
  | q :: l, h => by
    rw [isF, if_neg (h q (List.mem_cons_self ..))]
    exact isF_none l (fun z hz => h z (List.mem_cons_of_mem _ hz))

end Go.Proofs.YtofhgaioidfdmaaGreat.Cat

set_option linter.unusedVariables false
namespace Go.Proofs.YtofhgaioidfdmaaGreat.Cat
open Go.RowKit Mem _root_.Go.Proofs.YtofhgaioidfdmaaGreat.Arena _root_.Go.Proofs.YtofhgaioidfdmaaGreat.Delta _root_.Go.Proofs.YtofhgaioidfdmaaGreat.Path
attribute [local go_sem ↓] Go.wp_at_zero Go.wp_at_succ

set_option maxRecDepth 100000 in
set_option maxHeartbeats 4000000 in
theorem ref_Is_1 (ad : Addr) (c : Nat) (l : List Nd) (a m : Nat) (x : Nd) (n : Int) (y : Nd) (w : World) (hx : Nodes w w.heap.size (some ad) l) (hl : l.length ≤ 1000000) (ht : scan 1 (l.drop a) = some m) (hxa : l[a]? = some x) :
    Calls Tryz.prog 65 #[.slice (some ad) l.length c, .int .i64 a, .int .i64 1, .int .i64 n] w fun e w' => e = .returned (.bool (cis x y 1 n)) ∧ Below w.heap.size w w' := by
  have hE := ref_End_any (some ad) c l a w hx hl
  rw [aend_some ht] at hE
  have HE := Lib.hid hE
  have HX := Lib.hid (fun W (h : Below w.heap.size w W) => show W.cell? (ad.add (a * 2)) = some (.int .i64 x.1) ∧ W.cell? ⟨(ad.add (a * 2)).block, (ad.add (a * 2)).off + 1, none⟩ = some (.int .i64 x.2) from by
    obtain ⟨ad', e, -, k0, k1⟩ := (hx.below h) a x hxa
    cases e
    exact ⟨k0, k1⟩)
  have hpos := T.pos ht
  have j0 : ¬ (a : Int) + (m : Int) < 0 := by omega
  have i1 : (a : Int) < (l.length : Int) := by omega
  have i2 : (0 : Int) ≤ (a : Int) := by omega
  clear hx hE hxa hpos ht
  obtain ⟨t, k⟩ := x
  simp only at HX
  by_cases h1 : (7 : Int) ≤ t
  rotate_left
  · have HR := Lib.hid (show cis (t, k) y 1 n = false by unfold cis; simp; omega)
    go_enter Tryz.func65, Tryz.ntmps65
    go_wp2_with (go_at_call 62; refine HE.out.mono ?_; rintro e w1 ⟨rfl, hb1⟩; obtain ⟨g0, g1⟩ := HX.out _ hb1; obtain ⟨z0, z1⟩ := (Blk.new w1 54 #[.int .i64 t, .int .i64 k]).two; have hB := hb1.alloc hb1.size (.cells #[.int .i64 t, .int .i64 k] 54))
    all_goals
      go_ret
      exact ⟨by rw [HR.out]; rfl, hB⟩
  by_cases h2 : t ≤ (11 : Int)
  rotate_left
  · have HR := Lib.hid (show cis (t, k) y 1 n = false by unfold cis; simp; omega)
    go_enter Tryz.func65, Tryz.ntmps65
    go_wp2_with (go_at_call 62; refine HE.out.mono ?_; rintro e w1 ⟨rfl, hb1⟩; obtain ⟨g0, g1⟩ := HX.out _ hb1; obtain ⟨z0, z1⟩ := (Blk.new w1 54 #[.int .i64 t, .int .i64 k]).two; have hB := hb1.alloc hb1.size (.cells #[.int .i64 t, .int .i64 k] 54))
    all_goals
      go_ret
      exact ⟨by rw [HR.out]; rfl, hB⟩
  by_cases h3 : (7 : Int) ≤ n
  rotate_left
  · have HR := Lib.hid (show cis (t, k) y 1 n = false by unfold cis; simp; omega)
    go_enter Tryz.func65, Tryz.ntmps65
    go_wp2_with (go_at_call 62; refine HE.out.mono ?_; rintro e w1 ⟨rfl, hb1⟩; obtain ⟨g0, g1⟩ := HX.out _ hb1; obtain ⟨z0, z1⟩ := (Blk.new w1 54 #[.int .i64 t, .int .i64 k]).two; have hB := hb1.alloc hb1.size (.cells #[.int .i64 t, .int .i64 k] 54))
    all_goals
      go_ret
      exact ⟨by rw [HR.out]; rfl, hB⟩
  by_cases h4 : n ≤ (11 : Int)
  rotate_left
  · have HR := Lib.hid (show cis (t, k) y 1 n = false by unfold cis; simp; omega)
    go_enter Tryz.func65, Tryz.ntmps65
    go_wp2_with (go_at_call 62; refine HE.out.mono ?_; rintro e w1 ⟨rfl, hb1⟩; obtain ⟨g0, g1⟩ := HX.out _ hb1; obtain ⟨z0, z1⟩ := (Blk.new w1 54 #[.int .i64 t, .int .i64 k]).two; have hB := hb1.alloc hb1.size (.cells #[.int .i64 t, .int .i64 k] 54))
    all_goals
      go_ret
      exact ⟨by rw [HR.out]; rfl, hB⟩
  by_cases h5 : n = t
  · have e1 : (n == t) = true := by simpa using h5
    have e2 : (n != t) = false := by simpa using h5
    have HR := Lib.hid (show cis (t, k) y 1 n = false by unfold cis; simp; omega)
    go_enter Tryz.func65, Tryz.ntmps65
    go_wp2_with (go_at_call 62; refine HE.out.mono ?_; rintro e w1 ⟨rfl, hb1⟩; obtain ⟨g0, g1⟩ := HX.out _ hb1; obtain ⟨z0, z1⟩ := (Blk.new w1 54 #[.int .i64 t, .int .i64 k]).two; have hB := hb1.alloc hb1.size (.cells #[.int .i64 t, .int .i64 k] 54))
    all_goals
      go_ret
      exact ⟨by rw [HR.out]; rfl, hB⟩
  · have e1 : (n == t) = false := by simpa using h5
    have e2 : (n != t) = true := by simpa using h5
    have HR := Lib.hid (show cis (t, k) y 1 n = true by unfold cis; simp; omega)
    go_enter Tryz.func65, Tryz.ntmps65
    go_wp2_with (go_at_call 62; refine HE.out.mono ?_; rintro e w1 ⟨rfl, hb1⟩; obtain ⟨g0, g1⟩ := HX.out _ hb1; obtain ⟨z0, z1⟩ := (Blk.new w1 54 #[.int .i64 t, .int .i64 k]).two; have hB := hb1.alloc hb1.size (.cells #[.int .i64 t, .int .i64 k] 54))
    all_goals
      go_ret
      exact ⟨by rw [HR.out]; rfl, hB⟩
set_option maxRecDepth 100000 in
set_option maxHeartbeats 4000000 in
theorem ref_Is_2 (ad : Addr) (c : Nat) (l : List Nd) (a m : Nat) (x : Nd) (n : Int) (y : Nd) (w : World) (hx : Nodes w w.heap.size (some ad) l) (hl : l.length ≤ 1000000) (ht : scan 1 (l.drop a) = some m) (hxa : l[a]? = some x) :
    Calls Tryz.prog 65 #[.slice (some ad) l.length c, .int .i64 a, .int .i64 2, .int .i64 n] w fun e w' => e = .returned (.bool (cis x y 2 n)) ∧ Below w.heap.size w w' := by
  have hE := ref_End_any (some ad) c l a w hx hl
  rw [aend_some ht] at hE
  have HE := Lib.hid hE
  have HX := Lib.hid (fun W (h : Below w.heap.size w W) => show W.cell? (ad.add (a * 2)) = some (.int .i64 x.1) ∧ W.cell? ⟨(ad.add (a * 2)).block, (ad.add (a * 2)).off + 1, none⟩ = some (.int .i64 x.2) from by
    obtain ⟨ad', e, -, k0, k1⟩ := (hx.below h) a x hxa
    cases e
    exact ⟨k0, k1⟩)
  have hpos := T.pos ht
  have j0 : ¬ (a : Int) + (m : Int) < 0 := by omega
  have i1 : (a : Int) < (l.length : Int) := by omega
  have i2 : (0 : Int) ≤ (a : Int) := by omega
  clear hx hE hxa hpos ht
  obtain ⟨t, k⟩ := x
  simp only at HX
  by_cases h1 : (12 : Int) ≤ t
  rotate_left
  · have HR := Lib.hid (show cis (t, k) y 2 n = false by unfold cis; simp; omega)
    go_enter Tryz.func65, Tryz.ntmps65
    go_wp2_with (go_at_call 62; refine HE.out.mono ?_; rintro e w1 ⟨rfl, hb1⟩; obtain ⟨g0, g1⟩ := HX.out _ hb1; obtain ⟨z0, z1⟩ := (Blk.new w1 54 #[.int .i64 t, .int .i64 k]).two; have hB := hb1.alloc hb1.size (.cells #[.int .i64 t, .int .i64 k] 54))
    all_goals
      go_ret
      exact ⟨by rw [HR.out]; rfl, hB⟩
  by_cases h2 : t ≤ (17 : Int)
  rotate_left
  · have HR := Lib.hid (show cis (t, k) y 2 n = false by unfold cis; simp; omega)
    go_enter Tryz.func65, Tryz.ntmps65
    go_wp2_with (go_at_call 62; refine HE.out.mono ?_; rintro e w1 ⟨rfl, hb1⟩; obtain ⟨g0, g1⟩ := HX.out _ hb1; obtain ⟨z0, z1⟩ := (Blk.new w1 54 #[.int .i64 t, .int .i64 k]).two; have hB := hb1.alloc hb1.size (.cells #[.int .i64 t, .int .i64 k] 54))
    all_goals
      go_ret
      exact ⟨by rw [HR.out]; rfl, hB⟩
  by_cases h3 : (12 : Int) ≤ n
  rotate_left
  · have HR := Lib.hid (show cis (t, k) y 2 n = false by unfold cis; simp; omega)
    go_enter Tryz.func65, Tryz.ntmps65
    go_wp2_with (go_at_call 62; refine HE.out.mono ?_; rintro e w1 ⟨rfl, hb1⟩; obtain ⟨g0, g1⟩ := HX.out _ hb1; obtain ⟨z0, z1⟩ := (Blk.new w1 54 #[.int .i64 t, .int .i64 k]).two; have hB := hb1.alloc hb1.size (.cells #[.int .i64 t, .int .i64 k] 54))
    all_goals
      go_ret
      exact ⟨by rw [HR.out]; rfl, hB⟩
  by_cases h4 : n ≤ (17 : Int)
  rotate_left
  · have HR := Lib.hid (show cis (t, k) y 2 n = false by unfold cis; simp; omega)
    go_enter Tryz.func65, Tryz.ntmps65
    go_wp2_with (go_at_call 62; refine HE.out.mono ?_; rintro e w1 ⟨rfl, hb1⟩; obtain ⟨g0, g1⟩ := HX.out _ hb1; obtain ⟨z0, z1⟩ := (Blk.new w1 54 #[.int .i64 t, .int .i64 k]).two; have hB := hb1.alloc hb1.size (.cells #[.int .i64 t, .int .i64 k] 54))
    all_goals
      go_ret
      exact ⟨by rw [HR.out]; rfl, hB⟩
  by_cases h5 : n = t
  · have e1 : (n == t) = true := by simpa using h5
    have e2 : (n != t) = false := by simpa using h5
    have HR := Lib.hid (show cis (t, k) y 2 n = false by unfold cis; simp; omega)
    go_enter Tryz.func65, Tryz.ntmps65
    go_wp2_with (go_at_call 62; refine HE.out.mono ?_; rintro e w1 ⟨rfl, hb1⟩; obtain ⟨g0, g1⟩ := HX.out _ hb1; obtain ⟨z0, z1⟩ := (Blk.new w1 54 #[.int .i64 t, .int .i64 k]).two; have hB := hb1.alloc hb1.size (.cells #[.int .i64 t, .int .i64 k] 54))
    all_goals
      go_ret
      exact ⟨by rw [HR.out]; rfl, hB⟩
  · have e1 : (n == t) = false := by simpa using h5
    have e2 : (n != t) = true := by simpa using h5
    have HR := Lib.hid (show cis (t, k) y 2 n = true by unfold cis; simp; omega)
    go_enter Tryz.func65, Tryz.ntmps65
    go_wp2_with (go_at_call 62; refine HE.out.mono ?_; rintro e w1 ⟨rfl, hb1⟩; obtain ⟨g0, g1⟩ := HX.out _ hb1; obtain ⟨z0, z1⟩ := (Blk.new w1 54 #[.int .i64 t, .int .i64 k]).two; have hB := hb1.alloc hb1.size (.cells #[.int .i64 t, .int .i64 k] 54))
    all_goals
      go_ret
      exact ⟨by rw [HR.out]; rfl, hB⟩
set_option maxRecDepth 100000 in
set_option maxHeartbeats 4000000 in
theorem ref_Is_3 (ad : Addr) (c : Nat) (l : List Nd) (a m : Nat) (x : Nd) (n : Int) (y : Nd) (w : World) (hx : Nodes w w.heap.size (some ad) l) (hl : l.length ≤ 1000000) (ht : scan 1 (l.drop a) = some m) (hxa : l[a]? = some x) :
    Calls Tryz.prog 65 #[.slice (some ad) l.length c, .int .i64 a, .int .i64 3, .int .i64 n] w fun e w' => e = .returned (.bool (cis x y 3 n)) ∧ Below w.heap.size w w' := by
  have hE := ref_End_any (some ad) c l a w hx hl
  rw [aend_some ht] at hE
  have HE := Lib.hid hE
  have HX := Lib.hid (fun W (h : Below w.heap.size w W) => show W.cell? (ad.add (a * 2)) = some (.int .i64 x.1) ∧ W.cell? ⟨(ad.add (a * 2)).block, (ad.add (a * 2)).off + 1, none⟩ = some (.int .i64 x.2) from by
    obtain ⟨ad', e, -, k0, k1⟩ := (hx.below h) a x hxa
    cases e
    exact ⟨k0, k1⟩)
  have hpos := T.pos ht
  have j0 : ¬ (a : Int) + (m : Int) < 0 := by omega
  have i1 : (a : Int) < (l.length : Int) := by omega
  have i2 : (0 : Int) ≤ (a : Int) := by omega
  clear hx hE hxa hpos ht
  obtain ⟨t, k⟩ := x
  simp only at HX
  by_cases h1 : (18 : Int) ≤ t
  rotate_left
  · have HR := Lib.hid (show cis (t, k) y 3 n = false by unfold cis; simp; omega)
    go_enter Tryz.func65, Tryz.ntmps65
    go_wp2_with (go_at_call 62; refine HE.out.mono ?_; rintro e w1 ⟨rfl, hb1⟩; obtain ⟨g0, g1⟩ := HX.out _ hb1; obtain ⟨z0, z1⟩ := (Blk.new w1 54 #[.int .i64 t, .int .i64 k]).two; have hB := hb1.alloc hb1.size (.cells #[.int .i64 t, .int .i64 k] 54))
    all_goals
      go_ret
      exact ⟨by rw [HR.out]; rfl, hB⟩
  by_cases h2 : t ≤ (19 : Int)
  rotate_left
  · have HR := Lib.hid (show cis (t, k) y 3 n = false by unfold cis; simp; omega)
    go_enter Tryz.func65, Tryz.ntmps65
    go_wp2_with (go_at_call 62; refine HE.out.mono ?_; rintro e w1 ⟨rfl, hb1⟩; obtain ⟨g0, g1⟩ := HX.out _ hb1; obtain ⟨z0, z1⟩ := (Blk.new w1 54 #[.int .i64 t, .int .i64 k]).two; have hB := hb1.alloc hb1.size (.cells #[.int .i64 t, .int .i64 k] 54))
    all_goals
      go_ret
      exact ⟨by rw [HR.out]; rfl, hB⟩
  by_cases h3 : (18 : Int) ≤ n
  rotate_left
  · have HR := Lib.hid (show cis (t, k) y 3 n = false by unfold cis; simp; omega)
    go_enter Tryz.func65, Tryz.ntmps65
    go_wp2_with (go_at_call 62; refine HE.out.mono ?_; rintro e w1 ⟨rfl, hb1⟩; obtain ⟨g0, g1⟩ := HX.out _ hb1; obtain ⟨z0, z1⟩ := (Blk.new w1 54 #[.int .i64 t, .int .i64 k]).two; have hB := hb1.alloc hb1.size (.cells #[.int .i64 t, .int .i64 k] 54))
    all_goals
      go_ret
      exact ⟨by rw [HR.out]; rfl, hB⟩
  by_cases h4 : n ≤ (19 : Int)
  rotate_left
  · have HR := Lib.hid (show cis (t, k) y 3 n = false by unfold cis; simp; omega)
    go_enter Tryz.func65, Tryz.ntmps65
    go_wp2_with (go_at_call 62; refine HE.out.mono ?_; rintro e w1 ⟨rfl, hb1⟩; obtain ⟨g0, g1⟩ := HX.out _ hb1; obtain ⟨z0, z1⟩ := (Blk.new w1 54 #[.int .i64 t, .int .i64 k]).two; have hB := hb1.alloc hb1.size (.cells #[.int .i64 t, .int .i64 k] 54))
    all_goals
      go_ret
      exact ⟨by rw [HR.out]; rfl, hB⟩
  by_cases h5 : n = t
  · have e1 : (n == t) = true := by simpa using h5
    have e2 : (n != t) = false := by simpa using h5
    have HR := Lib.hid (show cis (t, k) y 3 n = false by unfold cis; simp; omega)
    go_enter Tryz.func65, Tryz.ntmps65
    go_wp2_with (go_at_call 62; refine HE.out.mono ?_; rintro e w1 ⟨rfl, hb1⟩; obtain ⟨g0, g1⟩ := HX.out _ hb1; obtain ⟨z0, z1⟩ := (Blk.new w1 54 #[.int .i64 t, .int .i64 k]).two; have hB := hb1.alloc hb1.size (.cells #[.int .i64 t, .int .i64 k] 54))
    all_goals
      go_ret
      exact ⟨by rw [HR.out]; rfl, hB⟩
  · have e1 : (n == t) = false := by simpa using h5
    have e2 : (n != t) = true := by simpa using h5
    have HR := Lib.hid (show cis (t, k) y 3 n = true by unfold cis; simp; omega)
    go_enter Tryz.func65, Tryz.ntmps65
    go_wp2_with (go_at_call 62; refine HE.out.mono ?_; rintro e w1 ⟨rfl, hb1⟩; obtain ⟨g0, g1⟩ := HX.out _ hb1; obtain ⟨z0, z1⟩ := (Blk.new w1 54 #[.int .i64 t, .int .i64 k]).two; have hB := hb1.alloc hb1.size (.cells #[.int .i64 t, .int .i64 k] 54))
    all_goals
      go_ret
      exact ⟨by rw [HR.out]; rfl, hB⟩
set_option maxRecDepth 100000 in
set_option maxHeartbeats 4000000 in
theorem ref_Is_5 (ad : Addr) (c : Nat) (l : List Nd) (a m : Nat) (x : Nd) (n : Int) (y : Nd) (w : World) (hx : Nodes w w.heap.size (some ad) l) (hl : l.length ≤ 1000000) (ht : scan 1 (l.drop a) = some m) (hxa : l[a]? = some x) :
    Calls Tryz.prog 65 #[.slice (some ad) l.length c, .int .i64 a, .int .i64 5, .int .i64 n] w fun e w' => e = .returned (.bool (cis x y 5 n)) ∧ Below w.heap.size w w' := by
  have hE := ref_End_any (some ad) c l a w hx hl
  rw [aend_some ht] at hE
  have HE := Lib.hid hE
  have HX := Lib.hid (fun W (h : Below w.heap.size w W) => show W.cell? (ad.add (a * 2)) = some (.int .i64 x.1) ∧ W.cell? ⟨(ad.add (a * 2)).block, (ad.add (a * 2)).off + 1, none⟩ = some (.int .i64 x.2) from by
    obtain ⟨ad', e, -, k0, k1⟩ := (hx.below h) a x hxa
    cases e
    exact ⟨k0, k1⟩)
  have hpos := T.pos ht
  have j0 : ¬ (a : Int) + (m : Int) < 0 := by omega
  have i1 : (a : Int) < (l.length : Int) := by omega
  have i2 : (0 : Int) ≤ (a : Int) := by omega
  clear hx hE hxa hpos ht
  obtain ⟨t, k⟩ := x
  simp only at HX
  by_cases hn : n = 0
  · subst hn
    by_cases q0 : t = 21
    · subst q0
      have HR := Lib.hid (show cis (21, k) y 5 0 = true by unfold cis; simp; try omega)
      go_enter Tryz.func65, Tryz.ntmps65
      go_wp2_with (go_at_call 62; refine HE.out.mono ?_; rintro e w1 ⟨rfl, hb1⟩; obtain ⟨g0, g1⟩ := HX.out _ hb1; obtain ⟨z0, z1⟩ := (Blk.new w1 54 #[.int .i64 21, .int .i64 k]).two; have hB := hb1.alloc hb1.size (.cells #[.int .i64 21, .int .i64 k] 54))
      all_goals
        go_ret
        exact ⟨by rw [HR.out]; rfl, hB⟩
    have f0 : (t == 21) = false := by simpa using q0
    by_cases q1 : t = 22
    · subst q1
      have HR := Lib.hid (show cis (22, k) y 5 0 = true by unfold cis; simp; try omega)
      go_enter Tryz.func65, Tryz.ntmps65
      go_wp2_with (go_at_call 62; refine HE.out.mono ?_; rintro e w1 ⟨rfl, hb1⟩; obtain ⟨g0, g1⟩ := HX.out _ hb1; obtain ⟨z0, z1⟩ := (Blk.new w1 54 #[.int .i64 22, .int .i64 k]).two; have hB := hb1.alloc hb1.size (.cells #[.int .i64 22, .int .i64 k] 54))
      all_goals
        go_ret
        exact ⟨by rw [HR.out]; rfl, hB⟩
    have f1 : (t == 22) = false := by simpa using q1
    by_cases q2 : t = 23
    · subst q2
      have HR := Lib.hid (show cis (23, k) y 5 0 = true by unfold cis; simp; try omega)
      go_enter Tryz.func65, Tryz.ntmps65
      go_wp2_with (go_at_call 62; refine HE.out.mono ?_; rintro e w1 ⟨rfl, hb1⟩; obtain ⟨g0, g1⟩ := HX.out _ hb1; obtain ⟨z0, z1⟩ := (Blk.new w1 54 #[.int .i64 23, .int .i64 k]).two; have hB := hb1.alloc hb1.size (.cells #[.int .i64 23, .int .i64 k] 54))
      all_goals
        go_ret
        exact ⟨by rw [HR.out]; rfl, hB⟩
    have f2 : (t == 23) = false := by simpa using q2
    by_cases q3 : t = 24
    · subst q3
      have HR := Lib.hid (show cis (24, k) y 5 0 = true by unfold cis; simp; try omega)
      go_enter Tryz.func65, Tryz.ntmps65
      go_wp2_with (go_at_call 62; refine HE.out.mono ?_; rintro e w1 ⟨rfl, hb1⟩; obtain ⟨g0, g1⟩ := HX.out _ hb1; obtain ⟨z0, z1⟩ := (Blk.new w1 54 #[.int .i64 24, .int .i64 k]).two; have hB := hb1.alloc hb1.size (.cells #[.int .i64 24, .int .i64 k] 54))
      all_goals
        go_ret
        exact ⟨by rw [HR.out]; rfl, hB⟩
    have f3 : (t == 24) = false := by simpa using q3
    by_cases q4 : t = 25
    · subst q4
      have HR := Lib.hid (show cis (25, k) y 5 0 = true by unfold cis; simp; try omega)
      go_enter Tryz.func65, Tryz.ntmps65
      go_wp2_with (go_at_call 62; refine HE.out.mono ?_; rintro e w1 ⟨rfl, hb1⟩; obtain ⟨g0, g1⟩ := HX.out _ hb1; obtain ⟨z0, z1⟩ := (Blk.new w1 54 #[.int .i64 25, .int .i64 k]).two; have hB := hb1.alloc hb1.size (.cells #[.int .i64 25, .int .i64 k] 54))
      all_goals
        go_ret
        exact ⟨by rw [HR.out]; rfl, hB⟩
    have f4 : (t == 25) = false := by simpa using q4
    have HR := Lib.hid (show cis (t, k) y 5 0 = false by unfold cis; simp; omega)
    go_enter Tryz.func65, Tryz.ntmps65
    go_wp2_with (go_at_call 62; refine HE.out.mono ?_; rintro e w1 ⟨rfl, hb1⟩; obtain ⟨g0, g1⟩ := HX.out _ hb1; obtain ⟨z0, z1⟩ := (Blk.new w1 54 #[.int .i64 t, .int .i64 k]).two; have hB := hb1.alloc hb1.size (.cells #[.int .i64 t, .int .i64 k] 54))
    all_goals
      go_ret
      exact ⟨by rw [HR.out]; rfl, hB⟩
  · have n1 : (n == 0) = false := by simpa using hn
    by_cases q0 : t = 21
    · subst q0
      have HR := Lib.hid (show cis (21, k) y 5 n = false by unfold cis; simp; try omega)
      go_enter Tryz.func65, Tryz.ntmps65
      go_wp2_with (go_at_call 62; refine HE.out.mono ?_; rintro e w1 ⟨rfl, hb1⟩; obtain ⟨g0, g1⟩ := HX.out _ hb1; obtain ⟨z0, z1⟩ := (Blk.new w1 54 #[.int .i64 21, .int .i64 k]).two; have hB := hb1.alloc hb1.size (.cells #[.int .i64 21, .int .i64 k] 54))
      all_goals
        go_ret
        exact ⟨by rw [HR.out]; rfl, hB⟩
    have f0 : (t == 21) = false := by simpa using q0
    by_cases q1 : t = 22
    · subst q1
      have HR := Lib.hid (show cis (22, k) y 5 n = false by unfold cis; simp; try omega)
      go_enter Tryz.func65, Tryz.ntmps65
      go_wp2_with (go_at_call 62; refine HE.out.mono ?_; rintro e w1 ⟨rfl, hb1⟩; obtain ⟨g0, g1⟩ := HX.out _ hb1; obtain ⟨z0, z1⟩ := (Blk.new w1 54 #[.int .i64 22, .int .i64 k]).two; have hB := hb1.alloc hb1.size (.cells #[.int .i64 22, .int .i64 k] 54))
      all_goals
        go_ret
        exact ⟨by rw [HR.out]; rfl, hB⟩
    have f1 : (t == 22) = false := by simpa using q1
    by_cases q2 : t = 23
    · subst q2
      have HR := Lib.hid (show cis (23, k) y 5 n = false by unfold cis; simp; try omega)
      go_enter Tryz.func65, Tryz.ntmps65
      go_wp2_with (go_at_call 62; refine HE.out.mono ?_; rintro e w1 ⟨rfl, hb1⟩; obtain ⟨g0, g1⟩ := HX.out _ hb1; obtain ⟨z0, z1⟩ := (Blk.new w1 54 #[.int .i64 23, .int .i64 k]).two; have hB := hb1.alloc hb1.size (.cells #[.int .i64 23, .int .i64 k] 54))
      all_goals
        go_ret
        exact ⟨by rw [HR.out]; rfl, hB⟩
    have f2 : (t == 23) = false := by simpa using q2
    by_cases q3 : t = 24
    · subst q3
      have HR := Lib.hid (show cis (24, k) y 5 n = false by unfold cis; simp; try omega)
      go_enter Tryz.func65, Tryz.ntmps65
      go_wp2_with (go_at_call 62; refine HE.out.mono ?_; rintro e w1 ⟨rfl, hb1⟩; obtain ⟨g0, g1⟩ := HX.out _ hb1; obtain ⟨z0, z1⟩ := (Blk.new w1 54 #[.int .i64 24, .int .i64 k]).two; have hB := hb1.alloc hb1.size (.cells #[.int .i64 24, .int .i64 k] 54))
      all_goals
        go_ret
        exact ⟨by rw [HR.out]; rfl, hB⟩
    have f3 : (t == 24) = false := by simpa using q3
    by_cases q4 : t = 25
    · subst q4
      have HR := Lib.hid (show cis (25, k) y 5 n = false by unfold cis; simp; try omega)
      go_enter Tryz.func65, Tryz.ntmps65
      go_wp2_with (go_at_call 62; refine HE.out.mono ?_; rintro e w1 ⟨rfl, hb1⟩; obtain ⟨g0, g1⟩ := HX.out _ hb1; obtain ⟨z0, z1⟩ := (Blk.new w1 54 #[.int .i64 25, .int .i64 k]).two; have hB := hb1.alloc hb1.size (.cells #[.int .i64 25, .int .i64 k] 54))
      all_goals
        go_ret
        exact ⟨by rw [HR.out]; rfl, hB⟩
    have f4 : (t == 25) = false := by simpa using q4
    have HR := Lib.hid (show cis (t, k) y 5 n = false by unfold cis; simp; omega)
    go_enter Tryz.func65, Tryz.ntmps65
    go_wp2_with (go_at_call 62; refine HE.out.mono ?_; rintro e w1 ⟨rfl, hb1⟩; obtain ⟨g0, g1⟩ := HX.out _ hb1; obtain ⟨z0, z1⟩ := (Blk.new w1 54 #[.int .i64 t, .int .i64 k]).two; have hB := hb1.alloc hb1.size (.cells #[.int .i64 t, .int .i64 k] 54))
    all_goals
      go_ret
      exact ⟨by rw [HR.out]; rfl, hB⟩
set_option maxRecDepth 100000 in
set_option maxHeartbeats 4000000 in
theorem ref_Is_6 (ad : Addr) (c : Nat) (l : List Nd) (a m : Nat) (x : Nd) (n : Int) (y : Nd) (w : World) (hx : Nodes w w.heap.size (some ad) l) (hl : l.length ≤ 1000000) (ht : scan 1 (l.drop a) = some m) (hxa : l[a]? = some x) :
    Calls Tryz.prog 65 #[.slice (some ad) l.length c, .int .i64 a, .int .i64 6, .int .i64 n] w fun e w' => e = .returned (.bool (cis x y 6 n)) ∧ Below w.heap.size w w' := by
  have hE := ref_End_any (some ad) c l a w hx hl
  rw [aend_some ht] at hE
  have HE := Lib.hid hE
  have HX := Lib.hid (fun W (h : Below w.heap.size w W) => show W.cell? (ad.add (a * 2)) = some (.int .i64 x.1) ∧ W.cell? ⟨(ad.add (a * 2)).block, (ad.add (a * 2)).off + 1, none⟩ = some (.int .i64 x.2) from by
    obtain ⟨ad', e, -, k0, k1⟩ := (hx.below h) a x hxa
    cases e
    exact ⟨k0, k1⟩)
  have hpos := T.pos ht
  have j0 : ¬ (a : Int) + (m : Int) < 0 := by omega
  have i1 : (a : Int) < (l.length : Int) := by omega
  have i2 : (0 : Int) ≤ (a : Int) := by omega
  clear hx hE hxa hpos ht
  obtain ⟨t, k⟩ := x
  simp only at HX
  by_cases hn : n = 0
  · subst hn
    by_cases q0 : t = 23
    · subst q0
      have HR := Lib.hid (show cis (23, k) y 6 0 = true by unfold cis; simp; try omega)
      go_enter Tryz.func65, Tryz.ntmps65
      go_wp2_with (go_at_call 62; refine HE.out.mono ?_; rintro e w1 ⟨rfl, hb1⟩; obtain ⟨g0, g1⟩ := HX.out _ hb1; obtain ⟨z0, z1⟩ := (Blk.new w1 54 #[.int .i64 23, .int .i64 k]).two; have hB := hb1.alloc hb1.size (.cells #[.int .i64 23, .int .i64 k] 54))
      all_goals
        go_ret
        exact ⟨by rw [HR.out]; rfl, hB⟩
    have f0 : (t == 23) = false := by simpa using q0
    by_cases q1 : t = 24
    · subst q1
      have HR := Lib.hid (show cis (24, k) y 6 0 = true by unfold cis; simp; try omega)
      go_enter Tryz.func65, Tryz.ntmps65
      go_wp2_with (go_at_call 62; refine HE.out.mono ?_; rintro e w1 ⟨rfl, hb1⟩; obtain ⟨g0, g1⟩ := HX.out _ hb1; obtain ⟨z0, z1⟩ := (Blk.new w1 54 #[.int .i64 24, .int .i64 k]).two; have hB := hb1.alloc hb1.size (.cells #[.int .i64 24, .int .i64 k] 54))
      all_goals
        go_ret
        exact ⟨by rw [HR.out]; rfl, hB⟩
    have f1 : (t == 24) = false := by simpa using q1
    have HR := Lib.hid (show cis (t, k) y 6 0 = false by unfold cis; simp; omega)
    go_enter Tryz.func65, Tryz.ntmps65
    go_wp2_with (go_at_call 62; refine HE.out.mono ?_; rintro e w1 ⟨rfl, hb1⟩; obtain ⟨g0, g1⟩ := HX.out _ hb1; obtain ⟨z0, z1⟩ := (Blk.new w1 54 #[.int .i64 t, .int .i64 k]).two; have hB := hb1.alloc hb1.size (.cells #[.int .i64 t, .int .i64 k] 54))
    all_goals
      go_ret
      exact ⟨by rw [HR.out]; rfl, hB⟩
  · have n1 : (n == 0) = false := by simpa using hn
    by_cases q0 : t = 23
    · subst q0
      have HR := Lib.hid (show cis (23, k) y 6 n = false by unfold cis; simp; try omega)
      go_enter Tryz.func65, Tryz.ntmps65
      go_wp2_with (go_at_call 62; refine HE.out.mono ?_; rintro e w1 ⟨rfl, hb1⟩; obtain ⟨g0, g1⟩ := HX.out _ hb1; obtain ⟨z0, z1⟩ := (Blk.new w1 54 #[.int .i64 23, .int .i64 k]).two; have hB := hb1.alloc hb1.size (.cells #[.int .i64 23, .int .i64 k] 54))
      all_goals
        go_ret
        exact ⟨by rw [HR.out]; rfl, hB⟩
    have f0 : (t == 23) = false := by simpa using q0
    by_cases q1 : t = 24
    · subst q1
      have HR := Lib.hid (show cis (24, k) y 6 n = false by unfold cis; simp; try omega)
      go_enter Tryz.func65, Tryz.ntmps65
      go_wp2_with (go_at_call 62; refine HE.out.mono ?_; rintro e w1 ⟨rfl, hb1⟩; obtain ⟨g0, g1⟩ := HX.out _ hb1; obtain ⟨z0, z1⟩ := (Blk.new w1 54 #[.int .i64 24, .int .i64 k]).two; have hB := hb1.alloc hb1.size (.cells #[.int .i64 24, .int .i64 k] 54))
      all_goals
        go_ret
        exact ⟨by rw [HR.out]; rfl, hB⟩
    have f1 : (t == 24) = false := by simpa using q1
    have HR := Lib.hid (show cis (t, k) y 6 n = false by unfold cis; simp; omega)
    go_enter Tryz.func65, Tryz.ntmps65
    go_wp2_with (go_at_call 62; refine HE.out.mono ?_; rintro e w1 ⟨rfl, hb1⟩; obtain ⟨g0, g1⟩ := HX.out _ hb1; obtain ⟨z0, z1⟩ := (Blk.new w1 54 #[.int .i64 t, .int .i64 k]).two; have hB := hb1.alloc hb1.size (.cells #[.int .i64 t, .int .i64 k] 54))
    all_goals
      go_ret
      exact ⟨by rw [HR.out]; rfl, hB⟩
set_option maxRecDepth 100000 in
set_option maxHeartbeats 4000000 in
theorem ref_Is_no (ad : Addr) (c : Nat) (l : List Nd) (a m : Nat) (x : Nd) (n : Int) (y : Nd) (op : Int) (ho : ¬ (1 ≤ op ∧ op ≤ 7)) (w : World) (hx : Nodes w w.heap.size (some ad) l) (hl : l.length ≤ 1000000) (ht : scan 1 (l.drop a) = some m) (hxa : l[a]? = some x) :
    Calls Tryz.prog 65 #[.slice (some ad) l.length c, .int .i64 a, .int .i64 op, .int .i64 n] w fun e w' => e = .returned (.bool (cis x y op n)) ∧ Below w.heap.size w w' := by
  have hE := ref_End_any (some ad) c l a w hx hl
  rw [aend_some ht] at hE
  have HE := Lib.hid hE
  have HX := Lib.hid (fun W (h : Below w.heap.size w W) => show W.cell? (ad.add (a * 2)) = some (.int .i64 x.1) ∧ W.cell? ⟨(ad.add (a * 2)).block, (ad.add (a * 2)).off + 1, none⟩ = some (.int .i64 x.2) from by
    obtain ⟨ad', e, -, k0, k1⟩ := (hx.below h) a x hxa
    cases e
    exact ⟨k0, k1⟩)
  have hpos := T.pos ht
  have j0 : ¬ (a : Int) + (m : Int) < 0 := by omega
  have i1 : (a : Int) < (l.length : Int) := by omega
  have i2 : (0 : Int) ≤ (a : Int) := by omega
  clear hx hE hxa hpos ht
  obtain ⟨t, k⟩ := x
  simp only at HX
  have o1 : (op == 1) = false := by simpa using fun (q : op = 1) => ho (by omega)
  have o2 : (op == 2) = false := by simpa using fun (q : op = 2) => ho (by omega)
  have o3 : (op == 3) = false := by simpa using fun (q : op = 3) => ho (by omega)
  have o4 : (op == 4) = false := by simpa using fun (q : op = 4) => ho (by omega)
  have o5 : (op == 5) = false := by simpa using fun (q : op = 5) => ho (by omega)
  have o6 : (op == 6) = false := by simpa using fun (q : op = 6) => ho (by omega)
  have o7 : (op == 7) = false := by simpa using fun (q : op = 7) => ho (by omega)
  have HR := Lib.hid (show cis (t, k) y op n = false by unfold cis; rw [if_neg (by omega), if_neg (by omega), if_neg (by omega), if_neg (by omega), if_neg (by omega), if_neg (by omega), if_neg (by omega)])
  go_enter Tryz.func65, Tryz.ntmps65
  go_wp2_with (go_at_call 62; refine HE.out.mono ?_; rintro e w1 ⟨rfl, hb1⟩; obtain ⟨g0, g1⟩ := HX.out _ hb1; obtain ⟨z0, z1⟩ := (Blk.new w1 54 #[.int .i64 t, .int .i64 k]).two; have hB := hb1.alloc hb1.size (.cells #[.int .i64 t, .int .i64 k] 54))
  all_goals
    go_ret
    exact ⟨by rw [HR.out]; rfl, hB⟩
set_option maxRecDepth 100000 in
set_option maxHeartbeats 4000000 in
theorem ref_Is_4 (ad : Addr) (c : Nat) (l : List Nd) (a m : Nat) (x : Nd) (n : Int) (y : Nd) (w : World) (hx : Nodes w w.heap.size (some ad) l) (hl : l.length ≤ 1000000) (ht : scan 1 (l.drop a) = some m) (hxa : l[a]? = some x) :
    Calls Tryz.prog 65 #[.slice (some ad) l.length c, .int .i64 a, .int .i64 4, .int .i64 n] w fun e w' => e = .returned (.bool (cis x y 4 n)) ∧ Below w.heap.size w w' := by
  have hE := ref_End_any (some ad) c l a w hx hl
  rw [aend_some ht] at hE
  have HE := Lib.hid hE
  have HX := Lib.hid (fun W (h : Below w.heap.size w W) => show W.cell? (ad.add (a * 2)) = some (.int .i64 x.1) ∧ W.cell? ⟨(ad.add (a * 2)).block, (ad.add (a * 2)).off + 1, none⟩ = some (.int .i64 x.2) from by
    obtain ⟨ad', e, -, k0, k1⟩ := (hx.below h) a x hxa
    cases e
    exact ⟨k0, k1⟩)
  have hpos := T.pos ht
  have j0 : ¬ (a : Int) + (m : Int) < 0 := by omega
  have i1 : (a : Int) < (l.length : Int) := by omega
  have i2 : (0 : Int) ≤ (a : Int) := by omega
  clear hx hE hxa hpos ht
  obtain ⟨t, k⟩ := x
  simp only at HX
  have hw1 : IntKind.i64.wrap (k + 1) = rnd (k + 1) := rfl
  have hw2 : IntKind.i64.wrap (k - 1) = rnd (k - 1) := rfl
  have hw3 : IntKind.i64.wrap (1 - k) = rnd (1 - k) := rfl
  generalize hr1 : rnd (k + 1) = r1 at *
  generalize hr2 : rnd (k - 1) = r2 at *
  generalize hr3 : rnd (1 - k) = r3 at *
  have HCI := Lib.hid (show cis (t, k) y 4 n = ((decide (t = 1) && (decide (n = 0 ∨ n = 1 ∨ n = -1 ∨ n = r1 ∨ n = r2) && decide (n ≠ k))) || (decide (t = 2) && decide (n = r3))) by unfold cis; simp only [hr1, hr2, hr3]; rfl)
  clear hr1 hr2 hr3
  go_enter Tryz.func65, Tryz.ntmps65
  go_upto_region 13 with (go_at_call 62; refine HE.out.mono ?_; rintro e w1 ⟨rfl, hb1⟩; obtain ⟨g0, g1⟩ := HX.out _ hb1; obtain ⟨z0, z1⟩ := (Blk.new w1 54 #[.int .i64 t, .int .i64 k]).two; have hB := hb1.alloc hb1.size (.cells #[.int .i64 t, .int .i64 k] 54))
  obtain ⟨w2, hw2'⟩ : ∃ w2, w1.alloc (.cells #[.int .i64 t, .int .i64 k] 54) = w2 := ⟨_, rfl⟩
  rw [hw2'] at hB z0 z1 ⊢
  go_cut [11] from 88 to 111 (fun v wx => v = .bool (decide (n = 0 ∨ n = 1 ∨ n = -1 ∨ n = r1 ∨ n = r2)) ∧ wx = w2)
  case first =>
    by_cases q0 : n = 0
    · have f0 : (n == 0) = true := by simpa using q0
      have HV := Lib.hid (show decide (n = 0 ∨ n = 1 ∨ n = -1 ∨ n = r1 ∨ n = r2) = true from decide_eq_true (by omega))
      clear q0
      go_wp2_with fail
      go_meet
      exact ⟨by rw [HV.out]; try rfl, rfl⟩
    have f0 : (n == 0) = false := by simpa using q0
    by_cases q1 : n = 1
    · have f1 : (n == 1) = true := by simpa using q1
      have HV := Lib.hid (show decide (n = 0 ∨ n = 1 ∨ n = -1 ∨ n = r1 ∨ n = r2) = true from decide_eq_true (by omega))
      clear q1
      go_wp2_with fail
      go_meet
      exact ⟨by rw [HV.out]; try rfl, rfl⟩
    have f1 : (n == 1) = false := by simpa using q1
    by_cases q2 : n = -1
    · have f2 : (n == -1) = true := by simpa using q2
      have HV := Lib.hid (show decide (n = 0 ∨ n = 1 ∨ n = -1 ∨ n = r1 ∨ n = r2) = true from decide_eq_true (by omega))
      clear q2
      go_wp2_with fail
      go_meet
      exact ⟨by rw [HV.out]; try rfl, rfl⟩
    have f2 : (n == -1) = false := by simpa using q2
    by_cases q3 : n = r1
    · have f3 : (n == r1) = true := by simpa using q3
      have HV := Lib.hid (show decide (n = 0 ∨ n = 1 ∨ n = -1 ∨ n = r1 ∨ n = r2) = true from decide_eq_true (by omega))
      clear q3
      go_wp2_with fail
      go_meet
      exact ⟨by rw [HV.out]; try rfl, rfl⟩
    have f3 : (n == r1) = false := by simpa using q3
    by_cases q4 : n = r2
    · have f4 : (n == r2) = true := by simpa using q4
      have HV := Lib.hid (show decide (n = 0 ∨ n = 1 ∨ n = -1 ∨ n = r1 ∨ n = r2) = true from decide_eq_true (by omega))
      clear q4
      go_wp2_with fail
      go_meet
      exact ⟨by rw [HV.out]; try rfl, rfl⟩
    have f4 : (n == r2) = false := by simpa using q4
    have HV := Lib.hid (show decide (n = 0 ∨ n = 1 ∨ n = -1 ∨ n = r1 ∨ n = r2) = false from decide_eq_false (by omega))
    go_wp2_with fail
    go_meet
    exact ⟨by rw [HV.out]; try rfl, rfl⟩
  case rest =>
    obtain ⟨rfl, rfl⟩ := hcut
    generalize decide (n = 0 ∨ n = 1 ∨ n = -1 ∨ n = r1 ∨ n = r2) = near at *
    by_cases t1 : t = 1
    · have e1 : (t == 1) = true := by simpa using t1
      have e9 : (t == 2) = false := by rw [beq_eq_false_iff_ne]; omega
      by_cases hk : n = k
      · have e2 : (n == k) = true := by simpa using hk
        have e3 : (n != k) = false := by simpa using hk
        have HR := Lib.hid (show cis (t, k) y 4 n = false by rw [HCI.out, decide_eq_true t1, decide_eq_false (show ¬ t = 2 by omega), decide_eq_false (show ¬ n ≠ k from fun z => z hk)]; try simp)
        clear t1 hk
        cases near
        all_goals
          go_wp2_with fail
          go_ret
          exact ⟨by rw [HR.out]; rfl, hB⟩
      · have e2 : (n == k) = false := by simpa using hk
        have e3 : (n != k) = true := by simpa using hk
        have HR := Lib.hid (show cis (t, k) y 4 n = near by rw [HCI.out, decide_eq_true t1, decide_eq_false (show ¬ t = 2 by omega), decide_eq_true hk]; try simp)
        clear t1 hk
        cases near
        all_goals
          go_wp2_with fail
          go_ret
          exact ⟨by rw [HR.out]; rfl, hB⟩
    · have e1 : (t == 1) = false := by simpa using t1
      by_cases t2 : t = 2
      · have e9 : (t == 2) = true := by simpa using t2
        by_cases hk : n = r3
        · have e2 : (n == r3) = true := by simpa using hk
          have HR := Lib.hid (show cis (t, k) y 4 n = true by rw [HCI.out, decide_eq_false t1, decide_eq_true t2, decide_eq_true hk]; try rfl)
          clear hk t2 t1
          go_wp2_with fail
          go_ret
          exact ⟨by rw [HR.out]; rfl, hB⟩
        · have e2 : (n == r3) = false := by simpa using hk
          have HR := Lib.hid (show cis (t, k) y 4 n = false by rw [HCI.out, decide_eq_false t1, decide_eq_true t2, decide_eq_false hk]; try rfl)
          clear hk t2 t1
          go_wp2_with fail
          go_ret
          exact ⟨by rw [HR.out]; rfl, hB⟩
      · have e9 : (t == 2) = false := by simpa using t2
        have HR := Lib.hid (show cis (t, k) y 4 n = false by rw [HCI.out, decide_eq_false t1, decide_eq_false t2]; try rfl)
        go_wp2_with fail
        go_ret
        exact ⟨by rw [HR.out]; rfl, hB⟩
set_option maxRecDepth 100000 in
set_option maxHeartbeats 4000000 in
theorem ref_Is_7 (ad : Addr) (c : Nat) (l : List Nd) (a m : Nat) (x : Nd) (n : Int) (y : Nd) (hy : x.1 = 25 → l[a + 1]? = some y) (w : World) (hx : Nodes w w.heap.size (some ad) l) (hl : l.length ≤ 1000000) (ht : scan 1 (l.drop a) = some m) (hxa : l[a]? = some x) :
    Calls Tryz.prog 65 #[.slice (some ad) l.length c, .int .i64 a, .int .i64 7, .int .i64 n] w fun e w' => e = .returned (.bool (cis x y 7 n)) ∧ Below w.heap.size w w' := by
  have hE := ref_End_any (some ad) c l a w hx hl
  rw [aend_some ht] at hE
  have HE := Lib.hid hE
  have HX := Lib.hid (fun W (h : Below w.heap.size w W) => show W.cell? (ad.add (a * 2)) = some (.int .i64 x.1) ∧ W.cell? ⟨(ad.add (a * 2)).block, (ad.add (a * 2)).off + 1, none⟩ = some (.int .i64 x.2) from by
    obtain ⟨ad', e, -, k0, k1⟩ := (hx.below h) a x hxa
    cases e
    exact ⟨k0, k1⟩)
  have hpos := T.pos ht
  have j0 : ¬ (a : Int) + (m : Int) < 0 := by omega
  have i1 : (a : Int) < (l.length : Int) := by omega
  have i2 : (0 : Int) ≤ (a : Int) := by omega
  have HY := Lib.hid (fun (hya : l[a + 1]? = some y) W (h : Below w.heap.size w W) => show W.cell? (ad.add ((a + 1) * 2)) = some (.int .i64 y.1) ∧ W.cell? ⟨(ad.add ((a + 1) * 2)).block, (ad.add ((a + 1) * 2)).off + 1, none⟩ = some (.int .i64 y.2) from by
    obtain ⟨ad', e, -, k0, k1⟩ := (hx.below h) (a + 1) y hya
    cases e
    exact ⟨k0, k1⟩)
  have hpos2 := hy
  clear hx hE hxa hpos ht
  obtain ⟨t, k⟩ := x
  simp only at HX
  by_cases h25 : t = 25
  rotate_left
  · have e25 : (t == 25) = false := by simpa using h25
    have HR := Lib.hid (show cis (t, k) y 7 n = false by unfold cis; simp [h25])
    go_enter Tryz.func65, Tryz.ntmps65
    go_wp2_with (go_at_call 62; refine HE.out.mono ?_; rintro e w1 ⟨rfl, hb1⟩; obtain ⟨g0, g1⟩ := HX.out _ hb1; obtain ⟨z0, z1⟩ := (Blk.new w1 54 #[.int .i64 t, .int .i64 k]).two; have hB := hb1.alloc hb1.size (.cells #[.int .i64 t, .int .i64 k] 54))
    all_goals
      go_ret
      exact ⟨by rw [HR.out]; rfl, hB⟩
  subst h25
  have hya := hy rfl
  have HY2 := Lib.hid (HY.out hya)
  have i3 : (a : Int) + 1 < (l.length : Int) := by have := (List.getElem?_eq_some_iff.1 hya).1; omega
  have i4 : (0 : Int) ≤ (a : Int) + 1 := by omega
  have i5 : IntKind.i64.wrap ((a : Int) + 1) = (a : Int) + 1 := IntWalk.i64_in _ (by omega)
  obtain ⟨s, v⟩ := y
  simp only at HY2
  clear hya hpos2 HY hy
  by_cases hn0 : n = 0
  · subst hn0
    by_cases hs : s = 1 ∧ v = 0
    · obtain ⟨rfl, rfl⟩ := hs
      have HR := Lib.hid (show cis (25, k) (1, 0) 7 0 = false by unfold cis; simp)
      go_enter Tryz.func65, Tryz.ntmps65
      go_wp2_with (go_at_call 62; refine HE.out.mono ?_; rintro e w1 ⟨rfl, hb1⟩; obtain ⟨g0, g1⟩ := HX.out _ hb1; obtain ⟨z0, z1⟩ := (Blk.new w1 54 #[.int .i64 25, .int .i64 k]).two; have hB := hb1.alloc hb1.size (.cells #[.int .i64 25, .int .i64 k] 54); obtain ⟨u0, u1⟩ := HY2.out _ hB)
      all_goals
        go_ret
        exact ⟨by rw [HR.out]; rfl, hB⟩
    · have HR0 := Lib.hid hs
      have HR := Lib.hid (show cis (25, k) (s, v) 7 0 = true by unfold cis; simp; omega)
      go_enter Tryz.func65, Tryz.ntmps65
      go_wp2_with (go_at_call 62; refine HE.out.mono ?_; rintro e w1 ⟨rfl, hb1⟩; obtain ⟨g0, g1⟩ := HX.out _ hb1; obtain ⟨z0, z1⟩ := (Blk.new w1 54 #[.int .i64 25, .int .i64 k]).two; have hB := hb1.alloc hb1.size (.cells #[.int .i64 25, .int .i64 k] 54); obtain ⟨u0, u1⟩ := HY2.out _ hB)
      all_goals
        go_ret
        exact ⟨by rw [HR.out]; rfl, hB⟩
  by_cases hn1 : n = 1
  · subst hn1
    by_cases hs : s = 1 ∧ v = 1
    · obtain ⟨rfl, rfl⟩ := hs
      have HR := Lib.hid (show cis (25, k) (1, 1) 7 1 = false by unfold cis; simp)
      go_enter Tryz.func65, Tryz.ntmps65
      go_wp2_with (go_at_call 62; refine HE.out.mono ?_; rintro e w1 ⟨rfl, hb1⟩; obtain ⟨g0, g1⟩ := HX.out _ hb1; obtain ⟨z0, z1⟩ := (Blk.new w1 54 #[.int .i64 25, .int .i64 k]).two; have hB := hb1.alloc hb1.size (.cells #[.int .i64 25, .int .i64 k] 54); obtain ⟨u0, u1⟩ := HY2.out _ hB)
      all_goals
        go_ret
        exact ⟨by rw [HR.out]; rfl, hB⟩
    · have HR0 := Lib.hid hs
      have HR := Lib.hid (show cis (25, k) (s, v) 7 1 = true by unfold cis; simp; omega)
      go_enter Tryz.func65, Tryz.ntmps65
      go_wp2_with (go_at_call 62; refine HE.out.mono ?_; rintro e w1 ⟨rfl, hb1⟩; obtain ⟨g0, g1⟩ := HX.out _ hb1; obtain ⟨z0, z1⟩ := (Blk.new w1 54 #[.int .i64 25, .int .i64 k]).two; have hB := hb1.alloc hb1.size (.cells #[.int .i64 25, .int .i64 k] 54); obtain ⟨u0, u1⟩ := HY2.out _ hB)
      all_goals
        go_ret
        exact ⟨by rw [HR.out]; rfl, hB⟩
  have n0 : (n == 0) = false := by simpa using hn0
  have n1 : (n == 1) = false := by simpa using hn1
  have HR := Lib.hid (show cis (25, k) (s, v) 7 n = false by unfold cis; simp; omega)
  go_enter Tryz.func65, Tryz.ntmps65
  go_wp2_with (go_at_call 62; refine HE.out.mono ?_; rintro e w1 ⟨rfl, hb1⟩; obtain ⟨g0, g1⟩ := HX.out _ hb1; obtain ⟨z0, z1⟩ := (Blk.new w1 54 #[.int .i64 25, .int .i64 k]).two; have hB := hb1.alloc hb1.size (.cells #[.int .i64 25, .int .i64 k] 54); obtain ⟨u0, u1⟩ := HY2.out _ hB)
  all_goals
    go_ret
    exact ⟨by rw [HR.out]; rfl, hB⟩

end Go.Proofs.YtofhgaioidfdmaaGreat.Cat

set_option linter.unusedVariables false
namespace Go.Proofs.YtofhgaioidfdmaaGreat.Cat
open Go.RowKit Mem _root_.Go.Proofs.YtofhgaioidfdmaaGreat.Arena _root_.Go.Proofs.YtofhgaioidfdmaaGreat.Delta _root_.Go.Proofs.YtofhgaioidfdmaaGreat.Path
attribute [local go_sem ↓] Go.wp_at_zero Go.wp_at_succ

/-- The node at a place, and the one behind it. -/
def nodeAt (l : List Nd) (a : Int) : Nd := l.getD a.toNat (0, 0)
def behind (l : List Nd) (a : Int) : Nd := l.getD (a.toNat + 1) (0, 0)
/-- The answer. -/
def isv (l : List Nd) (a op n : Int) : Bool := if aend l a < 0 then false else cis (nodeAt l a) (behind l a) op n
theorem isv_some {l : List Nd} {a m : Nat} (h : scan 1 (l.drop a) = some m) (op n : Int) : isv l a op n = cis (nodeAt l a) (behind l a) op n := if_neg (by rw [aend_some h]; omega)
theorem nodeAt_some {l : List Nd} {a m : Nat} (h : scan 1 (l.drop a) = some m) : l[a]? = some (nodeAt l a) := by
  have := T.pos h
  unfold nodeAt
  rw [Int.toNat_natCast, List.getD_eq_getElem?_getD, List.getElem?_eq_getElem (by omega)]
  rfl
theorem arity_some {l : List Nd} {a m : Nat} (h : scan 1 (l.drop a) = some m) : 0 ≤ ar (nodeAt l a) ∧ ∃ k, scan (ar (nodeAt l a)).toNat (l.drop (a + 1)) = some k := by
  have hp := T.pos h
  have hx := nodeAt_some h
  have e : l.drop a = nodeAt l a :: l.drop (a + 1) := by
    have h1 := List.drop_eq_getElem_cons (l := l) (i := a) (by omega)
    rw [h1]
    rw [List.getElem?_eq_getElem (by omega)] at hx
    rw [Option.some.inj hx]
  rw [e] at h
  by_cases c : ar (nodeAt l a) < 0
  · rw [show (1 : Nat) = 0 + 1 from rfl, scan_bad c] at h; cases h
  · rw [show (1 : Nat) = 0 + 1 from rfl, scan_good (by omega), Option.map_eq_some_iff] at h
    obtain ⟨k, h1, -⟩ := h
    rw [Nat.zero_add] at h1
    exact ⟨by omega, k, h1⟩
theorem behind_some {l : List Nd} {a m : Nat} (h : scan 1 (l.drop a) = some m) (ht : (nodeAt l a).1 = 25) : l[a + 1]? = some (behind l a) := by
  obtain ⟨h0, k, hk⟩ := arity_some h
  have e : ar (nodeAt l a) = 1 := by
    generalize nodeAt l a = x at *
    obtain ⟨t, n⟩ := x
    simp only at ht
    subst ht
    unfold ar asks at h0 ⊢
    simp at h0 ⊢
    split at h0
    · omega
    · omega
  rw [e] at hk
  have hp : k ≤ (l.drop (a + 1)).length ∧ 1 ≤ k := by have := scan_le _ _ _ hk; exact ⟨this.2, this.1⟩
  rw [List.length_drop] at hp
  unfold behind
  rw [Int.toNat_natCast, List.getD_eq_getElem?_getD, List.getElem?_eq_getElem (by omega)]
  rfl

set_option maxRecDepth 100000 in
set_option maxHeartbeats 4000000 in
theorem ref_Is_any (A : Option Addr) (c : Nat) (l : List Nd) (a op n : Int) (w : World) (hx : Nodes w w.heap.size A l) (hl : l.length ≤ 1000000) :
    Calls Tryz.prog 65 #[.slice A l.length c, .int .i64 a, .int .i64 op, .int .i64 n] w fun e w' => e = .returned (.bool (isv l a op n)) ∧ Below w.heap.size w w' := by
  rcases aend_cases l a with he | ⟨k, m, rfl, hs, -, -, -⟩
  · have HE := Lib.hid (ref_End_any A c l a w hx hl)
    have HR := Lib.hid (show isv l a op n = false from if_pos (by rw [he]; decide))
    rw [he] at HE
    clear hx he
    go_enter Tryz.func65, Tryz.ntmps65
    go_wp2_with (go_at_call 62; refine HE.out.mono ?_; rintro e w1 ⟨rfl, hb1⟩)
    go_ret
    exact ⟨by rw [HR.out]; rfl, hb1⟩
  · rw [isv_some hs]
    have h0 := nodeAt_some hs
    obtain ⟨ad, rfl, -, -⟩ := hx k _ h0
    have h1 := behind_some hs
    generalize nodeAt l k = x at *
    generalize behind l k = y at *
    by_cases ho : 1 ≤ op ∧ op ≤ 7
    · obtain rfl | rfl | rfl | rfl | rfl | rfl | rfl : op = 1 ∨ op = 2 ∨ op = 3 ∨ op = 4 ∨ op = 5 ∨ op = 6 ∨ op = 7 := by omega
      · exact ref_Is_1 ad c l k m x n y w hx hl hs h0
      · exact ref_Is_2 ad c l k m x n y w hx hl hs h0
      · exact ref_Is_3 ad c l k m x n y w hx hl hs h0
      · exact ref_Is_4 ad c l k m x n y w hx hl hs h0
      · exact ref_Is_5 ad c l k m x n y w hx hl hs h0
      · exact ref_Is_6 ad c l k m x n y w hx hl hs h0
      · exact ref_Is_7 ad c l k m x n y h1 w hx hl hs h0
    · exact ref_Is_no ad c l k m x n y op ho w hx hl hs h0

end Go.Proofs.YtofhgaioidfdmaaGreat.Cat

set_option linter.unusedVariables false
namespace Go.Proofs.YtofhgaioidfdmaaGreat.Cat
open Go.RowKit Mem _root_.Go.Proofs.YtofhgaioidfdmaaGreat.Arena _root_.Go.Proofs.YtofhgaioidfdmaaGreat.Delta _root_.Go.Proofs.YtofhgaioidfdmaaGreat.Path
attribute [local go_sem ↓] Go.wp_at_zero Go.wp_at_succ

theorem lastLt_snoc (v a : Int) : ∀ (l : List Int) (j k : Nat), lastLt v (l ++ [a]) j k = if a < v then j + l.length + 1 else lastLt v l j k
  | [], j, k => rfl
  | x :: l, j, k => by
    rw [List.cons_append, lastLt, lastLt, lastLt_snoc v a l, List.length_cons]
    split
    · omega
    · rfl
theorem lastLt_le (v : Int) : ∀ (l : List Int) (j k : Nat), k ≤ j → lastLt v l j k ≤ j + l.length
  | [], j, k, h => by simpa [lastLt] using h
  | x :: l, j, k, h => by
    rw [lastLt, List.length_cons]
    have := lastLt_le v l (j + 1) (if x < v then j + 1 else k) (by split <;> omega)
    omega
theorem ins_in {out : List Int} {v : Int} (h : v ∈ out) : ins out v = out := if_pos h
theorem ins_new {out : List Int} {v : Int} (h : ¬ v ∈ out) {k : Nat} (hk : lastLt v out 0 0 = k) : ins out v = out.take k ++ [v] ++ out.drop k := by
  unfold ins
  rw [if_neg h, hk, List.append_assoc]
  rfl
theorem foldl_take {L : List Int} {i : Nat} {v : Int} (h : L[i]? = some v) (f : List Int → Int → List Int) : (L.take (i + 1)).foldl f [] = f ((L.take i).foldl f []) v := by
  rw [take_snoc L i v h, List.foldl_append]
  rfl
theorem adds_at (x : Nd) : ∀ i : Nat, i < 13 → (adds x)[5 + i]? = some (7 + (i : Int)) := by
  intro i hi
  unfold adds
  obtain rfl | rfl | rfl | rfl | rfl | rfl | rfl | rfl | rfl | rfl | rfl | rfl | rfl : i = 0 ∨ i = 1 ∨ i = 2 ∨ i = 3 ∨ i = 4 ∨ i = 5 ∨ i = 6 ∨ i = 7 ∨ i = 8 ∨ i = 9 ∨ i = 10 ∨ i = 11 ∨ i = 12 := by omega
  all_goals rfl
theorem adds_5 (x : Nd) : (adds x).take 5 = [-1, 0, 1, rnd (x.2 - 1), rnd (x.2 + 1)] := rfl
theorem adds_len (x : Nd) : (adds x).length = 18 := rfl
/-- A row of numbers, its first ones and its last ones. -/
theorem irow_front {w : World} {B : Nat} {A : Option Addr} {l : List Int} (h : IRow w B A l) (k : Nat) : IRow w B A (l.take k) := by
  intro i x hx
  rw [List.getElem?_take] at hx
  split at hx
  · exact h i x hx
  · cases hx
theorem irow_back {w : World} {B : Nat} {ad : Addr} {l : List Int} (h : IRow w B (some ad) l) (k : Nat) : IRow w B (some (ad.add k)) (l.drop k) := by
  intro i x hx
  rw [List.getElem?_drop] at hx
  obtain ⟨ad', e, h1, h2⟩ := h _ x hx
  cases e
  exact ⟨_, rfl, by rw [add_blockN]; exact h1, by rw [add_add]; exact h2⟩

/-- What has been put in, as a value of the walk. -/
def insTo (L : List Int) (i : Nat) : List Int := (L.take i).foldl ins []
theorem few1 {out : List Int} (h : out.length ≤ 18) (k : Nat) : ([] : List Int).length + (out.take k).length ≤ 100000000 := by
  rw [List.length_nil, List.length_take]; omega
theorem few2 {out : List Int} (h : out.length ≤ 18) (k : Nat) (y : Int) : (out.take k).length + [y].length ≤ 100000000 := by
  rw [List.length_take, List.length_singleton]; omega
theorem few3 {out : List Int} (h : out.length ≤ 18) (k : Nat) (y : Int) : (out.take k ++ [y]).length + (out.drop k).length ≤ 100000000 := by
  rw [List.length_append, List.length_take, List.length_drop, List.length_singleton]; omega
theorem own_le {w : World} {base base' : Nat} {e : TypeId} {size : Nat} {v : Value} {n : Nat} {xs : List Value} (h : w.ownsRow base e size v n xs) (hb : base' ≤ base) : w.ownsRow base' e size v n xs := by
  refine ⟨h.1, ?_⟩
  rcases h.2 with h2 | ⟨g, cap, cur, e1, h3, r⟩
  · exact .inl h2
  · exact .inr ⟨g, cap, cur, e1, Nat.le_trans hb h3, r⟩
theorem insTo_len (L : List Int) (i : Nat) : (insTo L i).length ≤ i := by
  have := (fold_up (L.take i) [] trivial).2.2
  unfold insTo
  rw [List.length_take] at this
  simp at this
  omega

set_option maxRecDepth 100000 in
set_option maxHeartbeats 4000000 in
theorem ref_tries_any (x : Nd) (w : World) :
    Calls Tryz.prog 64 #[.agg #[.int .i64 x.1, .int .i64 x.2]] w fun e w' => Below w.heap.size w w' ∧ ∃ A c, e = .returned (.slice A (tries x).length c) ∧ (A = none → c = 0) ∧ IRow w' w'.heap.size A (tries x) := by
  have HT := Lib.hid (show tries x = insTo (adds x) (adds x).length by unfold tries insTo; rw [List.take_length])
  have HA := Lib.hid (adds_at x)
  have h5 := adds_5 x
  have hlen := adds_len x
  obtain ⟨t, k⟩ := x
  simp only at h5 ⊢
  obtain ⟨x0, x1⟩ := (Blk.new w 54 #[.int .i64 t, .int .i64 k]).two
  have hB1 : Below w.heap.size w (w.alloc (.cells #[.int .i64 t, .int .i64 k] 54)) := (Below.refl _ _).alloc (Nat.le_refl _) _
  have hw1 : IntKind.i64.wrap (k + 1) = rnd (k + 1) := rfl
  have hw2 : IntKind.i64.wrap (k - 1) = rnd (k - 1) := rfl
  generalize rnd (k + 1) = r1 at *
  generalize rnd (k - 1) = r2 at *
  generalize tries (t, k) = Z at *
  generalize adds (t, k) = L at *
  have H5 := Lib.hid h5
  have HLen := Lib.hid hlen
  clear h5 hlen
  go_enter Tryz.func64, Tryz.ntmps64
  go_wp2_with fail
  have hz : (w.alloc (.cells #[.int .i64 t, .int .i64 k] 54)).heap.size = w.heap.size + 1 := World.size_alloc _ _
  generalize w.alloc (.cells #[.int .i64 t, .int .i64 k] 54) = w1 at *
  go_loopw [4, 5] (fun v n wr => ∃ i : Nat, i ≤ 13 ∧ n = .int .i64 (7 + (i : Int)) ∧ wr.ownsRow w.heap.size 3 1 v (L.take (5 + i)).length (icells (L.take (5 + i))) ∧ Below w.heap.size w wr) (fun _ n _ => (20 - intOf n).toNat)
  case atStart =>
    have hO := World.ownsRow_lit (e := 3) (size := 1) (base := w.heap.size) w1 #[.int .i64 (-1), .int .i64 0, .int .i64 1, .int .i64 r2, .int .i64 r1] 5 hB1.size (by simp [maxLen]) (by simp)
    rw [hz] at hO
    refine ⟨0, by omega, rfl, ?_, hB1.alloc hB1.size _⟩
    rw [Nat.add_zero, H5.out]
    exact hO
  case round =>
    obtain ⟨i, hi, rfl, hO, hB⟩ := hrel
    by_cases hlt : i < 13
    · have i1 : (7 : Int) + (i : Int) ≤ 19 := by omega
      have hsn : L.take (5 + (i + 1)) = L.take (5 + i) ++ [7 + (i : Int)] := take_snoc L (5 + i) _ (HA.out i hlt)
      have hle : (L.take (5 + i)).length ≤ 18 := by rw [List.length_take]; omega
      have HSN := Lib.hid hsn
      clear hsn
      have hB2 := hB.alloc hB.size (.cells #[.int .i64 (7 + (i : Int))] 3)
      have hO2 := hO.alloc (.cells #[.int .i64 (7 + (i : Int))] 3)
      have hr2 := IRow.of_blk (B := wr.heap.size + 1) (ks := [7 + (i : Int)]) (Blk.new wr 3 #[.int .i64 (7 + (i : Int))]) (Nat.lt_succ_self _)
      go_wp2_with (at_builtin; refine append_ints rfl _ _ rfl w.heap.size hB2.size _ (L.take (5 + i)) rfl hO2 _ (some ⟨wr.heap.size, 0, none⟩) 1 [7 + (i : Int)] 1 rfl rfl (fun e => by cases e) hr2 (by simp; omega) ?_; intro v7 w7 hown hgr hat; have hB7 := hB2.grown hgr hB2.size (fun i hi => (hO2.lt i hi).1))
      go_roundw
      case rel => exact ⟨i + 1, by omega, by go_num, by rw [HSN.out]; exact hown, hB7⟩
      case measure => simp [intOf]; omega
    · obtain rfl : i = 13 := by omega
      have e : L.take (5 + 13) = L := List.take_of_length_le (by rw [HLen.out]; decide)
      rw [e] at hO
      obtain ⟨A, c, rfl, -, hA, hR, -⟩ := own_ints2' hO
      clear hO hA e
      have i1 : ¬ (7 : Int) + ((13 : Nat) : Int) ≤ 19 := by omega
      obtain ⟨u1, hu1⟩ : ∃ u1, u1 = wr := ⟨_, rfl⟩
      subst hu1
      have HR := Lib.hid hR
      clear hR
      go_wp2_with fail
      go_loopw [3, 6] (fun v i wr2 => ∃ m : Nat, m ≤ 18 ∧ i = .int .i64 m ∧ wr2.ownsRow u1.heap.size 3 1 v (insTo L m).length (icells (insTo L m)) ∧ Below u1.heap.size u1 wr2) (fun _ i _ => 18 - (intOf i).toNat)
      case atStart => exact ⟨0, by omega, rfl, World.ownsRow_nil _ _ _ _, Below.refl _ _⟩
      case round =>
        obtain ⟨m, hm, rfl, hO, hB2⟩ := hrel
        obtain ⟨u2, hu2⟩ : ∃ u2, u2 = wr := ⟨_, rfl⟩
        subst hu2
        by_cases hlt2 : m < 18
        · have i2 : (m : Int) < (L.length : Int) := by rw [HLen.out]; omega
          have i3 : (0 : Int) ≤ (m : Int) := by omega
          obtain ⟨y, hy⟩ : ∃ y, L[m]? = some y := ⟨_, List.getElem?_eq_getElem (by rw [HLen.out]; omega)⟩
          obtain ⟨ad, rfl, hb', -⟩ := HR.out m y hy
          have hnext : insTo L (m + 1) = ins (insTo L m) y := foldl_take hy ins
          have hle := insTo_len L m
          have G0 := Lib.hid (fun W (h : Below u1.heap.size u1 W) => show W.cell? (ad.add m) = some (.int .i64 y) from by
            obtain ⟨ad', e, -, h3⟩ := (HR.out.at h) m y hy
            cases e
            exact h3)
          clear hy
          generalize insTo L m = out at *
          obtain ⟨A2, c2, rfl, hc2, hA2, hR2, -⟩ := own_ints2' hO
          have HR2 := Lib.hid hR2
          have HN := Lib.hid hnext
          have HO := Lib.hid hO
          clear hR2 hnext hO
          have g0 := G0.out _ hB2
          go_wp2_with fail
          go_loopw [7, 8, 9] (fun k b j wr3 => ∃ q nd : Nat, q ≤ out.length ∧ j = .int .i64 q ∧ k = .int .i64 (lastLt y (out.take q) 0 0 : Nat) ∧ b = .bool (decide (y ∈ out.take q)) ∧ wr3 = u2.drewN nd) (fun _ _ j _ => out.length - (intOf j).toNat)
          case atStart => exact ⟨0, 0, by omega, rfl, rfl, by simp, rfl⟩
          case round =>
            obtain ⟨q, nd, hq, rfl, rfl, rfl, rfl⟩ := hrel
            by_cases hlt3 : q < out.length
            · have i4 : (q : Int) < (out.length : Int) := by omega
              have i5 : (0 : Int) ≤ (q : Int) := by omega
              obtain ⟨z, hz2⟩ : ∃ z, out[q]? = some z := ⟨_, List.getElem?_eq_getElem hlt3⟩
              obtain ⟨ad2, rfl, -, g1⟩ := HR2.out q z hz2
              have hk1 : lastLt y (out.take (q + 1)) 0 0 = if z < y then q + 1 else lastLt y (out.take q) 0 0 := by
                rw [take_snoc out q z hz2, lastLt_snoc, List.length_take, Nat.min_eq_left (by omega), Nat.zero_add]
              have hb1 : decide (y ∈ out.take (q + 1)) = (decide (y ∈ out.take q) || decide (z = y)) := by
                rw [take_snoc out q z hz2]
                by_cases c1 : y ∈ out.take q
                · simp [c1]
                · by_cases c2 : z = y
                  · simp [c2]
                  · simp [c1, c2, Ne.symm c2]
              have HK := Lib.hid hk1
              have HBo := Lib.hid hb1
              clear hk1 hb1 hz2
              generalize lastLt y (out.take q) 0 0 = kk at *
              generalize decide (y ∈ out.take q) = bb at *
              rcases Int.lt_trichotomy z y with hc | hc | hc
              · have d1 : (z == y) = false := by rw [beq_eq_false_iff_ne]; omega
                have HK' := Lib.hid (HK.out.trans (if_pos hc))
                have HB' := Lib.hid (HBo.out.trans (by rw [decide_eq_false (show ¬ z = y by omega), Bool.or_false]))
                cases bb
                all_goals
                  go_wp2_with fail
                  go_quiet (fail)
                  go_wp2_with fail
                  go_quiet (fail)
                  go_wp2_with fail
                  go_roundw
                  case rel => exact ⟨q + 1, _, by omega, by go_num, by rw [HK'.out]; go_num, by rw [HB'.out], rfl⟩
                  case measure => simp [intOf]; omega
              · have d1 : (z == y) = true := by simpa using hc
                have d2 : ¬ z < y := by omega
                have HK' := Lib.hid (HK.out.trans (if_neg d2))
                have HB' := Lib.hid (HBo.out.trans (by rw [decide_eq_true hc, Bool.or_true]))
                clear hc
                cases bb
                all_goals
                  go_wp2_with fail
                  go_quiet (fail)
                  go_wp2_with fail
                  go_quiet (fail)
                  go_wp2_with fail
                  go_roundw
                  case rel => exact ⟨q + 1, _, by omega, by go_num, by rw [HK'.out], by rw [HB'.out], rfl⟩
                  case measure => simp [intOf]; omega
              · have d1 : (z == y) = false := by rw [beq_eq_false_iff_ne]; omega
                have d2 : ¬ z < y := by omega
                have HK' := Lib.hid (HK.out.trans (if_neg d2))
                have HB' := Lib.hid (HBo.out.trans (by rw [decide_eq_false (show ¬ z = y by omega), Bool.or_false]))
                cases bb
                all_goals
                  go_wp2_with fail
                  go_quiet (fail)
                  go_wp2_with fail
                  go_quiet (fail)
                  go_wp2_with fail
                  go_roundw
                  case rel => exact ⟨q + 1, _, by omega, by go_num, by rw [HK'.out], by rw [HB'.out], rfl⟩
                  case measure => simp [intOf]; omega
            · obtain rfl : q = out.length := by omega
              have i4 : ¬ (out.length : Int) < (out.length : Int) := by omega
              rw [List.take_length] at *
              have hBn : Below u1.heap.size u1 (u2.drewN nd) := belowN hB2 _
              have hOn : (u2.drewN nd).ownsRow u1.heap.size 3 1 (.slice A2 out.length c2) out.length (icells out) := HO.out
              have hRn : IRow (u2.drewN nd) (u2.drewN nd).heap.size A2 out := HR2.out
              generalize u2.drewN nd = u3 at *
              clear HO HR2 hB2 g0
              have g0 := G0.out _ hBn
              by_cases hin : y ∈ out
              · have hd : decide (y ∈ out) = true := decide_eq_true hin
                have HI := Lib.hid (ins_in hin)
                rw [hd]
                clear hin hd
                go_wp2_with fail
                go_roundw
                case rel => exact ⟨m + 1, by omega, by go_num, by rw [HN.out, HI.out]; exact hOn, hBn⟩
                case measure => simp [intOf]; omega
              · have hd : decide (y ∈ out) = false := decide_eq_false hin
                obtain ⟨kk, hkk⟩ : ∃ kk, lastLt y out 0 0 = kk := ⟨_, rfl⟩
                have hkl : kk ≤ out.length := by rw [← hkk]; have := lastLt_le y out 0 0 (Nat.le_refl _); omega
                have HI := Lib.hid (ins_new hin hkk)
                rw [hd, hkk]
                clear hin hd hkk
                have LL := Lib.hid (show out.length ≤ 18 by omega)
                have hB3 : Below u3.heap.size u3 (u3.alloc (.cells #[] 3)) := (Below.refl _ _).alloc (Nat.le_refl _) _
                have hO3 := World.ownsRow_lit (e := 3) (size := 1) (base := u3.heap.size) u3 #[] 0 (Nat.le_refl _) (by simp [maxLen]) (by simp)
                cases A2 with
                | none =>
                  obtain rfl := hA2 rfl
                  obtain rfl := irow_empty hRn
                  obtain rfl : kk = 0 := by simpa using hkl
                  have HV := Lib.hid (fun (W : World) (B : Nat) => show IRow W B none [] from fun i x h => by simp at h)
                  go_wp2_with (first
                    | (at_builtin; refine append_ints rfl _ _ rfl u3.heap.size hB6.size _ _ rfl hown6 u3.heap.size _ _ [] _ rfl rfl (fun _ => rfl) (HV.out _ _) (few3 LL.out 0 y) ?_; intro v7 w7 hown7 hgr7 _; have hB7 := hB6.grown hgr7 hB6.size (fun i e => (hown6.lt i e).1))
                    | (at_builtin; refine append_ints rfl _ _ rfl u3.heap.size hB5.size _ _ rfl hO5 _ (some ⟨w4.heap.size, 0, none⟩) 1 [y] 1 rfl rfl (fun e => by cases e) hr5 (few2 LL.out 0 y) ?_; intro v6 w6 hown6 hgr6 _; have hB6 := hB5.grown hgr6 hB5.size (fun i e => (hO5.lt i e).1))
                    | (at_builtin; refine append_ints rfl _ _ rfl u3.heap.size hB3.size _ [] rfl hO3 u3.heap.size none 0 [] 0 rfl rfl (fun _ => rfl) (HV.out _ _) (few1 LL.out 0) ?_; intro v4 w4 hown4 hgr4 _; rw [List.nil_append] at hown4; have hB4 := hB3.grown hgr4 hB3.size (fun i e => (hO3.lt i e).1); have g4 := G0.out _ (hBn.trans (hB4.mono hBn.size)); have hO5 := hown4.alloc (.cells #[.int .i64 y] 3); have hB5 := hB4.alloc hB4.size (.cells #[.int .i64 y] 3); have hr5 := IRow.of_blk (B := w4.heap.size + 1) (ks := [y]) (Blk.new w4 3 #[.int .i64 y]) (Nat.lt_succ_self _))
                    | fail)
                  go_roundw
                  case rel => exact ⟨m + 1, by omega, by go_num, by rw [HN.out, HI.out]; exact own_le hown7 hBn.size, hBn.trans (hB7.mono hBn.size)⟩
                  case measure => simp [intOf]; omega
                | some ad2 =>
                  have i5 : (0 : Int) ≤ (kk : Int) := by omega
                  have i6 : (kk : Int) ≤ (out.length : Int) := by omega
                  have i7 : (kk : Int) ≤ (c2 : Int) := by omega
                  have L1 := Lib.hid (show (out.take kk).length = kk by rw [List.length_take]; omega)
                  have HRn := Lib.hid hRn
                  clear hRn hA2 hOn
                  by_cases hct : c2 = kk
                  · subst hct
                    have L2 := Lib.hid (show (out.drop c2).length = 0 by rw [List.length_drop]; omega)
                    have HNL := Lib.hid (fun (W : World) (B : Nat) (A : Option Addr) => show IRow W B A (out.drop c2) from fun i x h => by rw [List.drop_eq_nil_of_le (by omega)] at h; simp at h)
                    have i8 : out.length = c2 := by omega
                    go_wp2_with (first
                      | (at_builtin; refine append_ints rfl _ _ rfl u3.heap.size hB6.size _ _ rfl hown6 u3.heap.size _ _ (out.drop c2) _ L2.out rfl (by intro e; cases e) (HNL.out _ _ _) (few3 LL.out _ _) ?_; intro v7 w7 hown7 hgr7 _; have hB7 := hB6.grown hgr7 hB6.size (fun i e => (hown6.lt i e).1))
                      | (at_builtin; refine append_ints rfl _ _ rfl u3.heap.size hB5.size _ _ rfl hO5 _ (some ⟨w4.heap.size, 0, none⟩) 1 [y] 1 rfl rfl (fun e => by cases e) hr5 (few2 LL.out _ _) ?_; intro v6 w6 hown6 hgr6 _; have hB6 := hB5.grown hgr6 hB5.size (fun i e => (hO5.lt i e).1))
                      | (at_builtin; refine append_ints rfl _ _ rfl u3.heap.size hB3.size _ [] rfl hO3 u3.heap.size (some ad2) c2 (out.take c2) c2 L1.out rfl (fun e => by cases e) (irow_front (HRn.out.below hB3) c2) (few1 LL.out _) ?_; intro v4 w4 hown4 hgr4 _; rw [List.nil_append] at hown4; have hB4 := hB3.grown hgr4 hB3.size (fun i e => (hO3.lt i e).1); have g4 := G0.out _ (hBn.trans (hB4.mono hBn.size)); have hO5 := hown4.alloc (.cells #[.int .i64 y] 3); have hB5 := hB4.alloc hB4.size (.cells #[.int .i64 y] 3); have hr5 := IRow.of_blk (B := w4.heap.size + 1) (ks := [y]) (Blk.new w4 3 #[.int .i64 y]) (Nat.lt_succ_self _))
                      | fail)
                    go_roundw
                    case rel => exact ⟨m + 1, by omega, by go_num, by rw [HN.out, HI.out]; exact own_le hown7 hBn.size, hBn.trans (hB7.mono hBn.size)⟩
                    case measure => simp [intOf]; omega
                  · have L2 := Lib.hid (show (out.drop kk).length = out.length - kk by rw [List.length_drop])
                    go_wp2_with (first
                      | (at_builtin; refine append_ints rfl _ _ rfl u3.heap.size hB6.size _ _ rfl hown6 u3.heap.size _ _ (out.drop kk) _ L2.out rfl (by intro e; cases e) (irow_back (HRn.out.below hB6) kk) (few3 LL.out _ _) ?_; intro v7 w7 hown7 hgr7 _; have hB7 := hB6.grown hgr7 hB6.size (fun i e => (hown6.lt i e).1))
                      | (at_builtin; refine append_ints rfl _ _ rfl u3.heap.size hB5.size _ _ rfl hO5 _ (some ⟨w4.heap.size, 0, none⟩) 1 [y] 1 rfl rfl (fun e => by cases e) hr5 (few2 LL.out _ _) ?_; intro v6 w6 hown6 hgr6 _; have hB6 := hB5.grown hgr6 hB5.size (fun i e => (hO5.lt i e).1))
                      | (at_builtin; refine append_ints rfl _ _ rfl u3.heap.size hB3.size _ [] rfl hO3 u3.heap.size (some ad2) c2 (out.take kk) kk L1.out rfl (fun e => by cases e) (irow_front (HRn.out.below hB3) kk) (few1 LL.out _) ?_; intro v4 w4 hown4 hgr4 _; rw [List.nil_append] at hown4; have hB4 := hB3.grown hgr4 hB3.size (fun i e => (hO3.lt i e).1); have g4 := G0.out _ (hBn.trans (hB4.mono hBn.size)); have hO5 := hown4.alloc (.cells #[.int .i64 y] 3); have hB5 := hB4.alloc hB4.size (.cells #[.int .i64 y] 3); have hr5 := IRow.of_blk (B := w4.heap.size + 1) (ks := [y]) (Blk.new w4 3 #[.int .i64 y]) (Nat.lt_succ_self _))
                      | fail)
                    go_roundw
                    case rel => exact ⟨m + 1, by omega, by go_num, by rw [HN.out, HI.out]; exact own_le hown7 hBn.size, hBn.trans (hB7.mono hBn.size)⟩
                    case measure => simp [intOf]; omega
        · obtain rfl : m = 18 := by omega
          have e : insTo L 18 = Z := by rw [HT.out, HLen.out]
          rw [e] at hO
          obtain ⟨A, c, rfl, -, hA, hR2, -⟩ := own_ints2' hO
          have hR3 := Lib.hid hR2
          have i2 : ¬ ((18 : Nat) : Int) < (L.length : Int) := by rw [HLen.out]; omega
          clear hO e hR2
          go_wp2_with fail
          go_ret
          exact ⟨hB.trans (hB2.mono hB.size), A, c, rfl, hA, hR3.out⟩

end Go.Proofs.YtofhgaioidfdmaaGreat.Cat

set_option linter.unusedVariables false
namespace Go.Proofs.YtofhgaioidfdmaaGreat.Cat
open Go.RowKit Mem _root_.Go.Proofs.YtofhgaioidfdmaaGreat.Arena _root_.Go.Proofs.YtofhgaioidfdmaaGreat.Delta _root_.Go.Proofs.YtofhgaioidfdmaaGreat.Path

/-- Deltas with empty paths, somewhere in memory. -/
def DRow (w : World) (B : Nat) (A : Option Addr) (l : List (Int × Int)) : Prop :=
  ∀ (i : Nat) (b : Int × Int), l[i]? = some b → ∃ ad P c, A = some ad ∧ ad.block < B ∧ (P = none → c = 0) ∧ w.cell? (ad.add (i * 3)) = some (.slice P 0 c) ∧
    w.cell? ⟨(ad.add (i * 3)).block, (ad.add (i * 3)).off + 1, none⟩ = some (.int .i64 b.1) ∧ w.cell? ⟨(ad.add (i * 3)).block, (ad.add (i * 3)).off + 2, none⟩ = some (.int .i64 b.2)
theorem DRow.below {w w' : World} {B : Nat} {A : Option Addr} {l : List (Int × Int)} (h : DRow w B A l) (hb : Below B w w') : DRow w' B A l := by
  intro i b hi
  obtain ⟨ad, P, c, e, h1, h2, h3, h4, h5⟩ := h i b hi
  have hk := hb.block (ad.add (i * 3)).block (by rw [add_blockN]; exact h1)
  refine ⟨ad, P, c, e, h1, h2, ?_, ?_, ?_⟩
  · rw [← h3]; unfold World.cell?; rw [hk]
  · rw [← h4]; unfold World.cell?; rw [hk]
  · rw [← h5]; unfold World.cell?; rw [hk]
theorem DRow.at {w w' : World} {A : Option Addr} {l : List (Int × Int)} (h : DRow w w.heap.size A l) (hb : Below w.heap.size w w') : DRow w' w'.heap.size A l := by
  intro i b hi
  obtain ⟨ad, P, c, e, h1, r⟩ := (DRow.below h hb) i b hi
  exact ⟨ad, P, c, e, Nat.lt_of_lt_of_le h1 hb.size, r⟩

def dcell (b : Int × Int) : List Value := [.slice none 0 0, .int .i64 b.1, .int .i64 b.2]
def dcells (l : List (Int × Int)) : List Value := l.flatMap dcell
theorem dcells_snoc (l : List (Int × Int)) (b : Int × Int) : dcells (l ++ [b]) = dcells l ++ dcell b := by simp [dcells]
theorem dcells_get : ∀ (l : List (Int × Int)) (i : Nat) (b : Int × Int), l[i]? = some b → (dcells l)[i * 3]? = some (.slice none 0 0) ∧ (dcells l)[i * 3 + 1]? = some (.int .i64 b.1) ∧ (dcells l)[i * 3 + 2]? = some (.int .i64 b.2)
  | [], i, b, h => by simp at h
  | x :: l, 0, b, h => by
    obtain rfl : x = b := by simpa using h
    exact ⟨rfl, rfl, rfl⟩
  | x :: l, i + 1, b, h => by
    obtain ⟨h1, h2, h3⟩ := dcells_get l i b (by simpa using h)
    have e : dcells (x :: l) = dcell x ++ dcells l := rfl
    have e3 : (dcell x).length = 3 := rfl
    rw [e]
    refine ⟨?_, ?_, ?_⟩
    · rw [List.getElem?_append_right (by rw [e3]; omega), e3, ← h1]; congr 1; omega
    · rw [List.getElem?_append_right (by rw [e3]; omega), e3, ← h2]; congr 1; omega
    · rw [List.getElem?_append_right (by rw [e3]; omega), e3, ← h3]; congr 1; omega
/-- A row of deltas that the call owns, as deltas. -/
theorem own_drow {w : World} {base : Nat} {v : Value} {l : List (Int × Int)} (h : w.ownsRow base 34 3 v l.length (dcells l)) :
    ∃ A c, v = .slice A l.length c ∧ l.length ≤ c ∧ (A = none → c = 0) ∧ DRow w w.heap.size A l := by
  have hc := fun g hg => h.cells (g := g) hg
  rcases h.2 with ⟨rfl, h0⟩ | ⟨g, cap, cur, rfl, -, hg, hn, -⟩
  · obtain rfl := List.length_eq_zero_iff.1 h0
    exact ⟨none, 0, rfl, Nat.le_refl _, fun _ => rfl, fun i b h => by simp at h⟩
  · refine ⟨_, _, rfl, hn, fun e => by simp at e, fun i x hx => ⟨_, none, 0, rfl, (Array.getElem?_eq_some_iff.1 hg).1, fun _ => rfl, ?_, ?_, ?_⟩⟩
    · exact hc g rfl _ _ (dcells_get l i x hx).1
    · have := hc g rfl _ _ (dcells_get l i x hx).2.1
      rw [add_off _ _ (by omega)] at this
      rw [← this]
      congr 1
      rcases Nat.eq_zero_or_pos i with rfl | hi
      · simp [Addr.add]
      · rw [add_off _ _ (by omega)]; simp
    · have := hc g rfl _ _ (dcells_get l i x hx).2.2
      rw [add_off _ _ (by omega)] at this
      rw [← this]
      congr 1
      rcases Nat.eq_zero_or_pos i with rfl | hi
      · simp [Addr.add]
      · rw [add_off _ _ (by omega)]; simp

/-- Where such a row lies: behind the base. -/
theorem own_base {w : World} {base : Nat} {A : Option Addr} {n c m : Nat} {xs : List Value} (h : w.ownsRow base 34 3 (.slice A n c) m xs) : ∀ ad, A = some ad → base ≤ ad.block :=
  fun ad e => (h.lt ad.block (by rw [e]; rfl)).1

theorem info_delta : (Tryz.prog.info? 34).map (fun i => (i.zero, i.size, i.bytes)) = some (some (.agg #[.slice none 0 0, .int .i64 0, .int .i64 0]), 3, 40) := by kernel_rfl

/-- A delta is put behind a row of deltas that the call owns. -/
theorem append_delta {w : World} {ops : Array Oper} {rest : List Oper} {o : Oper} {a : Act} {Q : Exit → Act → World → Prop} (hgd : o.guard = none) (s x : Operand)
    (ho : o.op = .call { callee := .builtin .append, args := #[s, x], argTypes := #[28, 28] })
    (base : Nat) (hbase : base ≤ w.heap.size) (v : Value) (ys : List (Int × Int)) (hs : a.eval s = v) (hown : w.ownsRow base 34 3 v ys.length (dcells ys))
    (g : Nat) (b : Int × Int) (hx : a.eval x = .slice (some ⟨g, 0, none⟩) 1 1) (hb : Blk w g 34 (dcell b).toArray) (hlen : ys.length + 1 ≤ 100000000)
    (h : ∀ v' w', w'.ownsRow base 34 3 v' (ys ++ [b]).length (dcells (ys ++ [b])) → w.grownBy w' v.ownBlock → (v'.ownBlock = v.ownBlock ∨ v'.ownBlock = some w.heap.size) → wpList Tryz.prog ops Q rest (a.put o.dst v') w') :
    wpList Tryz.prog ops Q (o :: rest) a w := by
  obtain ⟨ig, hig, hz0, hz1, hz2⟩ := info_parts info_delta
  refine wpList_append_own_at _ hgd s x 28 ho base 34 ig _ 3 40 Tryz.underlying28 hig hz0 hz1 hz2 rfl (by decide) v ys.length (dcells ys) hs hown ⟨g, 0, none⟩ 1 1 (dcell b) hx rfl ?_ ?_ (by simp only [maxLen]; omega) (by omega) hbase ?_
  · intro j u hu
    have := hb.cell j
    rw [show (⟨g, 0, none⟩ : Addr).add j = ⟨g, j, none⟩ by unfold Addr.add; split <;> simp_all]
    rw [this]
    simpa using hu
  · intro u hu
    unfold dcell at hu
    simp only [List.mem_cons, List.not_mem_nil, or_false] at hu
    rcases hu with rfl | rfl | rfl <;> rfl
  · intro v' w' hown' hg _ hat
    refine h v' w' ?_ hg hat
    rw [List.length_append, dcells_snoc]; exact hown'

end Go.Proofs.YtofhgaioidfdmaaGreat.Cat

set_option linter.unusedVariables false
namespace Go.Proofs.YtofhgaioidfdmaaGreat.Cat
open Go.RowKit Mem _root_.Go.Proofs.YtofhgaioidfdmaaGreat.Arena _root_.Go.Proofs.YtofhgaioidfdmaaGreat.Delta _root_.Go.Proofs.YtofhgaioidfdmaaGreat.Path
attribute [local go_sem ↓] Go.wp_at_zero Go.wp_at_succ

/-- The answer. -/
def chs (l : List Nd) (a : Int) : List (Int × Int) := if aend l a < 0 then [] else choices (nodeAt l a) (behind l a)
theorem chs_some {l : List Nd} {a m : Nat} (h : scan 1 (l.drop a) = some m) : chs l a = choices (nodeAt l a) (behind l a) := if_neg (by rw [aend_some h]; omega)
theorem own_kept {w w' : World} {base : Nat} {e : TypeId} {size : Nat} {v : Value} {n : Nat} {xs : List Value} (h : w.ownsRow base e size v n xs) (hb : Below w.heap.size w w') : w'.ownsRow base e size v n xs := by
  refine ⟨h.1, ?_⟩
  rcases h.2 with h2 | ⟨g, cap, cur, e1, h3, hg, r⟩
  · exact .inl h2
  · exact .inr ⟨g, cap, cur, e1, h3, (hb.block g (Array.getElem?_eq_some_iff.1 hg).1).trans hg, r⟩
theorem ofOp_len (x y : Nd) (op : Int) (l : List Int) : (ofOp x y op l).length ≤ l.length := by
  unfold ofOp
  rw [List.length_map]
  exact List.length_filter_le ..
theorem upto_succ (x y : Nd) (q : Nat) : upto x y (q + 1) = upto x y q ++ ofOp x y ((q : Int) + 1) (tries x) := rfl
theorem upto_len (x y : Nd) : ∀ q, (upto x y q).length ≤ q * 18
  | 0 => Nat.le_refl _
  | q + 1 => by
    rw [upto_succ, List.length_append]
    have := upto_len x y q
    have := ofOp_len x y ((q : Int) + 1) (tries x)
    have := (tries_up x).2.2
    omega
theorem ofOp_step {x y : Nd} {op n : Int} {Z : List Int} {j : Nat} (h : Z[j]? = some n) : ofOp x y op (Z.take (j + 1)) = ofOp x y op (Z.take j) ++ if cis x y op n then [(op, n)] else [] := by
  rw [take_snoc Z j n h]
  unfold ofOp
  rw [List.filter_append, List.map_append]
  by_cases c : cis x y op n = true
  · simp [c]
  · simp [c]
theorem ofOp_yes {x y : Nd} {op n : Int} {Z : List Int} {j : Nat} (h : Z[j]? = some n) (c : cis x y op n = true) : ofOp x y op (Z.take (j + 1)) = ofOp x y op (Z.take j) ++ [(op, n)] := by rw [ofOp_step h, if_pos c]
theorem ofOp_no {x y : Nd} {op n : Int} {Z : List Int} {j : Nat} (h : Z[j]? = some n) (c : cis x y op n = false) : ofOp x y op (Z.take (j + 1)) = ofOp x y op (Z.take j) := by rw [ofOp_step h, c]; simp
/-- What Choices comes to. -/
def ChEnds (l : List Nd) (a : Int) (w : World) (e : Ending) (w' : World) : Prop :=
  Below w.heap.size w w' ∧ ∃ A c, e = .returned (.slice A (chs l a).length c) ∧ (chs l a).length ≤ c ∧ (A = none → c = 0) ∧ DRow w' w'.heap.size A (chs l a)
/-- The like, and the row is newer than all that was there. -/
def ChEndsF (l : List Nd) (a : Int) (w : World) (e : Ending) (w' : World) : Prop :=
  Below w.heap.size w w' ∧ ∃ A c, e = .returned (.slice A (chs l a).length c) ∧ (chs l a).length ≤ c ∧ (A = none → c = 0) ∧ DRow w' w'.heap.size A (chs l a) ∧ ∀ ad, A = some ad → w.heap.size ≤ ad.block
theorem ChEndsF.end {l : List Nd} {a : Int} {w : World} {e : Ending} {w' : World} (h : ChEndsF l a w e w') : ChEnds l a w e w' := by
  obtain ⟨h1, A, c, h2, h3, h4, h5, -⟩ := h
  exact ⟨h1, A, c, h2, h3, h4, h5⟩

set_option maxRecDepth 100000 in
set_option maxHeartbeats 4000000 in
theorem ref_Choices_anyF (A : Option Addr) (c : Nat) (l : List Nd) (a : Int) (w : World) (hx : Nodes w w.heap.size A l) (hl : l.length ≤ 1000000) :
    Calls Tryz.prog 33 #[.slice A l.length c, .int .i64 a] w (ChEndsF l a w) := by
  have hE := ref_End_any A c l a w hx hl
  rcases aend_cases l a with he | ⟨k, m, rfl, hs, he, hm1, hm2⟩
  · have HR := Lib.hid (show chs l a = [] from if_pos (by rw [he]; decide))
    rw [he] at hE
    have HE := Lib.hid hE
    clear hx he hE
    go_enter Tryz.func33, Tryz.ntmps33
    go_wp2_with (go_at_call 62; refine HE.out.mono ?_; rintro e w1 ⟨rfl, hb1⟩)
    go_ret
    exact ⟨hb1, none, 0, by rw [HR.out]; rfl, by rw [HR.out]; exact Nat.le_refl _, fun _ => rfl, by rw [HR.out]; exact fun i b h => by simp at h, fun ad e => by cases e⟩
  · rw [he] at hE
    have HE := Lib.hid hE
    have h0 := nodeAt_some hs
    obtain ⟨ad, rfl, -, -⟩ := hx k _ h0
    have HX := Lib.hid (fun W (h : Below w.heap.size w W) => show W.cell? (ad.add (k * 2)) = some (.int .i64 (nodeAt l k).1) ∧ W.cell? ⟨(ad.add (k * 2)).block, (ad.add (k * 2)).off + 1, none⟩ = some (.int .i64 (nodeAt l k).2) from by
      obtain ⟨ad', e, -, k0, k1⟩ := (hx.below h) k _ h0
      cases e
      exact ⟨k0, k1⟩)
    have HIS := Lib.hid (fun (op n : Int) W (h : Below w.heap.size w W) => by
      have h1 := ref_Is_any (some ad) c l k op n W (hx.at h) hl
      rw [isv_some hs] at h1
      exact h1)
    have HC := Lib.hid (chs_some hs)
    have j0 : ¬ (k : Int) + (m : Int) < 0 := by omega
    have i1 : (k : Int) < (l.length : Int) := by omega
    have i2 : (0 : Int) ≤ (k : Int) := by omega
    clear hx hE he hs h0
    generalize nodeAt l k = x at *
    generalize behind l k = y at *
    obtain ⟨t, v⟩ := x
    simp only at HX
    have HTR := Lib.hid (fun W => ref_tries_any (t, v) W)
    simp only at HTR
    go_enter Tryz.func33, Tryz.ntmps33
    go_wp2_with (first
      | (go_at_call 62; refine HE.out.mono ?_; rintro e w1 ⟨rfl, hb1⟩; obtain ⟨g0, g1⟩ := HX.out _ hb1)
      | (go_at_call 64; refine (HTR.out _).mono ?_; rintro e w2 ⟨hb2, A2, c2, rfl, hA2, hR2⟩)
      | fail)
    have hB2 := hb1.trans (hb2.mono hb1.size)
    have HR2 := Lib.hid hR2
    have hZl := (tries_up (t, v)).2.2
    have HU := Lib.hid (upto_succ (t, v) y)
    have HUL := Lib.hid (upto_len (t, v) y)
    have HCH := Lib.hid (show choices (t, v) y = upto (t, v) y 7 by unfold choices; rfl)
    clear hR2
    generalize tries (t, v) = Z at *
    go_loopw [5, 7] (fun o p wr => ∃ q : Nat, q ≤ 7 ∧ p = .int .i64 ((q : Int) + 1) ∧ wr.ownsRow w2.heap.size 34 3 o (upto (t, v) y q).length (dcells (upto (t, v) y q)) ∧ Below w2.heap.size w2 wr) (fun _ p _ => (8 - intOf p).toNat)
    case atStart => exact ⟨0, by omega, rfl, World.ownsRow_nil _ _ _ _, Below.refl _ _⟩
    case round =>
      obtain ⟨q, hq, rfl, hO, hB⟩ := hrel
      by_cases hlt : q < 7
      · have i3 : (q : Int) + 1 ≤ 7 := by omega
        obtain ⟨u1, hu1⟩ : ∃ u1, u1 = wr := ⟨_, rfl⟩
        subst hu1
        have HO := Lib.hid hO
        have HB := Lib.hid hB
        clear hO hB
        go_wp2_with fail
        go_loopw [5, 8] (fun o i wr2 => ∃ j : Nat, j ≤ Z.length ∧ i = .int .i64 j ∧ wr2.ownsRow w2.heap.size 34 3 o (upto (t, v) y q ++ ofOp (t, v) y ((q : Int) + 1) (Z.take j)).length (dcells (upto (t, v) y q ++ ofOp (t, v) y ((q : Int) + 1) (Z.take j))) ∧ Below w2.heap.size w2 wr2) (fun _ i _ => Z.length - (intOf i).toNat)
        case atStart => exact ⟨0, by omega, rfl, by rw [List.take_zero, show ofOp (t, v) y ((q : Int) + 1) [] = [] from rfl, List.append_nil]; exact HO.out, HB.out⟩
        case round =>
          obtain ⟨j, hj, rfl, hO, hB⟩ := hrel
          by_cases hlt2 : j < Z.length
          · have i4 : (j : Int) < (Z.length : Int) := by omega
            have i5 : (0 : Int) ≤ (j : Int) := by omega
            obtain ⟨n, hn⟩ : ∃ n, Z[j]? = some n := ⟨_, List.getElem?_eq_getElem hlt2⟩
            obtain ⟨ad2, rfl, -, -⟩ := HR2.out j n hn
            have G0 := Lib.hid (fun W (h : Below w2.heap.size w2 W) => show W.cell? (ad2.add j) = some (.int .i64 n) from by
              obtain ⟨ad', e, -, h3⟩ := (IRow.at HR2.out h) j n hn
              cases e
              exact h3)
            have HI := Lib.hid (HIS.out ((q : Int) + 1) n _ (hB2.trans (hB.mono hB2.size)))
            have hll : (upto (t, v) y q ++ ofOp (t, v) y ((q : Int) + 1) (Z.take j)).length + 1 ≤ 100000000 := by
              rw [List.length_append]
              have := HUL.out q
              have := ofOp_len (t, v) y ((q : Int) + 1) (Z.take j)
              rw [List.length_take] at this
              omega
            have HLL := Lib.hid hll
            have g0 := G0.out _ hB
            clear hll
            cases hc : cis (t, v) y ((q : Int) + 1) n
            · have HN := Lib.hid (ofOp_no hn hc)
              rw [hc] at HI
              clear hn hc
              go_wp2_with (first
                | (go_at_call 65; refine HI.out.mono ?_; rintro e w3 ⟨rfl, hb3⟩; have hB3 := hB.trans (hb3.mono hB.size); have hO3 := own_kept hO hb3)
                | fail)
              go_roundw
              case rel => exact ⟨j + 1, by omega, by go_num, by rw [HN.out]; exact hO3, hB3⟩
              case measure => simp [intOf]; omega
            · have HN := Lib.hid (ofOp_yes hn hc)
              rw [hc] at HI
              clear hn hc
              go_wp2_with (first
                | (go_at_call 65; refine HI.out.mono ?_; rintro e w3 ⟨rfl, hb3⟩; have hB3 := hB.trans (hb3.mono hB.size); have hO3 := own_kept hO hb3; have g3 := G0.out _ hB3)
                | (at_builtin; refine append_delta rfl _ _ rfl w2.heap.size (hB3.alloc hB3.size _).size _ _ rfl (hO3.alloc _) w3.heap.size ((q : Int) + 1, n) rfl (Blk.new w3 34 _) HLL.out ?_; intro v5 w5 hown5 hgr5 _; have hB5 := (hB3.alloc hB3.size _).grown hgr5 (hB3.alloc hB3.size _).size (fun i e => (hO3.lt i e).1))
                | fail)
              go_roundw
              case rel => exact ⟨j + 1, by omega, by go_num, by rw [HN.out, ← List.append_assoc]; exact hown5, hB5⟩
              case measure => simp [intOf]; omega
          · obtain rfl : j = Z.length := by omega
            have i4 : ¬ (Z.length : Int) < (Z.length : Int) := by omega
            rw [List.take_length, ← HU.out] at hO
            go_wp2_with fail
            go_roundw
            case rel => exact ⟨q + 1, by omega, by go_num, hO, hB⟩
            case measure => simp [intOf]; omega
      · obtain rfl : q = 7 := by omega
        have i3 : ¬ ((7 : Nat) : Int) + 1 ≤ 7 := by omega
        rw [← HCH.out] at hO
        obtain ⟨A3, c3, rfl, hc3, hA3, hR3⟩ := own_drow hO
        have HF3 := Lib.hid (own_base hO)
        have HR3 := Lib.hid hR3
        clear hO hR3
        go_wp2_with fail
        go_ret
        exact ⟨hB2.trans (hB.mono hB2.size), A3, c3, by rw [HC.out]; rfl, by rw [HC.out]; exact hc3, hA3, by rw [HC.out]; exact HR3.out, fun ad e => Nat.le_trans hB2.size (HF3.out ad e)⟩
end Go.Proofs.YtofhgaioidfdmaaGreat.Cat

set_option linter.unusedVariables false
namespace Go.Proofs.YtofhgaioidfdmaaGreat.Cat
open Go.RowKit Mem _root_.Go.Proofs.YtofhgaioidfdmaaGreat.Arena _root_.Go.Proofs.YtofhgaioidfdmaaGreat.Delta _root_.Go.Proofs.YtofhgaioidfdmaaGreat.Path
attribute [local go_sem ↓] Go.wp_at_zero Go.wp_at_succ

end Go.Proofs.YtofhgaioidfdmaaGreat.Cat
