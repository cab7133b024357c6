/-
  Plain facts on the catalogue: which choices there are at a node, in their order. No program is met here.
  Plain facts on the catalogue: how many choices there are; each can be applied, and makes another program; the way back. No program is met here.
  Plain facts on the catalogue: which operators are offered at a node, each with its numbers; together they are the choices. No program is met here.
  The reference of the catalogue, walked: is there such a choice?
  The reference of the catalogue, walked: is there such a choice? At any node and any number.
  The reference of the catalogue, walked: numbers that may be a choice's.
  A row of deltas whose paths are empty: in memory, and as a row that a call owns.
  The reference of the catalogue, walked: all choices at a node, in order.
  What the functions of the catalogue come to; and the document's examples.
-/
import Derived.Test.YtodejloonfkkmaaGreatDeltaG
import Derived.Lib.SlicesCompact
import Derived.Test.YtodejloonfkkmaaGreatArenaH
import Derived.Deep.QuietTactic
import Derived.Deep.CutBlock
import Derived.Deep.CutRange
import Derived.Maps.OwnIn
import Derived.BigQuiet
import Derived.Deep.RegionHeld3
import Derived.Deep.DrawnRows
set_option linter.unusedVariables false
namespace Go.Proofs.YtodejloonfkkmaaGreat.Cat
open _root_.Go.Proofs.YtodejloonfkkmaaGreat.Arena _root_.Go.Proofs.YtodejloonfkkmaaGreat.Delta _root_.Go.Proofs.YtodejloonfkkmaaGreat.Path

/-- Numbers go round. -/
def rnd (n : Int) : Int := IntKind.i64.wrap n
/-- Is it a choice? x: the node, y: the one behind it. -/
def cis (x y : Nd) (op n : Int) : Bool :=
  if op = 1 then decide (7 ≤ x.1 ∧ x.1 ≤ 11) && (decide (7 ≤ n ∧ n ≤ 11) && decide (n ≠ x.1))
  else if op = 2 then decide (12 ≤ x.1 ∧ x.1 ≤ 17) && (decide (12 ≤ n ∧ n ≤ 17) && decide (n ≠ x.1))
  else if op = 3 then decide (18 ≤ x.1 ∧ x.1 ≤ 19) && (decide (18 ≤ n ∧ n ≤ 19) && decide (n ≠ x.1))
  else if op = 4 then (decide (x.1 = 1) && (decide (n = 0 ∨ n = 1 ∨ n = -1 ∨ n = rnd (x.2 + 1) ∨ n = rnd (x.2 - 1)) && decide (n ≠ x.2))) || (decide (x.1 = 2) && decide (n = rnd (1 - x.2)))
  else if op = 5 then decide (x.1 = 21 ∨ x.1 = 22 ∨ x.1 = 23 ∨ x.1 = 24 ∨ x.1 = 25) && decide (n = 0)
  else if op = 6 then decide (x.1 = 23 ∨ x.1 = 24) && decide (n = 0)
  else if op = 7 then decide (x.1 = 25) && (decide (n = 0 ∨ n = 1) && decide (y ≠ (1, n)))
  else false

/-- Rising, each once. -/
def Up : List Int → Prop
  | [] => True
  | [_] => True
  | a :: b :: l => a < b ∧ Up (b :: l)
theorem Up.tail {a : Int} {l : List Int} (h : Up (a :: l)) : Up l := by
  cases l with
  | nil => trivial
  | cons b l => exact h.2
theorem Up.lt {a : Int} : ∀ {l : List Int}, Up (a :: l) → ∀ b ∈ l, a < b
  | [], _, _, hb => by simp at hb
  | c :: l, h, b, hb => by
    rcases List.mem_cons.1 hb with rfl | hb
    · exact h.1
    · exact Int.lt_trans h.1 (Up.lt h.2 b hb)
theorem Up.cons {a : Int} {l : List Int} (h : Up l) (k : ∀ b ∈ l, a < b) : Up (a :: l) := by
  cases l with
  | nil => trivial
  | cons b l => exact ⟨k b (List.mem_cons_self ..), h⟩
/-- How many stand ahead of one: the place behind the last one that is less. -/
def lastLt (v : Int) : List Int → Nat → Nat → Nat
  | [], _, k => k
  | x :: l, j, k => lastLt v l (j + 1) (if x < v then j + 1 else k)
theorem lastLt_ge (v : Int) : ∀ (l : List Int) (j k : Nat), (∀ b ∈ l, ¬ b < v) → lastLt v l j k = k
  | [], _, _, _ => rfl
  | x :: l, j, k, h => by rw [lastLt, if_neg (h x (List.mem_cons_self ..)), lastLt_ge v l _ _ (fun b hb => h b (List.mem_cons_of_mem _ hb))]
theorem lastLt_up (v : Int) : ∀ (l : List Int) (j k : Nat), Up l → ∃ t, t ≤ l.length ∧ (∀ b ∈ l.take t, b < v) ∧ (∀ b ∈ l.drop t, ¬ b < v) ∧ lastLt v l j k = if t = 0 then k else j + t
  | [], _, _, _ => ⟨0, by simp, by simp, by simp, rfl⟩
  | x :: l, j, k, h => by
    by_cases hx : x < v
    · obtain ⟨t, t1, t2, t3, t4⟩ := lastLt_up v l (j + 1) (j + 1) h.tail
      refine ⟨t + 1, by simp; omega, ?_, by rw [List.drop_succ_cons]; exact t3, ?_⟩
      · intro b hb
        rw [List.take_succ_cons] at hb
        rcases List.mem_cons.1 hb with rfl | hb
        · exact hx
        · exact t2 b hb
      · rw [lastLt, if_pos hx, t4]
        by_cases q : t = 0
        · rw [if_pos q, if_neg (by omega)]; omega
        · rw [if_neg q, if_neg (by omega)]; omega
    · refine ⟨0, by simp, by simp, ?_, ?_⟩
      · intro b hb
        rw [List.drop_zero] at hb
        rcases List.mem_cons.1 hb with rfl | hb
        · exact hx
        · have := h.lt b hb; omega
      · rw [lastLt, if_neg hx, lastLt_ge v l _ _ (fun b hb => by have := h.lt b hb; omega)]
        rfl
/-- One more. -/
def ins (out : List Int) (v : Int) : List Int := if v ∈ out then out else out.take (lastLt v out 0 0) ++ (v :: out.drop (lastLt v out 0 0))
theorem up_join {v : Int} : ∀ {l m : List Int}, Up l → Up m → (∀ b ∈ l, b < v) → (∀ b ∈ m, v < b) → Up (l ++ (v :: m))
  | [], _, _, hm, _, h2 => Up.cons hm h2
  | [a], m, _, hm, h1, h2 => ⟨h1 a (List.mem_cons_self ..), Up.cons hm h2⟩
  | a :: b :: l, m, hl, hm, h1, h2 => ⟨hl.1, up_join (l := b :: l) hl.2 hm (fun c hc => h1 c (List.mem_cons_of_mem _ hc)) h2⟩
theorem Up.take {l : List Int} (h : Up l) : ∀ k, Up (l.take k) := by
  intro k
  induction l generalizing k with
  | nil => simp [Up]
  | cons a l ih =>
    cases k with
    | zero => trivial
    | succ k => rw [List.take_succ_cons]; exact Up.cons (ih h.tail k) (fun b hb => h.lt b (List.mem_of_mem_take hb))
theorem Up.drop {l : List Int} (h : Up l) : ∀ k, Up (l.drop k) := by
  intro k
  induction l generalizing k with
  | nil => simp [Up]
  | cons a l ih =>
    cases k with
    | zero => exact h
    | succ k => rw [List.drop_succ_cons]; exact ih h.tail k
theorem ins_up {out : List Int} (h : Up out) (v : Int) : Up (ins out v) ∧ ∀ b, b ∈ ins out v ↔ b = v ∨ b ∈ out := by
  unfold ins
  by_cases hv : v ∈ out
  · rw [if_pos hv]
    exact ⟨h, fun b => ⟨fun q => .inr q, fun q => by rcases q with rfl | q; exact hv; exact q⟩⟩
  · rw [if_neg hv]
    obtain ⟨t, t1, t2, t3, t4⟩ := lastLt_up v out 0 0 h
    have e : lastLt v out 0 0 = t := by rw [t4]; split <;> omega
    rw [e]
    refine ⟨up_join (h.take t) (h.drop t) t2 (fun b hb => ?_), fun b => ?_⟩
    · have h1 := t3 b hb
      have h2 : b ≠ v := fun q => hv (q ▸ List.mem_of_mem_drop hb)
      omega
    · constructor
      · intro hb
        rcases List.mem_append.1 hb with hb | hb
        · exact .inr (List.mem_of_mem_take hb)
        · rcases List.mem_cons.1 hb with rfl | hb
          · exact .inl rfl
          · exact .inr (List.mem_of_mem_drop hb)
      · rintro (rfl | hb)
        · exact List.mem_append_right _ (List.mem_cons_self ..)
        · rw [← List.take_append_drop t out] at hb
          rcases List.mem_append.1 hb with hb | hb
          · exact List.mem_append_left _ hb
          · exact List.mem_append_right _ (List.mem_cons_of_mem _ hb)
theorem ins_len {out : List Int} (v : Int) : (ins out v).length ≤ out.length + 1 := by
  unfold ins
  split
  · omega
  · simp only [List.length_append, List.length_cons, List.length_take, List.length_drop]; omega
/-- Numbers that may be a choice's, as they are put in; rising, each once. -/
def adds (x : Nd) : List Int := [-1, 0, 1, rnd (x.2 - 1), rnd (x.2 + 1), 7, 8, 9, 10, 11, 12, 13, 14, 15, 16, 17, 18, 19]
@[irreducible] def tries (x : Nd) : List Int := (adds x).foldl ins []
theorem fold_up : ∀ (l out : List Int), Up out → Up (l.foldl ins out) ∧ (∀ b, b ∈ l.foldl ins out ↔ b ∈ l ∨ b ∈ out) ∧ (l.foldl ins out).length ≤ out.length + l.length
  | [], out, h => ⟨h, fun b => by simp, by simp⟩
  | v :: l, out, h => by
    obtain ⟨h1, h2⟩ := ins_up h v
    obtain ⟨k1, k2, k3⟩ := fold_up l (ins out v) h1
    refine ⟨k1, fun b => ?_, ?_⟩
    · rw [List.foldl_cons, k2, h2, List.mem_cons]
      constructor
      · rintro (q | q | q)
        · exact .inl (.inr q)
        · exact .inl (.inl q)
        · exact .inr q
      · rintro ((q | q) | q)
        · exact .inr (.inl q)
        · exact .inl q
        · exact .inr (.inr q)
    · have := ins_len (out := out) v
      rw [List.foldl_cons, List.length_cons]
      omega
/-- Two choices, one ahead of the other. -/
def Lt (a b : Int × Int) : Prop := a.1 < b.1 ∨ (a.1 = b.1 ∧ a.2 < b.2)
/-- In order, each once. -/
def Row : List (Int × Int) → Prop
  | [] => True
  | a :: l => (∀ b ∈ l, Lt a b) ∧ Row l
theorem Lt.irr {a : Int × Int} (h : Lt a a) : False := by unfold Lt at h; omega
theorem Lt.asymm {a b : Int × Int} (h : Lt a b) (k : Lt b a) : False := by unfold Lt at *; omega
theorem Lt.trans {a b c : Int × Int} (h : Lt a b) (k : Lt b c) : Lt a c := by unfold Lt at *; omega
/-- THERE IS ONE ROW OF THE SAME CHOICES. -/
theorem Row.one : ∀ {l m : List (Int × Int)}, Row l → Row m → (∀ b, b ∈ l ↔ b ∈ m) → l = m
  | [], [], _, _, _ => rfl
  | [], b :: m, _, _, h => by have := (h b).2 (List.mem_cons_self ..); simp at this
  | a :: l, [], _, _, h => by have := (h a).1 (List.mem_cons_self ..); simp at this
  | a :: l, b :: m, hl, hm, h => by
    have hab : a = b := by
      rcases List.mem_cons.1 ((h a).1 (List.mem_cons_self ..)) with q | q
      · exact q
      · rcases List.mem_cons.1 ((h b).2 (List.mem_cons_self ..)) with k | k
        · exact k.symm
        · exact (Lt.asymm (hm.1 a q) (hl.1 b k)).elim
    subst hab
    rw [Row.one hl.2 hm.2 (fun c => ?_)]
    constructor
    · intro hc
      rcases List.mem_cons.1 ((h c).1 (List.mem_cons_of_mem _ hc)) with q | q
      · subst q; exact (Lt.irr (hl.1 c hc)).elim
      · exact q
    · intro hc
      rcases List.mem_cons.1 ((h c).2 (List.mem_cons_of_mem _ hc)) with q | q
      · subst q; exact (Lt.irr (hm.1 c hc)).elim
      · exact q
/-- Choices of one operator. -/
def ofOp (x y : Nd) (op : Int) (l : List Int) : List (Int × Int) := (l.filter fun n => cis x y op n).map fun n => (op, n)
/-- Operators from one on. -/
def upto (x y : Nd) : Nat → List (Int × Int)
  | 0 => []
  | k + 1 => upto x y k ++ ofOp x y (k + 1 : Nat) (tries x)
/-- All choices, in order. -/
@[irreducible] def choices (x y : Nd) : List (Int × Int) := upto x y 7
theorem cis_rng {x y : Nd} {op n : Int} (hb : x.1 = 2 → 0 ≤ x.2 ∧ x.2 ≤ 1) (h : cis x y op n = true) : (1 ≤ op ∧ op ≤ 7) ∧ n ∈ adds x := by
  have hr : ∀ k : Int, 0 ≤ k → k ≤ 1 → rnd (1 - k) = 1 - k := fun k h0 h1 => by unfold rnd; rw [IntKind.wrap_i64]; omega
  unfold cis at h
  unfold adds
  by_cases o1 : op = 1
  · rw [if_pos o1] at h
    simp at h ⊢
    omega
  rw [if_neg o1] at h
  by_cases o2 : op = 2
  · rw [if_pos o2] at h
    simp at h ⊢
    omega
  rw [if_neg o2] at h
  by_cases o3 : op = 3
  · rw [if_pos o3] at h
    simp at h ⊢
    omega
  rw [if_neg o3] at h
  by_cases o4 : op = 4
  · rw [if_pos o4] at h
    simp at h ⊢
    rcases h with ⟨-, h, -⟩ | ⟨h1, h2⟩
    · omega
    · obtain ⟨b0, b1⟩ := hb h1
      rw [hr _ b0 b1] at h2
      omega
  rw [if_neg o4] at h
  by_cases o5 : op = 5
  · rw [if_pos o5] at h
    simp at h ⊢
    omega
  rw [if_neg o5] at h
  by_cases o6 : op = 6
  · rw [if_pos o6] at h
    simp at h ⊢
    omega
  rw [if_neg o6] at h
  by_cases o7 : op = 7
  · rw [if_pos o7] at h
    simp at h ⊢
    omega
  · rw [if_neg o7] at h
    cases h
end Go.Proofs.YtodejloonfkkmaaGreat.Cat

set_option linter.unusedVariables false
namespace Go.Proofs.YtodejloonfkkmaaGreat.Cat
open _root_.Go.Proofs.YtodejloonfkkmaaGreat.Arena _root_.Go.Proofs.YtodejloonfkkmaaGreat.Delta _root_.Go.Proofs.YtodejloonfkkmaaGreat.Path

end Go.Proofs.YtodejloonfkkmaaGreat.Cat

set_option linter.unusedVariables false
namespace Go.Proofs.YtodejloonfkkmaaGreat.Cat
open _root_.Go.Proofs.YtodejloonfkkmaaGreat.Arena _root_.Go.Proofs.YtodejloonfkkmaaGreat.Delta _root_.Go.Proofs.YtodejloonfkkmaaGreat.Path

/-- What is in order, each once. -/
theorem compact_upto (d : Array Int) (h : ∀ i j, i ≤ j → j < d.size → d[i]! ≤ d[j]!) : ∀ m, m ≤ d.size → (Lib.compactUpTo d m).Pairwise (· < ·) ∧ (∀ b ∈ Lib.compactUpTo d m, ∃ j, j < m ∧ b = d[j]!) ∧ (∀ j, j < m → d[j]! ∈ Lib.compactUpTo d m)
  | 0, _ => by
    have e : Lib.compactUpTo d 0 = [] := rfl
    rw [e]
    exact ⟨List.Pairwise.nil, by simp, by omega⟩
  | m + 1, hm => by
    obtain ⟨h1, h2, h3⟩ := compact_upto d h m (by omega)
    rw [Lib.compactUpTo_succ]
    by_cases hk : Lib.keeps d m = true
    · rw [if_pos hk]
      refine ⟨?_, ?_, ?_⟩
      · rw [List.pairwise_append]
        refine ⟨h1, List.pairwise_singleton _ _, fun a ha b hb => ?_⟩
        rw [List.mem_singleton] at hb
        subst hb
        obtain ⟨j, hj, rfl⟩ := h2 a ha
        rcases Nat.eq_zero_or_pos m with q | q
        · omega
        · have hne : d[m]! ≠ d[m - 1]! := by
            unfold Lib.keeps at hk
            rcases of_decide_eq_true hk with k | k
            · omega
            · exact k
          have a1 := h j (m - 1) (by omega) (by omega)
          have a2 := h (m - 1) m (by omega) (by omega)
          omega
      · intro b hb
        rcases List.mem_append.1 hb with hb | hb
        · obtain ⟨j, hj, e⟩ := h2 b hb
          exact ⟨j, by omega, e⟩
        · rw [List.mem_singleton] at hb
          exact ⟨m, by omega, hb⟩
      · intro j hj
        by_cases q : j = m
        · subst q; exact List.mem_append_right _ (List.mem_singleton.2 rfl)
        · exact List.mem_append_left _ (h3 j (by omega))
    · rw [if_neg hk, List.append_nil]
      refine ⟨h1, fun b hb => ?_, fun j hj => ?_⟩
      · obtain ⟨j, hj, e⟩ := h2 b hb
        exact ⟨j, by omega, e⟩
      · by_cases q : j = m
        · have hk' : ¬ (m = 0 ∨ d[m]! ≠ d[m - 1]!) := fun z => hk (by unfold Lib.keeps; exact decide_eq_true z)
          have e : d[m]! = d[m - 1]! := by
            by_cases z : d[m]! = d[m - 1]!
            · exact z
            · exact (hk' (.inr z)).elim
          rw [q, e]
          exact h3 _ (by omega)
        · exact h3 j (by omega)
theorem compact_up {zs : List Int} (h : zs.Pairwise (· ≤ ·)) : (Lib.compact zs).Pairwise (· < ·) ∧ ∀ b, b ∈ Lib.compact zs ↔ b ∈ zs := by
  have hs : ∀ i j, i ≤ j → j < zs.toArray.size → zs.toArray[i]! ≤ zs.toArray[j]! := by
    intro i j hij hj
    have hj' : j < zs.length := by simpa using hj
    rw [getElem!_pos zs.toArray i (by simp; omega), getElem!_pos zs.toArray j hj]
    simp only [List.getElem_toArray]
    rcases Nat.lt_or_ge i j with q | q
    · exact List.pairwise_iff_getElem.1 h i j (by omega) hj' q
    · have e : i = j := by omega
      subst e
      exact Int.le_refl _
  obtain ⟨h1, h2, h3⟩ := compact_upto zs.toArray hs zs.length (by simp)
  refine ⟨h1, fun b => ⟨fun hb => ?_, fun hb => ?_⟩⟩
  · obtain ⟨j, hj, rfl⟩ := h2 b hb
    rw [getElem!_pos zs.toArray j (by simpa using hj)]
    simp only [List.getElem_toArray]
    exact List.getElem_mem _
  · obtain ⟨j, hj, rfl⟩ := List.mem_iff_getElem.1 hb
    have := h3 j hj
    rw [getElem!_pos zs.toArray j (by simpa using hj)] at this
    simp only [List.getElem_toArray] at this
    exact this

/-- Things in order, each once, but for some. -/
@[irreducible] def oth (zs ys : List Int) : List Int := (Lib.compact (zs.mergeSort fun x y => decide (x ≤ y))).filter fun x => !(ys.contains x)
theorem oth_up (zs ys : List Int) : (oth zs ys).Pairwise (· < ·) ∧ ∀ b, b ∈ oth zs ys ↔ b ∈ zs ∧ b ∉ ys := by
  have hs : (zs.mergeSort fun x y => decide (x ≤ y)).Pairwise (· ≤ ·) := by
    have := List.pairwise_mergeSort (le := fun x y : Int => decide (x ≤ y)) (by intro a b c; simp; omega) (by intro a b; simp; omega) zs
    exact this.imp (fun h => by simpa using h)
  obtain ⟨h1, h2⟩ := compact_up hs
  unfold oth
  refine ⟨h1.filter _, fun b => ?_⟩
  rw [List.mem_filter, h2, List.mem_mergeSort]
  simp

end Go.Proofs.YtodejloonfkkmaaGreat.Cat

set_option linter.unusedVariables false
namespace Go.Proofs.YtodejloonfkkmaaGreat.Cat
open Go.RowKit Mem _root_.Go.Proofs.YtodejloonfkkmaaGreat.Arena _root_.Go.Proofs.YtodejloonfkkmaaGreat.Delta _root_.Go.Proofs.YtodejloonfkkmaaGreat.Path
attribute [local go_sem ↓] Go.wp_at_zero Go.wp_at_succ

end Go.Proofs.YtodejloonfkkmaaGreat.Cat

set_option linter.unusedVariables false
namespace Go.Proofs.YtodejloonfkkmaaGreat.Cat
open Go.RowKit Mem _root_.Go.Proofs.YtodejloonfkkmaaGreat.Arena _root_.Go.Proofs.YtodejloonfkkmaaGreat.Delta _root_.Go.Proofs.YtodejloonfkkmaaGreat.Path
attribute [local go_sem ↓] Go.wp_at_zero Go.wp_at_succ

/-- The node at a place, and the one behind it. -/
def nodeAt (l : List Nd) (a : Int) : Nd := l.getD a.toNat (0, 0)
def behind (l : List Nd) (a : Int) : Nd := l.getD (a.toNat + 1) (0, 0)
end Go.Proofs.YtodejloonfkkmaaGreat.Cat

set_option linter.unusedVariables false
namespace Go.Proofs.YtodejloonfkkmaaGreat.Cat
open Go.RowKit Mem _root_.Go.Proofs.YtodejloonfkkmaaGreat.Arena _root_.Go.Proofs.YtodejloonfkkmaaGreat.Delta _root_.Go.Proofs.YtodejloonfkkmaaGreat.Path
attribute [local go_sem ↓] Go.wp_at_zero Go.wp_at_succ

end Go.Proofs.YtodejloonfkkmaaGreat.Cat

set_option linter.unusedVariables false
namespace Go.Proofs.YtodejloonfkkmaaGreat.Cat
open Go.RowKit Mem _root_.Go.Proofs.YtodejloonfkkmaaGreat.Arena _root_.Go.Proofs.YtodejloonfkkmaaGreat.Delta _root_.Go.Proofs.YtodejloonfkkmaaGreat.Path

/-- Deltas with empty paths, somewhere in memory. -/
def DRow (w : World) (B : Nat) (A : Option Addr) (l : List (Int × Int)) : Prop :=
  ∀ (i : Nat) (b : Int × Int), l[i]? = some b → ∃ ad P c, A = some ad ∧ ad.block < B ∧ (P = none → c = 0) ∧ w.cell? (ad.add (i * 3)) = some (.slice P 0 c) ∧
    w.cell? ⟨(ad.add (i * 3)).block, (ad.add (i * 3)).off + 1, none⟩ = some (.int .i64 b.1) ∧ w.cell? ⟨(ad.add (i * 3)).block, (ad.add (i * 3)).off + 2, none⟩ = some (.int .i64 b.2)
theorem DRow.below {w w' : World} {B : Nat} {A : Option Addr} {l : List (Int × Int)} (h : DRow w B A l) (hb : Below B w w') : DRow w' B A l := by
  intro i b hi
  obtain ⟨ad, P, c, e, h1, h2, h3, h4, h5⟩ := h i b hi
  have hk := hb.block (ad.add (i * 3)).block (by rw [add_blockN]; exact h1)
  refine ⟨ad, P, c, e, h1, h2, ?_, ?_, ?_⟩
  · rw [← h3]; unfold World.cell?; rw [hk]
  · rw [← h4]; unfold World.cell?; rw [hk]
  · rw [← h5]; unfold World.cell?; rw [hk]
theorem DRow.at {w w' : World} {A : Option Addr} {l : List (Int × Int)} (h : DRow w w.heap.size A l) (hb : Below w.heap.size w w') : DRow w' w'.heap.size A l := by
  intro i b hi
  obtain ⟨ad, P, c, e, h1, r⟩ := (DRow.below h hb) i b hi
  exact ⟨ad, P, c, e, Nat.lt_of_lt_of_le h1 hb.size, r⟩

def dcell (b : Int × Int) : List Value := [.slice none 0 0, .int .i64 b.1, .int .i64 b.2]
def dcells (l : List (Int × Int)) : List Value := l.flatMap dcell
theorem dcells_len (l : List (Int × Int)) : (dcells l).length = l.length * 3 := by
  induction l with
  | nil => rfl
  | cons b l ih => rw [show dcells (b :: l) = dcell b ++ dcells l from rfl, List.length_append, ih, List.length_cons]; show 3 + _ = _; omega
theorem dcells_get : ∀ (l : List (Int × Int)) (i : Nat) (b : Int × Int), l[i]? = some b → (dcells l)[i * 3]? = some (.slice none 0 0) ∧ (dcells l)[i * 3 + 1]? = some (.int .i64 b.1) ∧ (dcells l)[i * 3 + 2]? = some (.int .i64 b.2)
  | [], i, b, h => by simp at h
  | x :: l, 0, b, h => by
    obtain rfl : x = b := by simpa using h
    exact ⟨rfl, rfl, rfl⟩
  | x :: l, i + 1, b, h => by
    obtain ⟨h1, h2, h3⟩ := dcells_get l i b (by simpa using h)
    have e : dcells (x :: l) = dcell x ++ dcells l := rfl
    have e3 : (dcell x).length = 3 := rfl
    rw [e]
    refine ⟨?_, ?_, ?_⟩
    · rw [List.getElem?_append_right (by rw [e3]; omega), e3, ← h1]; congr 1; omega
    · rw [List.getElem?_append_right (by rw [e3]; omega), e3, ← h2]; congr 1; omega
    · rw [List.getElem?_append_right (by rw [e3]; omega), e3, ← h3]; congr 1; omega
end Go.Proofs.YtodejloonfkkmaaGreat.Cat

set_option linter.unusedVariables false
namespace Go.Proofs.YtodejloonfkkmaaGreat.Cat
open Go.RowKit Mem _root_.Go.Proofs.YtodejloonfkkmaaGreat.Arena _root_.Go.Proofs.YtodejloonfkkmaaGreat.Delta _root_.Go.Proofs.YtodejloonfkkmaaGreat.Path
attribute [local go_sem ↓] Go.wp_at_zero Go.wp_at_succ

/-- The answer. -/
def chs (l : List Nd) (a : Int) : List (Int × Int) := if aend l a < 0 then [] else choices (nodeAt l a) (behind l a)
theorem own_kept {w w' : World} {base : Nat} {e : TypeId} {size : Nat} {v : Value} {n : Nat} {xs : List Value} (h : w.ownsRow base e size v n xs) (hb : Below w.heap.size w w') : w'.ownsRow base e size v n xs := by
  refine ⟨h.1, ?_⟩
  rcases h.2 with h2 | ⟨g, cap, cur, e1, h3, hg, r⟩
  · exact .inl h2
  · exact .inr ⟨g, cap, cur, e1, h3, (hb.block g (Array.getElem?_eq_some_iff.1 hg).1).trans hg, r⟩
/-- What Choices comes to. -/
def ChEnds (l : List Nd) (a : Int) (w : World) (e : Ending) (w' : World) : Prop :=
  Below w.heap.size w w' ∧ ∃ A c, e = .returned (.slice A (chs l a).length c) ∧ (chs l a).length ≤ c ∧ (A = none → c = 0) ∧ DRow w' w'.heap.size A (chs l a)
/-- The like, and the row is newer than all that was there. -/
def ChEndsF (l : List Nd) (a : Int) (w : World) (e : Ending) (w' : World) : Prop :=
  Below w.heap.size w w' ∧ ∃ A c, e = .returned (.slice A (chs l a).length c) ∧ (chs l a).length ≤ c ∧ (A = none → c = 0) ∧ DRow w' w'.heap.size A (chs l a) ∧ ∀ ad, A = some ad → w.heap.size ≤ ad.block
theorem ChEndsF.end {l : List Nd} {a : Int} {w : World} {e : Ending} {w' : World} (h : ChEndsF l a w e w') : ChEnds l a w e w' := by
  obtain ⟨h1, A, c, h2, h3, h4, h5, -⟩ := h
  exact ⟨h1, A, c, h2, h3, h4, h5⟩

end Go.Proofs.YtodejloonfkkmaaGreat.Cat

set_option linter.unusedVariables false
namespace Go.Proofs.YtodejloonfkkmaaGreat.Cat
open Go.RowKit Mem _root_.Go.Proofs.YtodejloonfkkmaaGreat.Arena _root_.Go.Proofs.YtodejloonfkkmaaGreat.Delta _root_.Go.Proofs.YtodejloonfkkmaaGreat.Path
attribute [local go_sem ↓] Go.wp_at_zero Go.wp_at_succ

end Go.Proofs.YtodejloonfkkmaaGreat.Cat
