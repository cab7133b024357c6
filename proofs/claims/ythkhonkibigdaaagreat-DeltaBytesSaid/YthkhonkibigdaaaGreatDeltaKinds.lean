/-
  Plain facts on programs that are changed in one place: what is told by kinds, and by whether a node is a block, stays. No program is met here.
-/
import Derived.Test.YthkhonkibigdaaaGreatKindsG
namespace Go.Proofs.YthkhonkibigdaaaGreat.Delta
open _root_.Go.Proofs.YthkhonkibigdaaaGreat.Arena _root_.Go.Proofs.YthkhonkibigdaaaGreat.Kinds

/-- A kind, and whether it is a block. -/
def kblk (y : Int × Int) : Int × Bool := (y.1, decide (y.2 = 20))
def blksB (ks : List (Int × Bool)) : Bool := (ks.drop 1).all Prod.snd
/-- As rule is, by blocks alone. -/
def ruleB (vs : List Int) (x : Nd) (ks : List (Int × Bool)) : Int :=
  if x.1 = 1 then 0 else if x.1 = 2 then 1
  else if x.1 = 3 then ifso (vtyp vs x.2 = 0 ∨ vtyp vs x.2 = 1) (vtyp vs x.2)
  else if x.1 = 4 then ifso (0 < asz (vtyp vs x.2) ∧ ks.map Prod.fst = [0]) 0
  else if x.1 = 5 then ifso (ks.map Prod.fst = [0]) 0
  else if x.1 = 6 then ifso (ks.map Prod.fst = [1]) 1
  else if 7 ≤ x.1 ∧ x.1 ≤ 11 then ifso (ks.map Prod.fst = [0, 0]) 0
  else if 12 ≤ x.1 ∧ x.1 ≤ 17 then ifso (ks.map Prod.fst = [0, 0]) 1
  else if x.1 = 18 ∨ x.1 = 19 then ifso (ks.map Prod.fst = [1, 1]) 1
  else if x.1 = 20 then ifso (alltwo (ks.map Prod.fst) = true) 2
  else if x.1 = 21 then ifso ((vtyp vs x.2 = 0 ∨ vtyp vs x.2 = 1) ∧ ks.map Prod.fst = [vtyp vs x.2]) 2
  else if x.1 = 22 then ifso (0 < asz (vtyp vs x.2) ∧ ks.map Prod.fst = [0, 0]) 2
  else if x.1 = 23 then ifso (ks.map Prod.fst = [1, 2, 2] ∧ blksB ks = true) 2
  else if x.1 = 24 then ifso (ks.map Prod.fst = [1, 2] ∧ blksB ks = true) 2
  else if x.1 = 25 then ifso (ks.map Prod.fst = [0]) 2
  else 2
theorem rule_blk (vs : List Int) (x : Nd) (ks : List (Int × Int)) : rule vs x ks = ruleB vs x (ks.map kblk) := by
  have h1 : (ks.map kblk).map Prod.fst = ks.map Prod.fst := by rw [List.map_map]; rfl
  have h2 : blksB (ks.map kblk) = blks ks := by
    unfold blksB blks
    rw [← List.map_drop, List.all_map]
    rfl
  unfold rule ruleB
  rw [h1, h2]
def kb (vs : List Int) (x : Nd) (ks : List (Int × Bool)) : Int × Bool := (ruleB vs x ks, decide (x.1 = 20))
theorem kd_blk (vs : List Int) (x : Nd) (ks : List (Int × Int)) : kblk (kd vs x ks) = kb vs x (ks.map kblk) := by
  unfold kblk kd kb
  simp only
  rw [rule_blk]
  rfl
theorem fold_blk (vs : List Int) : ∀ X : List Nd, fold (kb vs) X = (fold (kd vs) X).map kblk
  | [] => rfl
  | x :: X => by
    rw [fold_cons, fold_cons, fold_blk vs X, List.map_cons, kd_blk, List.map_take, List.map_drop]

/-- What stands at a place, out of the rest. -/
theorem val_drop {β : Type} (f : Nd → List β → β) (d : β) {l : List Nd} {k n : Nat} (h : scan 1 (l.drop k) = some n) : val f d l k = (fold f (l.drop k)).headD d := by
  have hs : l.drop k = apart l k ++ l.drop (k + n) := by
    unfold apart
    rw [if_neg (by rw [aend_some h]; omega), aend_some h, Int.toNat_natCast, show ((k : Int) + n).toNat - k = n by omega, ← List.drop_drop, List.take_append_drop]
  have hp := part_scan h
  rw [← part_len h] at hp
  rw [hs, fold_append f _ 1 _ hp, fold_part f d h]
  rfl
theorem okind_drop (vs : List Int) {l : List Nd} {k n : Nat} (h : scan 1 (l.drop k) = some n) : okind vs l k = ((fold (kb vs) (l.drop k)).headD (-1, false)).1 := by
  unfold okind
  rw [val_drop _ _ h, fold_blk]
  cases fold (kd vs) (l.drop k) <;> rfl
theorem oblk_drop (vs : List Int) {l : List Nd} {k n : Nat} (h : scan 1 (l.drop k) = some n) : decide (otag l k = 20) = ((fold (kb vs) (l.drop k)).headD (-1, false)).2 := by
  have e := val_tag (vs := vs) h
  rw [val_drop _ _ h] at e
  rw [fold_blk]
  cases hf : fold (kd vs) (l.drop k) with
  | nil =>
    rw [hf] at e
    simp at e
    rw [← e.2]; rfl
  | cons y Y =>
    rw [hf] at e
    simp at e
    rw [e]; rfl

/-- WHERE ALL THAT IS TOLD BEHIND A PLACE IS THE SAME, ALL AHEAD OF IT IS. -/
theorem same_at (vs : List Int) {X A B : List Nd} (h : fold (kb vs) A = fold (kb vs) B) {k n m : Nat} (hk : k ≤ X.length) (ha : scan 1 ((X ++ A).drop k) = some n) (hb : scan 1 ((X ++ B).drop k) = some m) :
    okind vs (X ++ B) k = okind vs (X ++ A) k ∧ (otag (X ++ B) k = 20 ↔ otag (X ++ A) k = 20) := by
  have e : fold (kb vs) ((X ++ B).drop k) = fold (kb vs) ((X ++ A).drop k) := by
    rw [List.drop_append_of_le_length hk, List.drop_append_of_le_length hk]
    exact (fold_congr (kb vs) (X.drop k) h).symm
  constructor
  · rw [okind_drop vs ha, okind_drop vs hb, e]
  · have q1 := oblk_drop vs ha
    have q2 := oblk_drop vs hb
    rw [e, ← q1] at q2
    rw [← decide_eq_true_iff (p := otag (X ++ B) k = 20), q2, decide_eq_true_iff]

/-- Depths, side by side: none is more. -/
def Less : List Nat → List Nat → Prop
  | [], [] => True
  | x :: p, y :: q => x ≤ y ∧ Less p q
  | _, _ => False
theorem less_refl : ∀ p, Less p p
  | [] => trivial
  | _ :: p => ⟨Nat.le_refl _, less_refl p⟩
theorem less_take : ∀ {p q : List Nat} (k : Nat), Less p q → Less (p.take k) (q.take k) ∧ Less (p.drop k) (q.drop k)
  | p, q, 0, h => by simp only [List.take_zero, List.drop_zero]; exact ⟨trivial, h⟩
  | [], [], k + 1, h => ⟨trivial, trivial⟩
  | [], _ :: _, k + 1, h => h.elim
  | _ :: _, [], k + 1, h => h.elim
  | x :: p, y :: q, k + 1, h => by
    obtain ⟨h1, h2⟩ := less_take k h.2
    rw [List.take_succ_cons, List.take_succ_cons, List.drop_succ_cons, List.drop_succ_cons]
    exact ⟨⟨h.1, h1⟩, h2⟩
theorem less_most : ∀ {p q : List Nat}, Less p q → most p ≤ most q
  | [], [], _ => Nat.le_refl _
  | [], _ :: _, h => h.elim
  | _ :: _, [], h => h.elim
  | x :: p, y :: q, h => by
    have := less_most h.2
    have := h.1
    show max x (most p) ≤ max y (most q)
    omega
theorem less_stk {A B : List Nd} (h : Less (stk A) (stk B)) : ∀ X : List Nd, Less (stk (X ++ A)) (stk (X ++ B))
  | [] => h
  | x :: X => by
    have ih := less_stk h X
    obtain ⟨h1, h2⟩ := less_take (ar x).toNat ih
    rw [List.cons_append, List.cons_append, stk, stk]
    exact ⟨by have := less_most h1; omega, h2⟩
theorem less_add {p q r s : List Nat} (h : Less p q) (k : Less r s) : Less (p ++ r) (q ++ s) := by
  induction p generalizing q with
  | nil => cases q with
    | nil => exact k
    | cons y q => exact h.elim
  | cons x p ih => cases q with
    | nil => exact h.elim
    | cons y q => exact ⟨h.1, ih h.2⟩
/-- A whole that is no deeper. -/
theorem depth_less {X A B : List Nd} (h : Less (stk B) (stk A)) (ha : scan 1 (X ++ A) = some (X ++ A).length) (hb : scan 1 (X ++ B) = some (X ++ B).length) : adep (X ++ B) 0 ≤ adep (X ++ A) 0 := by
  have q1 := stk_whole (l := X ++ A) (k := 0) ha
  have q2 := stk_whole (l := X ++ B) (k := 0) hb
  rw [List.drop_zero, List.take_length] at q1 q2
  have := less_stk h X
  rw [q1, q2] at this
  exact this.1
/-- A part, and what stands behind it. -/
theorem stk_add {P : List Nd} (hP : scan 1 P = some P.length) (Z : List Nd) : stk (P ++ Z) = adep P 0 :: stk Z := by
  have e : ∀ X : List Nd, stk X = fold (fun _ ks => 1 + most ks) X := by
    intro X
    induction X with
    | nil => rfl
    | cons x X ih => rw [stk, fold_cons, ih]
  have q := stk_whole (l := P) (k := 0) hP
  rw [List.drop_zero, List.take_length] at q
  rw [e, fold_append _ _ 1 _ hP, ← e, ← e, q]
  rfl
theorem adep_pos {P : List Nd} (hP : scan 1 P = some P.length) : 1 ≤ adep P 0 := by
  have := adep_good (l := P) (k := 0) hP
  rw [show ((0 : Nat) : Int) = 0 from rfl] at this
  omega

/-- What is told of a whole that is changed behind a place. -/
theorem typed_of {ps : Int} {vs : List Int} {X A B : List Nd} (hc : pcheck ps vs (X ++ A) = 0) (h : fold (kb vs) A = fold (kb vs) B) (hb : scan 1 (X ++ B) = some (X ++ B).length) (hl : (X ++ B).length ≤ 200) {k : Nat} (hk : k ≤ X.length) (hkb : k < (X ++ B).length) (hka : k < (X ++ A).length) :
    okind vs (X ++ B) 0 = 2 ∧ okind vs (X ++ B) k = okind vs (X ++ A) k ∧ pcheck ps vs (X ++ B) = if 30 < adep (X ++ B) 0 then 13 else 0 := by
  obtain ⟨c1, c2, c3, c4⟩ := pcheck_zero hc
  obtain ⟨-, hw⟩ := acheck_zero c1
  obtain ⟨n, hn⟩ := scan_at _ 1 k hw hka
  obtain ⟨m, hm⟩ := scan_at _ 1 k hb hkb
  obtain ⟨e1, e2⟩ := same_at vs h (k := 0) (Nat.zero_le _) (n := (X ++ A).length) (m := (X ++ B).length) hw hb
  obtain ⟨f1, -⟩ := same_at vs h hk hn hm
  rw [show ((0 : Nat) : Int) = 0 from rfl] at e1 e2
  refine ⟨by omega, f1, ?_⟩
  have ht := e2.2 c3
  unfold pcheck
  rw [acheck_scan hb hl]
  by_cases hd : 30 < adep (X ++ B) 0
  · rw [if_pos hd, if_pos (by omega)]
  · rw [if_neg hd, if_neg (by omega), if_neg (by omega), if_neg (by omega)]
/-- .. and that is no deeper. -/
theorem typed_less {ps : Int} {vs : List Int} {X A B : List Nd} (hc : pcheck ps vs (X ++ A) = 0) (h : fold (kb vs) A = fold (kb vs) B) (hs : Less (stk B) (stk A)) (hb : scan 1 (X ++ B) = some (X ++ B).length) (hl : (X ++ B).length ≤ 200) {k : Nat} (hk : k ≤ X.length) (hkb : k < (X ++ B).length) (hka : k < (X ++ A).length) :
    okind vs (X ++ B) 0 = 2 ∧ okind vs (X ++ B) k = okind vs (X ++ A) k ∧ pcheck ps vs (X ++ B) = 0 := by
  obtain ⟨t1, t2, t3⟩ := typed_of hc h hb hl hk hkb hka
  obtain ⟨c1, c2, c3, c4⟩ := pcheck_zero hc
  obtain ⟨l1, hw⟩ := acheck_zero c1
  have hd := depth_less hs hw hb
  rw [acheck_scan hw l1] at c1
  have hd2 : ¬ 30 < adep (X ++ A) 0 := fun q => by rw [if_pos q] at c1; cases c1
  rw [if_neg (by omega)] at t3
  exact ⟨t1, t2, t3⟩

end Go.Proofs.YthkhonkibigdaaaGreat.Delta
