/-
  Plain facts on numbers in groups of seven bits: what is written, how long it is, what is read back. No program is met here.
-/
import Derived.Below
import Derived.Lib.Hide
namespace Go.Proofs.Ythimplhfmamejaa.Leb

/-- The bytes of a number. -/
def lput (n : Nat) : List UInt8 := if n < 128 then [UInt8.ofNat n] else UInt8.ofNat (128 + n % 128) :: lput (n / 128)
termination_by n
decreasing_by omega

theorem lput_lo {n : Nat} (h : n < 128) : lput n = [UInt8.ofNat n] := by rw [lput, if_pos h]
theorem lput_hi {n : Nat} (h : 128 ≤ n) : lput n = UInt8.ofNat (128 + n % 128) :: lput (n / 128) := by rw [lput, if_neg (by omega)]

/-- What bytes come to. -/
def lval : List UInt8 → Nat
  | [] => 0
  | b :: r => b.toNat % 128 + 128 * lval r

/-- How many bytes belong to a number: up to the first one below 128, at most so many; 0: there is no last one. -/
def lbytes : Nat → List UInt8 → Nat
  | 0, _ => 0
  | _ + 1, [] => 0
  | f + 1, b :: r => if b.toNat < 128 then 1 else if lbytes f r = 0 then 0 else lbytes f r + 1

theorem ofNat_lo {n : Nat} (h : n < 256) : (UInt8.ofNat n).toNat = n := by simp; omega

theorem lput_ne (n : Nat) : lput n ≠ [] := by
  by_cases h : n < 128
  · rw [lput_lo h]; simp
  · rw [lput_hi (by omega)]; simp

theorem lput_pos (n : Nat) : 1 ≤ (lput n).length := by
  have := lput_ne n
  cases h : lput n with
  | nil => exact absurd h this
  | cons => simp

theorem lval_lput (n : Nat) : lval (lput n) = n := by
  induction n using Nat.strongRecOn with
  | ind n ih =>
    by_cases h : n < 128
    · rw [lput_lo h]; simp only [lval, ofNat_lo (show n < 256 by omega)]; omega
    · rw [lput_hi (by omega)]
      simp only [lval, ofNat_lo (show 128 + n % 128 < 256 by omega), ih (n / 128) (by omega)]
      omega

theorem lput_inj {a b : Nat} (h : lput a = lput b) : a = b := by
  rw [← lval_lput a, h, lval_lput]

theorem lput_len_le : ∀ (k n : Nat), n < 128 ^ (k + 1) → (lput n).length ≤ k + 1
  | 0, n, h => by rw [lput_lo (by simpa using h)]; simp
  | k + 1, n, h => by
    by_cases hn : n < 128
    · rw [lput_lo hn]; simp
    · rw [lput_hi (by omega)]
      have := lput_len_le k (n / 128) (by rw [Nat.pow_succ] at h; omega)
      simp; omega

theorem lput_len10 {n : Nat} (h : n ≤ 18446744073709551615) : (lput n).length ≤ 10 := lput_len_le 9 n (by omega)

theorem lput_len_mono (a : Nat) : ∀ b, a ≤ b → (lput a).length ≤ (lput b).length := by
  induction a using Nat.strongRecOn with
  | ind a ih =>
    intro b hab
    by_cases ha : a < 128
    · rw [lput_lo ha]; exact lput_pos b
    · rw [lput_hi (show 128 ≤ a by omega), lput_hi (show 128 ≤ b by omega)]
      have := ih (a / 128) (by omega) (b / 128) (by omega)
      simp; omega

theorem lbytes_le : ∀ (f : Nat) (l : List UInt8), lbytes f l ≤ l.length ∧ lbytes f l ≤ f
  | 0, _ => by simp [lbytes]
  | f + 1, [] => by simp [lbytes]
  | f + 1, b :: r => by
    have := lbytes_le f r
    unfold lbytes
    split
    · simp
    · split
      · simp
      · simp; omega

theorem lbytes_lput (n : Nat) : ∀ (f : Nat) (t : List UInt8), (lput n).length ≤ f → lbytes f (lput n ++ t) = (lput n).length := by
  induction n using Nat.strongRecOn with
  | ind n ih =>
    intro f t hf
    cases f with
    | zero => have := lput_pos n; omega
    | succ f =>
      by_cases h : n < 128
      · rw [lput_lo h]
        simp only [List.cons_append, List.nil_append, lbytes, ofNat_lo (show n < 256 by omega), if_pos h]
        rfl
      · rw [lput_hi (by omega)] at hf ⊢
        simp only [List.length_cons] at hf
        have := ih (n / 128) (by omega) f t (by omega)
        have hp := lput_pos (n / 128)
        simp only [List.cons_append, lbytes, ofNat_lo (show 128 + n % 128 < 256 by omega), this]
        rw [if_neg (by omega), if_neg (by omega)]
        simp

theorem lput_prefix_free {a b : Nat} (h : (lput b).take (lput a).length = lput a) : a = b := by
  have hb := lbytes_lput b ((lput b).length + (lput a).length) [] (by omega)
  have ha := lbytes_lput a ((lput b).length + (lput a).length) ((lput b).drop (lput a).length) (by omega)
  have e : lput a ++ (lput b).drop (lput a).length = lput b := by
    have := List.take_append_drop (lput a).length (lput b)
    rw [h] at this
    exact this
  rw [e] at ha
  rw [List.append_nil, ha] at hb
  rw [hb, List.take_length] at h
  exact lput_inj h.symm

theorem lput_prefix_take (a b : Nat) : decide ((lput b).take (lput a).length = lput a) = decide (a = b) := by
  by_cases h : a = b
  · subst h; simp
  · rw [decide_eq_false h, decide_eq_false (fun e => h (lput_prefix_free e))]

/-- The number at a place: the number, the place behind it, what is wrong (0: nothing; 1: the place; 2: too short; 3: no number). -/
def lget (l : List UInt8) (at_ : Int) : Nat × Int × Int :=
  if at_ < 0 ∨ (l.length : Int) < at_ then (0, at_, 1)
  else if lbytes 10 (l.drop at_.toNat) = 0 then (if l.length - at_.toNat < 10 then (0, at_, 2) else (0, at_, 3))
  else if lput (lval ((l.drop at_.toNat).take (lbytes 10 (l.drop at_.toNat))) % 18446744073709551616) = (l.drop at_.toNat).take (lbytes 10 (l.drop at_.toNat))
    then (lval ((l.drop at_.toNat).take (lbytes 10 (l.drop at_.toNat))) % 18446744073709551616, at_ + lbytes 10 (l.drop at_.toNat), 0)
  else (0, at_, 3)

theorem lget_back {n : Nat} (h : n ≤ 18446744073709551615) (x y : List UInt8) : lget (x ++ lput n ++ y) x.length = (n, (x.length : Int) + (lput n).length, 0) := by
  have hl := lput_len10 h
  have hp := lput_pos n
  have hd : (x ++ lput n ++ y).drop x.length = lput n ++ y := by simp [List.append_assoc]
  unfold lget
  rw [Int.toNat_natCast, hd, lbytes_lput n 10 y hl, List.take_left' rfl, lval_lput, Nat.mod_eq_of_lt (by omega)]
  rw [if_neg (by simp; omega), if_neg (by omega), if_pos rfl]

theorem lget_fst_le (l : List UInt8) (a : Int) : (lget l a).1 ≤ 18446744073709551615 := by
  unfold lget
  split
  · simp
  · split
    · split <;> simp
    · split
      · simp only; omega
      · simp

/-- What is read was written just so. -/
theorem lget_only (l : List UInt8) (a : Int) (h : (lget l a).2.2 = 0) :
    0 ≤ a ∧ a < (lget l a).2.1 ∧ (lget l a).2.1 ≤ l.length ∧ lput (lget l a).1 = (l.drop a.toNat).take ((lget l a).2.1.toNat - a.toNat) := by
  unfold lget at h ⊢
  by_cases c1 : a < 0 ∨ (l.length : Int) < a
  · rw [if_pos c1] at h; simp at h
  · rw [if_neg c1] at h ⊢
    by_cases c2 : lbytes 10 (l.drop a.toNat) = 0
    · rw [if_pos c2] at h
      split at h <;> simp at h
    · rw [if_neg c2] at h ⊢
      have hb := (lbytes_le 10 (l.drop a.toNat)).1
      rw [List.length_drop] at hb
      split at h
      · rename_i c3
        rw [if_pos c3]
        refine ⟨by omega, by simp only; omega, by simp only; omega, ?_⟩
        simp only
        rw [c3]
        congr 1
        omega
      · simp at h

theorem lget_err (l : List UInt8) (a : Int) (h : (lget l a).2.2 ≠ 0) : (lget l a).1 = 0 ∧ (lget l a).2.1 = a := by
  unfold lget at h ⊢
  by_cases c1 : a < 0 ∨ (l.length : Int) < a
  · rw [if_pos c1]; exact ⟨rfl, rfl⟩
  · rw [if_neg c1] at h ⊢
    by_cases c2 : lbytes 10 (l.drop a.toNat) = 0
    · rw [if_pos c2]; split <;> exact ⟨rfl, rfl⟩
    · rw [if_neg c2] at h ⊢
      split at h
      · simp at h
      · rename_i c3
        rw [if_neg c3]; exact ⟨rfl, rfl⟩

theorem lget_err_range (l : List UInt8) (a : Int) : 0 ≤ (lget l a).2.2 ∧ (lget l a).2.2 ≤ 3 := by
  unfold lget
  split
  · simp
  · split
    · split <;> simp
    · split <;> simp

/-! ### Reading digit by digit -/

theorem lbytes_snoc_hi : ∀ (i : Nat) (f : Nat) (r : List UInt8), i ≤ r.length → (∀ j (h : j < r.length), j < i → 128 ≤ r[j].toNat) → lbytes (i + f) r = if lbytes f (r.drop i) = 0 then 0 else lbytes f (r.drop i) + i
  | 0, f, r, _, _ => by simp
  | i + 1, f, [], h, _ => by simp at h
  | i + 1, f, b :: r, hl, hh => by
    have h0 := hh 0 (by simp) (by omega)
    simp only [List.getElem_cons_zero] at h0
    have ih := lbytes_snoc_hi i f r (by simpa using hl) (fun j hj hji => by have := hh (j + 1) (by simpa using hj) (by omega); simpa using this)
    have e : i + 1 + f = (i + f) + 1 := by omega
    rw [e]
    simp only [lbytes, List.drop_succ_cons]
    rw [if_neg (by omega), ih]
    by_cases c : lbytes f (List.drop i r) = 0
    · simp [c]
    · simp [c]; omega

theorem lval_append (x y : List UInt8) : lval (x ++ y) = lval x + 128 ^ x.length * lval y := by
  induction x with
  | nil => simp [lval]
  | cons b r ih => simp only [List.cons_append, lval, ih, List.length_cons, Nat.pow_succ, Nat.mul_add, Nat.add_assoc]; congr 2; rw [← Nat.mul_assoc, Nat.mul_comm (128 ^ r.length) 128]

theorem lval_lt (x : List UInt8) : lval x < 128 ^ x.length := by
  induction x with
  | nil => simp [lval]
  | cons b r ih => simp only [lval, List.length_cons, Nat.pow_succ]; omega

/-- The digits as numbers, as the Go text tells them. -/
def digs (n : Nat) : List Int := if n < 128 then [(n : Int)] else ((n : Int) % 128 + 128) :: digs (n / 128)
termination_by n
decreasing_by omega

theorem digs_lo {n : Nat} (h : n < 128) : digs n = [(n : Int)] := by rw [digs, if_pos h]
theorem digs_hi {n : Nat} (h : 128 ≤ n) : digs n = ((n : Int) % 128 + 128) :: digs (n / 128) := by rw [digs, if_neg (by omega)]
theorem digs_bytes (n : Nat) : (digs n).map (fun x => UInt8.ofNat x.toNat) = lput n := by
  induction n using Nat.strongRecOn with
  | ind n ih =>
    by_cases h : n < 128
    · rw [digs_lo h, lput_lo h]; simp
    · rw [digs_hi (by omega), lput_hi (by omega), List.map_cons, ih (n / 128) (by omega)]
      congr 2
      omega
theorem digs_len (n : Nat) : (digs n).length = (lput n).length := by rw [← digs_bytes, List.length_map]
theorem digs_range (n : Nat) : ∀ x ∈ digs n, 0 ≤ x ∧ x ≤ 255 := by
  induction n using Nat.strongRecOn with
  | ind n ih =>
    intro x hx
    by_cases h : n < 128
    · rw [digs_lo h] at hx; simp at hx; omega
    · rw [digs_hi (by omega)] at hx
      rcases List.mem_cons.1 hx with e | e
      · omega
      · exact ih (n / 128) (by omega) x e

end Go.Proofs.Ythimplhfmamejaa.Leb
