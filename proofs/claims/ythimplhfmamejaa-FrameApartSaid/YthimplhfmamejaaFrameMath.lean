/-
  Plain facts on frames: what a section's bytes are, what stands at a place, that each is the other's way back, and that bits turned are found out. No program is met here.
-/
import Derived.Test.YthimplhfmamejaaLebMath
import Derived.Test.YthimplhfmamejaaCrcMath
namespace Go.Proofs.Ythimplhfmamejaa.Frame
open Leb Crc

/-- A number's lowest byte. -/
def b8 (n : Int) : UInt8 := UInt8.ofNat (n % 256).toNat
theorem b8_mod (n : Int) : n % 256 = ((b8 n).toNat : Int) := by
  have h : (n % 256).toNat < 256 := by omega
  rw [b8, UInt8.toNat_ofNat', Nat.mod_eq_of_lt h]
  omega
theorem b8_of {n : Int} (h0 : 0 ≤ n) (h1 : n ≤ 255) : ((b8 n).toNat : Int) = n := by rw [← b8_mod]; omega
theorem b8_byte (b : UInt8) : b8 (b.toNat : Int) = b := by
  have h := b.toNat_lt
  unfold b8
  rw [show ((b.toNat : Int) % 256).toNat = b.toNat by omega]
  simp

/-- Ahead of the data. -/
def head (t : Int) (d : List UInt8) : List UInt8 := b8 t :: lput d.length
theorem head_len (t : Int) (d : List UInt8) : (head t d).length = (lput d.length).length + 1 := rfl
/-- The frame. -/
def fput (t : Int) (d : List UInt8) : List UInt8 := head t d ++ d ++ tail (head t d ++ d)
theorem fput_len (t : Int) (d : List UInt8) : (fput t d).length = (head t d).length + d.length + 4 := by unfold fput; simp [tail_len]; omega
/-- The frame, and what is wrong. -/
def fPut (t : Int) (d : List UInt8) : List UInt8 × Int := if t < 0 ∨ 255 < t then ([], 1) else if 1048576 < d.length then ([], 4) else (fput t d, 0)

/-- What stands at a place: type, data; the place behind; what is wrong. -/
def fget (l : List UInt8) (a : Int) : (Int × List UInt8) × Int × Int :=
  if a < 0 ∨ (l.length : Int) < a then ((0, []), a, 1)
  else if a = l.length then ((0, []), a, 2)
  else if (lget l (a + 1)).2.2 ≠ 0 then ((0, []), a, (lget l (a + 1)).2.2)
  else if 1048576 < (lget l (a + 1)).1 then ((0, []), a, 4)
  else if (l.length : Int) - (lget l (a + 1)).2.1 < (lget l (a + 1)).1 + 4 then ((0, []), a, 2)
  else if tail ((l.drop a.toNat).take ((lget l (a + 1)).2.1.toNat + (lget l (a + 1)).1 - a.toNat)) ≠ (l.drop ((lget l (a + 1)).2.1.toNat + (lget l (a + 1)).1)).take 4 then ((0, []), a, 6)
  else (((l.getD a.toNat 0).toNat, (l.drop (lget l (a + 1)).2.1.toNat).take (lget l (a + 1)).1), (lget l (a + 1)).2.1 + (lget l (a + 1)).1 + 4, 0)

/-- What stands behind a head, whatever it is. -/
theorem fget_at (X Y d z : List UInt8) (t : Int) (h0 : 0 ≤ t) (h1 : t ≤ 255) (hd : d.length ≤ 1048576) (m : List UInt8) (hm : m.length = d.length) (hz : z.length = 4) :
    fget (X ++ (head t d ++ (m ++ z)) ++ Y) X.length = if tail (head t d ++ m) = z then ((t, m), (X.length : Int) + (head t d).length + d.length + 4, 0) else ((0, []), X.length, 6) := by
  obtain ⟨L, hL⟩ : ∃ L, X ++ (head t d ++ (m ++ z)) ++ Y = L := ⟨_, rfl⟩
  have hlen : L.length = X.length + (head t d).length + d.length + 4 + Y.length := by rw [← hL]; simp [hm, hz]; omega
  have hh := head_len t d
  have hp := lput_pos d.length
  have hget : lget L ((X.length : Int) + 1) = (d.length, (X.length : Int) + (head t d).length, 0) := by
    have := lget_back (n := d.length) (by omega) (X ++ [b8 t]) (m ++ z ++ Y)
    rw [show X ++ [b8 t] ++ lput d.length ++ (m ++ z ++ Y) = L by rw [← hL]; simp [head, List.append_assoc]] at this
    rw [List.length_append, List.length_singleton] at this
    rw [show ((X.length + 1 : Nat) : Int) = (X.length : Int) + 1 by omega] at this
    rw [this, hh]
    congr 2
    omega
  have e1 : ((X.length : Int) + (head t d).length).toNat = X.length + (head t d).length := by omega
  have hdrop : L.drop X.length = head t d ++ (m ++ z) ++ Y := by rw [← hL]; simp [List.append_assoc]
  have hd2 : L.drop (X.length + (head t d).length) = m ++ z ++ Y := by rw [← List.drop_drop, hdrop]; simp [List.append_assoc]
  have hd3 : L.drop (X.length + (head t d).length + d.length) = z ++ Y := by rw [← List.drop_drop, hd2, ← hm]; simp [List.append_assoc]
  have ht1 : (L.drop X.length).take (X.length + (head t d).length + d.length - X.length) = head t d ++ m := by
    rw [hdrop, show X.length + (head t d).length + d.length - X.length = (head t d ++ m).length by simp [hm]; omega, ← List.append_assoc, List.append_assoc]
    exact List.take_left
  have ht2 : (L.drop (X.length + (head t d).length + d.length)).take 4 = z := by rw [hd3, ← hz]; exact List.take_left
  have ht3 : (L.drop (X.length + (head t d).length)).take d.length = m := by rw [hd2, ← hm, List.append_assoc]; exact List.take_left
  have hg : L.getD X.length 0 = b8 t := by
    rw [← hL]
    simp [head, List.getD_eq_getElem?_getD]
  unfold fget
  rw [hL, hget]
  simp only
  rw [if_neg (by omega), if_neg (by omega), if_neg (by simp), if_neg (by omega), if_neg (by omega), Int.toNat_natCast, e1, ht1, ht2, ht3, hg]
  by_cases c : tail (head t d ++ m) = z
  · rw [if_neg (by simp [c]), if_pos c, b8_of h0 h1]
  · rw [if_pos c, if_neg c]

/-- WHAT IS PUT IS GOT BACK. -/
theorem fget_back (X Y d : List UInt8) (t : Int) (h0 : 0 ≤ t) (h1 : t ≤ 255) (hd : d.length ≤ 1048576) : fget (X ++ fput t d ++ Y) X.length = ((t, d), (X.length : Int) + (fput t d).length, 0) := by
  have := fget_at X Y d (tail (head t d ++ d)) t h0 h1 hd d rfl (tail_len _)
  rw [if_pos rfl] at this
  unfold fput
  rw [List.append_assoc (head t d), this]
  simp [tail_len]
  omega

theorem fget_err (l : List UInt8) (a : Int) (h : (fget l a).2.2 ≠ 0) : (fget l a).1 = (0, []) ∧ (fget l a).2.1 = a := by
  unfold fget at h ⊢
  repeat' split
  all_goals first | exact ⟨rfl, rfl⟩ | skip
  all_goals simp_all

/-- WHAT IS GOT WAS PUT JUST SO. -/
theorem fget_only (l : List UInt8) (a : Int) (h : (fget l a).2.2 = 0) : 0 ≤ a ∧ a < (fget l a).2.1 ∧ (fget l a).2.1 ≤ l.length ∧ 0 ≤ (fget l a).1.1 ∧ (fget l a).1.1 ≤ 255 ∧ (fget l a).1.2.length ≤ 1048576 ∧
    fput (fget l a).1.1 (fget l a).1.2 = (l.drop a.toNat).take ((fget l a).2.1.toNat - a.toNat) := by
  unfold fget at h ⊢
  by_cases c1 : a < 0 ∨ (l.length : Int) < a
  · rw [if_pos c1] at h; simp at h
  rw [if_neg c1] at h ⊢
  by_cases c2 : a = l.length
  · rw [if_pos c2] at h; simp at h
  rw [if_neg c2] at h ⊢
  by_cases c3 : (lget l (a + 1)).2.2 ≠ 0
  · rw [if_pos c3] at h; exact absurd h c3
  rw [if_neg c3] at h ⊢
  obtain ⟨g1, g2, g3, g4⟩ := lget_only l (a + 1) (by omega)
  obtain ⟨⟨n, b, e⟩, hl⟩ : ∃ t, lget l (a + 1) = t := ⟨_, rfl⟩
  rw [hl] at h g2 g3 g4 ⊢
  simp only at h g2 g3 g4 ⊢
  by_cases c4 : 1048576 < n
  · rw [if_pos c4] at h; simp at h
  rw [if_neg c4] at h ⊢
  by_cases c5 : (l.length : Int) - b < (n : Int) + 4
  · rw [if_pos c5] at h; simp at h
  rw [if_neg c5] at h ⊢
  obtain ⟨k, rfl⟩ := Int.eq_ofNat_of_zero_le (show 0 ≤ a by omega)
  obtain ⟨q, rfl⟩ := Int.eq_ofNat_of_zero_le (show 0 ≤ b by omega)
  simp only [Int.toNat_natCast] at h g4 ⊢
  rw [show ((k : Int) + 1).toNat = k + 1 by omega] at g4
  by_cases c6 : tail ((l.drop k).take (q + n - k)) ≠ (l.drop (q + n)).take 4
  · rw [if_pos c6] at h; simp at h
  rw [if_neg c6] at h ⊢
  have c7 : tail ((l.drop k).take (q + n - k)) = (l.drop (q + n)).take 4 := by simpa using c6
  have hk : k < l.length := by omega
  have hdl : ((l.drop q).take n).length = n := by rw [List.length_take, List.length_drop]; omega
  have hby := (l.getD k 0).toNat_lt
  simp only
  refine ⟨by omega, by omega, by omega, by omega, by omega, by omega, ?_⟩
  have ehead : head ((l.getD k 0).toNat : Int) ((l.drop q).take n) = (l.drop k).take (q - k) := by
    unfold head
    rw [b8_byte, hdl, g4, List.drop_eq_getElem_cons hk, show q - k = (q - (k + 1)) + 1 by omega, List.take_succ_cons]
    congr 1
    simp [List.getD_eq_getElem?_getD, List.getElem?_eq_getElem hk]
  have ebody : head ((l.getD k 0).toNat : Int) ((l.drop q).take n) ++ (l.drop q).take n = (l.drop k).take (q + n - k) := by
    rw [ehead, show q + n - k = (q - k) + n by omega, List.take_add, List.drop_drop, show k + (q - k) = q by omega]
  unfold fput
  rw [ebody, c7, show ((q : Int) + (n : Int) + 4).toNat - k = (q + n - k) + 4 by omega, List.take_add, List.drop_drop, show k + (q + n - k) = q + n by omega]

theorem good_part (a t : List UInt8) (h : t.length = 4) : good (a ++ t) = true ↔ tail a = t := by
  have hl : 4 ≤ (a ++ t).length := by simp [h]
  have e : (a ++ t).length - 4 = a.length := by simp [h]
  unfold good
  rw [e, List.drop_left, List.take_left]
  simp only [hl, decide_true, Bool.true_and, beq_iff_eq]
  exact ⟨Eq.symm, Eq.symm⟩

theorem val_append : ∀ (a b : List UInt8), val (a ++ b) = val a ^^^ 2 ^ (8 * a.length) * val b
  | [], b => by simp [val]
  | x :: a, b => by
    have hx : ∀ p q n : Nat, 2 ^ n * (p ^^^ q) = 2 ^ n * p ^^^ 2 ^ n * q := fun p q n => by
      apply Nat.eq_of_testBit_eq
      intro i
      simp only [Nat.testBit_two_pow_mul, Nat.testBit_xor]
      by_cases h : n ≤ i <;> simp [h]
    rw [List.cons_append]
    simp only [val, List.length_cons]
    rw [val_append a b, hx, show 8 * (a.length + 1) = 8 + 8 * a.length by omega, Nat.pow_add, Nat.mul_assoc, Nat.xor_assoc]

/-- Behind a head the same bits are turned, so much further on. -/
theorem Turned.behind {h m z : List UInt8} {at_ bits : Nat} (ht : Turned m z at_ bits) : Turned (h ++ m) (h ++ z) (8 * h.length + at_) bits := by
  refine ⟨by simp [ht.1], ?_⟩
  have hx : ∀ p q n : Nat, 2 ^ n * (p ^^^ q) = 2 ^ n * p ^^^ 2 ^ n * q := fun p q n => by
    apply Nat.eq_of_testBit_eq
    intro i
    simp only [Nat.testBit_two_pow_mul, Nat.testBit_xor]
    by_cases h : n ≤ i <;> simp [h]
  rw [val_append, val_append, ht.2, hx, ← Nat.xor_assoc, List.length_append, Nat.pow_add, Nat.mul_assoc]
  rw [show 8 * (h.length + m.length) - (8 * h.length + at_) = 8 * m.length - at_ by omega]

/-- WHO TURNS BITS OF A FRAME'S DATA AND ITS TAIL IS FOUND OUT. -/
theorem fget_burst (X Y d z : List UInt8) (t : Int) (h0 : 0 ≤ t) (h1 : t ≤ 255) (hd : d.length ≤ 1048576) (at_ bits : Nat) (hb : bits < 4294967296)
    (hz : Turned (d ++ tail (head t d ++ d)) z at_ bits) (hne : z ≠ d ++ tail (head t d ++ d)) : fget (X ++ (head t d ++ z) ++ Y) X.length = (((0 : Int), ([] : List UInt8)), (X.length : Int), (6 : Int)) := by
  have hl : z.length = d.length + 4 := by rw [hz.1]; simp [tail_len]
  obtain ⟨m, u, rfl, hm, hu⟩ : ∃ m u, z = m ++ u ∧ m.length = d.length ∧ u.length = 4 := ⟨z.take d.length, z.drop d.length, by simp, by simp; omega, by simp; omega⟩
  rw [fget_at X Y d u t h0 h1 hd m hm hu, if_neg]
  intro e
  have hg : good (head t d ++ d ++ tail (head t d ++ d)) = true := good_tail _
  have hbur := burst (s := head t d ++ (d ++ tail (head t d ++ d))) (x := head t d ++ (m ++ u)) (by rw [← List.append_assoc]; exact hg) hb (Turned.behind hz)
  have := hbur.1 (by rw [← List.append_assoc]; exact (good_part _ _ hu).2 e)
  exact hne (List.append_cancel_left this)

/-- Unlike sections have unlike frames, and none begins with another one. -/
theorem fput_apart {t u : Int} {d e : List UInt8} (h0 : 0 ≤ t) (h1 : t ≤ 255) (hd : d.length ≤ 1048576) (g0 : 0 ≤ u) (g1 : u ≤ 255) (he : e.length ≤ 1048576) (h : (fput u e).take (fput t d).length = fput t d) : t = u ∧ d = e := by
  have e1 := fget_back [] ((fput u e).drop (fput t d).length) d t h0 h1 hd
  have e2 := fget_back [] [] e u g0 g1 he
  have hs : [] ++ fput t d ++ (fput u e).drop (fput t d).length = [] ++ fput u e ++ [] := by
    rw [List.append_nil, List.nil_append, List.nil_append]
    conv => lhs; rw [← h]
    rw [List.length_take]
    conv => rhs; rw [← List.take_append_drop (fput t d).length (fput u e)]
    congr 1
    by_cases hle : (fput t d).length ≤ (fput u e).length
    · rw [Nat.min_eq_left hle]
    · rw [List.drop_eq_nil_of_le (by omega), List.drop_eq_nil_of_le (by omega)]
  rw [hs, e2] at e1
  injection e1 with e1 _
  injection e1 with a b
  exact ⟨a.symm, b.symm⟩

end Go.Proofs.Ythimplhfmamejaa.Frame
