/-
  Package frame: what its reader tells of a frame, and what that is of the bytes around it.
-/
import Derived.Test.YthimplhfmamejaaFrameSect
import Derived.Test.YthimplhfmamejaaFrameRef3
namespace Go.Proofs.Ythimplhfmamejaa.Frame
open Go.RowKit Leb Mem Wire

theorem lget_drop (l : List UInt8) (a k : Nat) (ha : a + k ≤ l.length) : lget (l.drop a) k = ((lget l ((a : Int) + k)).1, (lget l ((a : Int) + k)).2.1 - a, (lget l ((a : Int) + k)).2.2) := by
  have e : ((a : Int) + (k : Int)).toNat = a + k := by omega
  have hL : ¬ ((k : Int) < 0 ∨ ((l.length - a : Nat) : Int) < (k : Int)) := by omega
  have hR : ¬ ((a : Int) + (k : Int) < 0 ∨ (l.length : Int) < (a : Int) + (k : Int)) := by omega
  unfold lget
  rw [Int.toNat_natCast, List.drop_drop, e, List.length_drop]
  simp only [if_neg hL, if_neg hR]
  by_cases c1 : lbytes 10 (l.drop (a + k)) = 0
  · simp only [if_pos c1]
    by_cases c2 : l.length - a - k < 10
    · have c3 : l.length - (a + k) < 10 := by omega
      simp only [if_pos c2, if_pos c3]; congr 2; omega
    · have c3 : ¬ l.length - (a + k) < 10 := by omega
      simp only [if_neg c2, if_neg c3]; congr 2; omega
  · simp only [if_neg c1]
    split
    · simp only; congr 2; omega
    · simp only; congr 2; omega

/-- What is read of a frame: type and data; the place; what is wrong. -/
def fsec (l : List UInt8) : (Int × List UInt8) × Int × Int :=
  if l.length = 0 then ((0, []), 0, 2)
  else if (lcount l 1 1048576).2.2 ≠ 0 then (((l.getD 0 0).toNat, []), 1, (lcount l 1 1048576).2.2)
  else if (lraw l (lcount l 1 1048576).2.1 (lcount l 1 1048576).1).2.2 ≠ 0 then (((l.getD 0 0).toNat, []), (lcount l 1 1048576).2.1, (lraw l (lcount l 1 1048576).2.1 (lcount l 1 1048576).1).2.2)
  else (((l.getD 0 0).toNat, (lraw l (lcount l 1 1048576).2.1 (lcount l 1 1048576).1).1), if (lraw l (lraw l (lcount l 1 1048576).2.1 (lcount l 1 1048576).1).2.1 4).2.2 ≠ 0 then (lraw l (lcount l 1 1048576).2.1 (lcount l 1 1048576).1).2.1 else (lraw l (lraw l (lcount l 1 1048576).2.1 (lcount l 1 1048576).1).2.1 4).2.1, (lraw l (lraw l (lcount l 1 1048576).2.1 (lcount l 1 1048576).1).2.1 4).2.2)

theorem lraw_neg {l : List UInt8} {a n : Int} (h : (lraw l a n).2.2 ≠ 0) : (lraw l a n).1 = [] ∧ (lraw l a n).2.1 = a := by
  unfold lraw at h ⊢
  by_cases c1 : n < 0
  · rw [if_pos c1]; exact ⟨rfl, rfl⟩
  · rw [if_neg c1] at h ⊢
    by_cases c2 : (l.length : Int) - a < n
    · rw [if_pos c2]; exact ⟨rfl, rfl⟩
    · rw [if_neg c2] at h; simp at h
theorem lraw_yes {l : List UInt8} {a n : Int} (h : (lraw l a n).2.2 = 0) : 0 ≤ n ∧ n ≤ (l.length : Int) - a ∧ lraw l a n = ((l.drop a.toNat).take n.toNat, a + n, 0) := by
  unfold lraw at h ⊢
  by_cases c1 : n < 0
  · rw [if_pos c1] at h; simp at h
  · rw [if_neg c1] at h ⊢
    by_cases c2 : (l.length : Int) - a < n
    · rw [if_pos c2] at h; simp at h
    · rw [if_neg c2]; exact ⟨by omega, by omega, rfl⟩
theorem lraw_in {l : List UInt8} {a n : Int} (h0 : 0 ≤ n) (h : n ≤ (l.length : Int) - a) : lraw l a n = ((l.drop a.toNat).take n.toNat, a + n, 0) := by
  unfold lraw; rw [if_neg (by omega), if_neg (by omega)]
theorem lraw_out {l : List UInt8} {a n : Int} (h0 : 0 ≤ n) (h : (l.length : Int) - a < n) : lraw l a n = ([], a, 2) := by
  unfold lraw; rw [if_neg (by omega), if_pos (by omega)]

/-- A frame is what its reader tells of the bytes from its place on. -/
theorem fget_sec (l : List UInt8) (a : Nat) (ha : a ≤ l.length) :
    fget l a = if (fsec (l.drop a)).2.2 ≠ 0 then ((0, []), (a : Int), (fsec (l.drop a)).2.2)
      else if Crc.good ((l.drop a).take (fsec (l.drop a)).2.1.toNat) then ((fsec (l.drop a)).1, (a : Int) + (fsec (l.drop a)).2.1, 0) else ((0, []), (a : Int), 6) := by
  by_cases c0 : (a : Int) = l.length
  · have : fsec (l.drop a) = ((0, []), 0, 2) := by unfold fsec; rw [if_pos (by rw [List.length_drop]; omega)]
    rw [this, c0, fget_end]
    rfl
  have hlt : a < l.length := by omega
  obtain ⟨⟨n, b, c⟩, hl⟩ : ∃ t, lget l ((a : Int) + 1) = t := ⟨_, rfl⟩
  have hd := lget_drop l a 1 (by omega)
  rw [show ((a : Int) + ((1 : Nat) : Int)) = (a : Int) + 1 by rfl, hl] at hd
  simp only [Int.natCast_one] at hd
  have hne : ¬ (l.drop a).length = 0 := by rw [List.length_drop]; omega
  by_cases c1 : c ≠ 0
  · have hc : lcount (l.drop a) 1 1048576 = (0, 1, c) := by rw [lcount_err (by rw [hd]; exact c1), hd]
    have : (fsec (l.drop a)).2.2 = c := by unfold fsec; rw [if_neg hne, hc, if_pos c1]
    rw [this, if_pos c1, fget_num (by omega) (by omega) hl c1]
  obtain rfl : c = 0 := by omega
  by_cases c2 : 1048576 < n
  · have hc : lcount (l.drop a) 1 1048576 = (0, 1, 4) := by rw [lcount_large (by rw [hd]) (by rw [hd]; right; simp only; omega)]
    have : (fsec (l.drop a)).2.2 = 4 := by unfold fsec; rw [if_neg hne, hc, if_pos (by simp)]
    rw [this, if_pos (by omega), fget_large (by omega) (by omega) hl c2]
  have hc : lcount (l.drop a) 1 1048576 = (n, b - a, 0) := by rw [lcount_ok (by rw [hd]) (by omega) (by rw [hd]; simp only; omega), hd]
  obtain ⟨g1, g2, g3, -⟩ := lget_only l ((a : Int) + 1) (by rw [hl])
  rw [hl] at g2 g3
  simp only at g2 g3
  obtain ⟨q, rfl⟩ := Int.eq_ofNat_of_zero_le (show 0 ≤ b by omega)
  have hdl : ((l.drop a).length : Int) = (l.length : Int) - a := by rw [List.length_drop]; omega
  by_cases c3 : (l.length : Int) - q < n + 4
  · have : (fsec (l.drop a)).2.2 = 2 := by
      unfold fsec
      rw [if_neg hne, hc, if_neg (by simp)]
      simp only
      by_cases c4 : (l.length : Int) - q < n
      · rw [lraw_out (by omega) (by omega), if_pos (by simp)]
      · rw [lraw_in (by omega) (by omega), if_neg (by simp)]
        simp only
        rw [lraw_out (by omega) (by omega)]
    rw [this, if_pos (by omega), fget_short (by omega) (by omega) hl (by omega) c3]
  have e1 : ((q : Int) - a + n + 4).toNat = q - a + n + 4 := by omega
  have hs : fsec (l.drop a) = ((((l.getD a 0).toNat : Int), (l.drop q).take n), (q : Int) - a + n + 4, 0) := by
    unfold fsec
    rw [if_neg hne, hc, if_neg (by simp)]
    simp only
    rw [lraw_in (by omega) (by omega), if_neg (by simp)]
    simp only
    rw [lraw_in (by omega) (by omega), if_neg (by simp), List.drop_drop]
    congr 2
    · simp [List.getD_eq_getElem?_getD]
    · congr 2; omega
  have hlen : ((l.drop a).take (q - a + n + 4)).length = q - a + n + 4 := by rw [List.length_take, List.length_drop]; omega
  have hg : Crc.good ((l.drop a).take (q - a + n + 4)) = decide (Crc.tail ((l.drop a).take (q + n - a)) = (l.drop (q + n)).take 4) := by
    unfold Crc.good
    rw [hlen, decide_eq_true (by omega), Bool.true_and, Nat.add_sub_cancel, List.take_take, Nat.min_eq_left (by omega), show q - a + n = q + n - a by omega, show q + n - a + 4 = (q + n - a) + 4 by rfl]
    rw [List.drop_take, List.drop_drop, show a + (q + n - a) = q + n by omega, Nat.add_sub_cancel_left]
    by_cases t : Crc.tail ((l.drop a).take (q + n - a)) = (l.drop (q + n)).take 4
    · rw [t]; simp
    · rw [decide_eq_false t, beq_eq_false_iff_ne]; exact fun h => t h.symm
  rw [hs]
  simp only
  rw [if_neg (by simp), e1, hg]
  by_cases t : Crc.tail ((l.drop a).take (q + n - a)) = (l.drop (q + n)).take 4
  · rw [if_pos (by simpa using t), fget_ok hlt hl (by omega) (by omega) t]
    congr 2
    omega
  · rw [if_neg (by simpa using t), fget_sum hlt hl (by omega) (by omega) t]

end Go.Proofs.Ythimplhfmamejaa.Frame
