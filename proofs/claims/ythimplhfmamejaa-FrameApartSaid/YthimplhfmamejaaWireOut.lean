/-
  Package wire: the number, the text and the bytes at a place, walked.
-/
import Derived.Test.YthimplhfmamejaaWirePlace
import Derived.Lib.Strings
namespace Go.Proofs.Ythimplhfmamejaa.Wire
open Go.RowKit Leb Mem

/-- A list of bytes as a string. -/
def strB (l : List UInt8) : ByteArray := ⟨l.toArray⟩
theorem strB_size (l : List UInt8) : (strB l).size = l.length := by simp [strB, ByteArray.size]
theorem strB_list (l : List UInt8) : (strB l).data.toList = l := by simp [strB]
theorem strB_of (s : ByteArray) : strB s.data.toList = s := rfl
theorem extract_strB (s : ByteArray) (a b : Nat) : s.extract a b = strB ((s.data.toList.drop a).take (b - a)) := by
  apply ByteArray.ext
  apply Array.ext'
  rw [Lib.extract_data]
  simp [strB, List.take_drop]

/-- What stands at a place, no more than m. -/
def lcount (l : List UInt8) (a m : Int) : Nat × Int × Int := if (lget l a).2.2 ≠ 0 then (0, a, (lget l a).2.2) else if m < 0 ∨ m < (lget l a).1 then (0, a, 4) else lget l a
/-- The n bytes at a place. -/
def lraw (l : List UInt8) (a n : Int) : List UInt8 × Int × Int := if n < 0 then ([], a, 1) else if (l.length : Int) - a < n then ([], a, 2) else ((l.drop a.toNat).take n.toNat, a + n, 0)
/-- The text at a place. -/
def ltext (l : List UInt8) (a m : Int) : List UInt8 × Int × Int := if (lcount l a m).2.2 ≠ 0 then ([], a, (lcount l a m).2.2) else lraw l (lcount l a m).2.1 (lcount l a m).1

def CountEnds (s : ByteArray) (a m : Int) (w : World) (e : Ending) (w' : World) : Prop :=
  e = .returned (.tuple #[.int .i64 (lcount s.data.toList a m).1, .int .i64 (lcount s.data.toList a m).2.1, .int .i64 (lcount s.data.toList a m).2.2]) ∧ Below w.heap.size w w'
def TextEnds (r : List UInt8 × Int × Int) (w : World) (e : Ending) (w' : World) : Prop :=
  e = .returned (.tuple #[.string (strB r.1), .int .i64 r.2.1, .int .i64 r.2.2]) ∧ Below w.heap.size w w'
theorem CountEnds.mk {s : ByteArray} {a m : Int} {w w' : World} {n b c : Int} {k : Nat} (h : lcount s.data.toList a m = (k, b, c)) (hn : n = k) (hb : Below w.heap.size w w') : CountEnds s a m w (.returned (.tuple #[.int .i64 n, .int .i64 b, .int .i64 c])) w' :=
  ⟨by rw [h, hn], hb⟩
theorem CountEnds.to {s : ByteArray} {a m : Int} {w w' : World} {e : Ending} {n : Nat} {b c : Int} (h : CountEnds s a m w e w') (hl : lcount s.data.toList a m = (n, b, c)) : e = .returned (.tuple #[.int .i64 n, .int .i64 b, .int .i64 c]) ∧ Below w.heap.size w w' := by
  obtain ⟨h1, h2⟩ := h
  rw [hl] at h1
  exact ⟨h1, h2⟩
theorem TextEnds.mk {r : List UInt8 × Int × Int} {w w' : World} {s : ByteArray} {l : List UInt8} {b c : Int} (h : r = (l, b, c)) (hs : s = strB l) (hb : Below w.heap.size w w') : TextEnds r w (.returned (.tuple #[.string s, .int .i64 b, .int .i64 c])) w' :=
  ⟨by rw [h, hs], hb⟩
theorem TextEnds.to {r : List UInt8 × Int × Int} {w w' : World} {e : Ending} {l : List UInt8} {b c : Int} (h : TextEnds r w e w') (hl : r = (l, b, c)) : e = .returned (.tuple #[.string (strB l), .int .i64 b, .int .i64 c]) ∧ Below w.heap.size w w' := by
  obtain ⟨h1, h2⟩ := h
  rw [hl] at h1
  exact ⟨h1, h2⟩

set_option maxRecDepth 100000 in
theorem raw_any (s : ByteArray) (a : Nat) (n : Int) (hs : s.size ≤ 1073741824) (ha : a ≤ s.size) (w : World) :
    Calls Try.prog 51 #[.agg #[.string s, .int .i64 a], .int .i64 n] w (TextEnds (lraw s.data.toList a n) w) := by
  have bP := Blk.new w 54 #[.string s, .int .i64 a]
  by_cases h0 : n < 0
  · have HE := Lib.hid (show lraw s.data.toList a n = ([], (a : Int), 1) by unfold lraw; rw [if_pos h0])
    go_enter Try.func51, Try.ntmps51
    go_wp2
    go_quiet (fail)
    go_wp2
    go_ret3
    exact TextEnds.mk HE.out rfl (belowN ((Below.refl _ w).alloc (Nat.le_refl _) _) _)
  · by_cases h1 : (s.size : Int) - a < n
    · have HE := Lib.hid (show lraw s.data.toList a n = ([], (a : Int), 2) by unfold lraw; rw [if_neg h0, if_pos (by rw [str_len]; exact h1)])
      have h2 : ¬ n ≤ (s.size : Int) - a := by omega
      go_enter Try.func51, Try.ntmps51
      go_wp2_with (go_at_call 55; refine (left_any s a hs (by omega) _).mono ?_; rintro e w1 ⟨rfl, hb1⟩; obtain ⟨hc0, hc1⟩ := (bP.below hb1 (by simp)).two)
      go_quiet (fail)
      go_wp2
      go_ret3
      exact TextEnds.mk HE.out rfl (belowN (((Below.refl _ w).alloc (Nat.le_refl _) _).trans (hb1.mono (by simp))) _)
    · obtain ⟨k, rfl⟩ := Int.eq_ofNat_of_zero_le (show 0 ≤ n by omega)
      have HE := Lib.hid (show lraw s.data.toList a (k : Int) = ((s.data.toList.drop a).take k, (a : Int) + (k : Int), 0) by unfold lraw; rw [if_neg h0, if_neg (by rw [str_len]; exact h1)]; simp)
      have h2 : (k : Int) ≤ (s.size : Int) - a := by omega
      have h3 : a + k ≤ s.size := by omega
      have HX := Lib.hid (extract_strB s a (a + k))
      have b1 : (0 : Int) ≤ (a : Int) := by omega
      have b2 : (a : Int) ≤ (a : Int) + (k : Int) := by omega
      have b3 : (a : Int) + (k : Int) ≤ (s.size : Int) := by omega
      have e2 : ((a : Int) + (k : Int)).toNat = a + k := by omega
      go_enter Try.func51, Try.ntmps51
      go_wp2_with (go_at_call 55; refine (left_any s a hs (by omega) _).mono ?_; rintro e w1 ⟨rfl, hb1⟩; obtain ⟨hc0, hc1⟩ := (bP.below hb1 (by simp)).two)
      go_ret3
      refine TextEnds.mk HE.out (HX.out.trans (by rw [Nat.add_sub_cancel_left])) (((Below.refl _ w).alloc (Nat.le_refl _) _).trans (hb1.mono (by simp)))

theorem lcount_err {l : List UInt8} {a m : Int} (h : (lget l a).2.2 ≠ 0) : lcount l a m = (0, a, (lget l a).2.2) := by unfold lcount; rw [if_pos h]
theorem lcount_large {l : List UInt8} {a m : Int} (h : (lget l a).2.2 = 0) (hm : m < 0 ∨ m < (lget l a).1) : lcount l a m = (0, a, 4) := by unfold lcount; rw [if_neg (by omega), if_pos hm]
theorem lcount_ok {l : List UInt8} {a m : Int} (h : (lget l a).2.2 = 0) (h0 : 0 ≤ m) (h1 : (lget l a).1 ≤ m) : lcount l a m = lget l a := by unfold lcount; rw [if_neg (by omega), if_neg (by omega)]
theorem wrap_u64_of {n : Int} (h0 : 0 ≤ n) (h1 : n ≤ 9223372036854775807) : IntKind.u64.wrap n = n := by rw [IntKind.wrap_u64]; omega
theorem wrap_i64_of {n : Int} (h0 : 0 ≤ n) (h1 : n ≤ 9223372036854775807) : IntKind.i64.wrap n = n := by rw [IntKind.wrap_i64]; omega

set_option maxRecDepth 100000 in
theorem count_any (s : ByteArray) (a : Int) (m : Int) (hs : s.size ≤ 1073741824) (hm1 : m ≤ 9223372036854775807) (w : World) :
    Calls Try.prog 53 #[.agg #[.string s, .int .i64 a], .int .i64 m] w (CountEnds s a m w) := by
  have bP := Blk.new w 54 #[.string s, .int .i64 a]
  have hg := num_any s a hs
  have hle := lget_fst_le s.data.toList a
  by_cases he : (lget s.data.toList a).2.2 = 0
  · by_cases h0 : m < 0
    · have HE := Lib.hid (lcount_large (m := m) he (.inl h0))
      obtain ⟨⟨n, b, c⟩, hl⟩ : ∃ t, lget s.data.toList a = t := ⟨_, rfl⟩
      rw [hl] at he
      simp only at he
      subst he
      have HG := Lib.hid hg
      have HL := Lib.hid hl
      clear hl hg hle
      go_enter Try.func53, Try.ntmps53
      go_wp2_with (go_at_call 57; refine (HG.out _).mono ?_; intro e w1 hq; obtain ⟨rfl, hb1⟩ := hq.to HL.out; clear hq; obtain ⟨hc0, hc1⟩ := (bP.below hb1 (by simp)).two)
      go_quiet (fail)
      go_wp2
      go_ret3
      exact CountEnds.mk HE.out rfl (belowN (((Below.refl _ w).alloc (Nat.le_refl _) _).trans (hb1.mono (by simp))) _)
    · have hw := wrap_u64_of (n := m) (by omega) hm1
      by_cases h1 : m < (lget s.data.toList a).1
      · have HE := Lib.hid (lcount_large (m := m) he (.inr h1))
        obtain ⟨⟨n, b, c⟩, hl⟩ : ∃ t, lget s.data.toList a = t := ⟨_, rfl⟩
        rw [hl] at he h1
        simp only at he h1
        subst he
        have HG := Lib.hid hg
        have HL := Lib.hid hl
        clear hl hg hle
        go_enter Try.func53, Try.ntmps53
        go_wp2_with (go_at_call 57; refine (HG.out _).mono ?_; intro e w1 hq; obtain ⟨rfl, hb1⟩ := hq.to HL.out; clear hq; obtain ⟨hc0, hc1⟩ := (bP.below hb1 (by simp)).two)
        go_quiet (fail)
        go_wp2
        go_ret3
        exact CountEnds.mk HE.out rfl (belowN (((Below.refl _ w).alloc (Nat.le_refl _) _).trans (hb1.mono (by simp))) _)
      · have HE := Lib.hid (lcount_ok (m := m) he (by omega) (by omega))
        obtain ⟨⟨n, b, c⟩, hl⟩ : ∃ t, lget s.data.toList a = t := ⟨_, rfl⟩
        rw [hl] at he h1 HE
        simp only at he h1
        subst he
        have hw2 := wrap_i64_of (n := (n : Int)) (by omega) (by omega)
        have HG := Lib.hid hg
        have HL := Lib.hid hl
        clear hl hg hle
        go_enter Try.func53, Try.ntmps53
        go_wp2_with (go_at_call 57; refine (HG.out _).mono ?_; intro e w1 hq; obtain ⟨rfl, hb1⟩ := hq.to HL.out; clear hq; obtain ⟨hc0, hc1⟩ := (bP.below hb1 (by simp)).two)
        go_ret3
        exact CountEnds.mk HE.out rfl (((Below.refl _ w).alloc (Nat.le_refl _) _).trans (hb1.mono (by simp)))
  · have HE := Lib.hid (lcount_err (m := m) he)
    obtain ⟨h1, h2⟩ := lget_err s.data.toList a he
    obtain ⟨⟨n, b, c⟩, hl⟩ : ∃ t, lget s.data.toList a = t := ⟨_, rfl⟩
    rw [hl] at h1 h2 he HE
    simp only at h1 h2 he HE
    subst h1 h2
    have he' : (c == 0) = false := by simpa using he
    have he2 : (c != 0) = true := by simpa using he
    have HG := Lib.hid hg
    have HL := Lib.hid hl
    clear hl hg hle he
    go_enter Try.func53, Try.ntmps53
    go_wp2_with (go_at_call 57; refine (HG.out _).mono ?_; intro e w1 hq; obtain ⟨rfl, hb1⟩ := hq.to HL.out; clear hq; obtain ⟨hc0, hc1⟩ := (bP.below hb1 (by simp)).two)
    go_quiet (fail)
    go_wp2
    go_ret3
    exact CountEnds.mk HE.out rfl (belowN (((Below.refl _ w).alloc (Nat.le_refl _) _).trans (hb1.mono (by simp))) _)

theorem lcount_range (l : List UInt8) (a m : Int) (h : (lcount l a m).2.2 = 0) : 0 ≤ a ∧ a < (lcount l a m).2.1 ∧ (lcount l a m).2.1 ≤ l.length ∧ (lcount l a m).1 ≤ m ∧ lcount l a m = lget l a := by
  unfold lcount at *
  by_cases c1 : (lget l a).2.2 ≠ 0
  · rw [if_pos c1] at h; exact absurd h c1
  · rw [if_neg c1] at h ⊢
    split at h
    · simp at h
    · rename_i c2
      rw [if_neg c2]
      obtain ⟨h1, h2, h3, -⟩ := lget_only l a h
      exact ⟨h1, h2, h3, by omega, rfl⟩

end Go.Proofs.Ythimplhfmamejaa.Wire
