/-
  The document's own Go text for layer 1, walked: bytes, value, Get.
-/
import Derived.Test.YthimplhfmamejaaLebRef
namespace Go.Proofs.Ythimplhfmamejaa.Leb
open Go.RowKit

/-- The first k bytes from a place on are no last ones. -/
def Highs (r : List UInt8) (k : Nat) : Prop := ∀ j (_ : j < r.length), j < k → 128 ≤ r[j].toNat

theorem drop_at (s : ByteArray) (a k : Nat) (h : a + k < s.size) : (s.data.toList.drop a).drop k = (s[a + k]'h) :: (s.data.toList.drop a).drop (k + 1) := by
  have hl : a + k < s.data.toList.length := by rw [Array.length_toList]; exact h
  rw [List.drop_drop, List.drop_drop, List.drop_eq_getElem_cons hl]
  rfl

theorem str_len (s : ByteArray) : s.data.toList.length = s.size := by rw [Array.length_toList]; rfl
theorem drop_len (s : ByteArray) (a : Nat) : (s.data.toList.drop a).length = s.size - a := by rw [List.length_drop, str_len]
theorem drop_end (s : ByteArray) (a k : Nat) (h : s.size ≤ a + k) : (s.data.toList.drop a).drop k = [] := by
  rw [List.drop_drop]; exact List.drop_eq_nil_of_le (by rw [str_len]; exact h)

theorem Highs.zero (r : List UInt8) : Highs r 0 := fun _ _ h => by omega
theorem Highs.next {s : ByteArray} {a k : Nat} (h : Highs (s.data.toList.drop a) k) (hk : a + k < s.size) (hb : 128 ≤ ((s[a + k]'hk).toNat : Int)) : Highs (s.data.toList.drop a) (k + 1) := fun j hj hjk => by
  by_cases e : j = k
  · subst e
    have h1 := List.drop_eq_getElem_cons hj
    rw [drop_at s a j hk] at h1
    have h2 := (List.cons.inj h1).1
    rw [← h2]
    omega
  · exact h j hj (by omega)

theorem lbytes_at {r : List UInt8} {k f : Nat} (h : Highs r k) (hf : k + f = 10) (hk : k ≤ r.length) : lbytes 10 r = if lbytes f (r.drop k) = 0 then 0 else lbytes f (r.drop k) + k := by
  rw [← hf]; exact lbytes_snoc_hi k f r hk h
theorem lbytes_hit {s : ByteArray} {a k : Nat} (h : Highs (s.data.toList.drop a) k) (hk : k < 10) (hak : a + k < s.size) (hb : ((s[a + k]'hak).toNat : Int) < 128) : lbytes 10 (s.data.toList.drop a) = k + 1 := by
  have e : lbytes (9 - k + 1) ((s.data.toList.drop a).drop k) = 1 := by
    rw [drop_at s a k hak]
    simp only [lbytes]
    rw [if_pos (by omega)]
  rw [lbytes_at h (f := 9 - k + 1) (by omega) (by rw [drop_len]; omega)]
  simp only [e]
  rw [if_neg (by decide)]
  omega
theorem lbytes_ten {s : ByteArray} {a k : Nat} (h : Highs (s.data.toList.drop a) k) (hk : k = 10) (hak : a + k ≤ s.size) : lbytes 10 (s.data.toList.drop a) = 0 := by
  rw [lbytes_at h (f := 0) (by omega) (by rw [drop_len]; omega)]
  simp [lbytes]
theorem lbytes_short {s : ByteArray} {a k : Nat} (h : Highs (s.data.toList.drop a) k) (hk : k < 10) (hak : a + k = s.size) : lbytes 10 (s.data.toList.drop a) = 0 := by
  rw [lbytes_at h (f := 9 - k + 1) (by omega) (by rw [drop_len]; omega), drop_end s a k (by omega)]
  simp [lbytes]
theorem ret_int {k : IntKind} {a b : Int} (h : a = b) : Ending.returned (.int k a) = .returned (.int k b) := by rw [h]

set_option maxRecDepth 100000 in
set_option maxHeartbeats 400000 in
theorem ref_bytes (s : ByteArray) (a : Nat) (ha : a ≤ s.size) (hs : s.size ≤ 1073741824) (w : World) :
    Calls Try.prog 42 #[.string s, .int .i64 a] w fun e w' => e = .returned (.int .i64 (lbytes 10 (s.data.toList.drop a))) ∧ w = w' := by
  go_enter Try.func42, Try.ntmps42
  go_wp2
  go_loop [5] (fun v => ∃ k : Nat, k ≤ 10 ∧ a + k ≤ s.size ∧ v = .int .i64 k ∧ Hid (Highs (s.data.toList.drop a) k)) (fun v => 10 - (intOf v).toNat)
  case atStart => exact ⟨0, by omega, by omega, rfl, Highs.zero _⟩
  case round =>
    obtain ⟨k, hk, hak, rfl, HH⟩ := hrel
    by_cases h1 : k < 10
    · by_cases h2 : a + k < s.size
      · go_wp2
        · have hb : (s[a + k].toNat : Int) < 128 := by assumption
          go_ret
          exact ⟨ret_int (by rw [lbytes_hit HH.out h1 h2 hb]; rfl), rfl⟩
        · have hb : 128 ≤ (s[a + k].toNat : Int) := by assumption
          go_round
          case rel => exact ⟨k + 1, by omega, by omega, by go_num, HH.out.next h2 hb⟩
          case measure => simp [intOf]; omega
      · go_wp2
        go_ret
        exact ⟨ret_int (by rw [lbytes_short HH.out h1 (by omega)]; rfl), rfl⟩
    · go_wp2
      go_ret
      exact ⟨ret_int (by rw [lbytes_ten HH.out (by omega) hak]; rfl), rfl⟩

/-- What bytes come to, modulo 2 to the 64th. -/
def mval (l : List UInt8) : Nat := lval l % 18446744073709551616
theorem mval_le (l : List UInt8) : (mval l : Int) ≤ 18446744073709551615 := by unfold mval; omega
theorem mval_nil : mval [] = 0 := rfl
theorem mval_cons (b : UInt8) (l : List UInt8) : ((mval (b :: l) : Nat) : Int) = ((mval l : Int) * 128 + (b.toNat : Int) % 128) % 18446744073709551616 := by
  unfold mval
  simp only [lval]
  omega

theorem value_step (m b : Int) (hb : 0 ≤ b ∧ b ≤ 255) : IntKind.u64.wrap (IntKind.u64.wrap (m * 128) + (IntKind.u64.wrap b).tmod 128) = (m * 128 + b % 128) % 18446744073709551616 := by
  rw [IntWalk.u64_in b (by omega), Int.tmod_eq_emod_of_nonneg hb.1, IntKind.wrap_u64, IntKind.wrap_u64]
  omega
theorem drop_zero (s : ByteArray) (j : Nat) (h : j < s.size) : s.data.toList.drop j = (s[j]'h) :: s.data.toList.drop (j + 1) := by
  have hl : j < s.data.toList.length := by rw [str_len]; exact h
  rw [List.drop_eq_getElem_cons hl]
  rfl

set_option maxRecDepth 100000 in
set_option maxHeartbeats 400000 in
theorem ref_value (s : ByteArray) (hs : s.size ≤ 1073741824) (w : World) :
    Calls Try.prog 43 #[.string s] w fun e w' => e = .returned (.int .u64 (mval s.data.toList)) ∧ w = w' := by
  go_enter Try.func43, Try.ntmps43
  go_wp2
  go_loop [3, 4] (fun n v => ∃ k : Nat, k ≤ s.size ∧ v = .int .i64 ((k : Int) - 1) ∧ n = .int .u64 (mval (s.data.toList.drop k))) (fun _ v => (intOf v + 1).toNat)
  case atStart => exact ⟨s.size, by omega, rfl, by rw [List.drop_eq_nil_of_le (by rw [str_len]; omega)]; rfl⟩
  case round =>
    obtain ⟨k, hk, rfl, rfl⟩ := hrel
    have hm := mval_le (s.data.toList.drop k)
    rcases Nat.eq_zero_or_pos k with h0 | h0
    · subst h0
      go_wp2
      go_ret
      exact ⟨rfl, rfl⟩
    · obtain ⟨j, rfl⟩ : ∃ j, k = j + 1 := ⟨k - 1, by omega⟩
      go_wp2
      go_round
      case rel =>
        refine ⟨j, by omega, rfl, ?_⟩
        rw [value_step _ _ ⟨by omega, by have := s[j].toNat_lt; omega⟩, drop_zero s j (by omega), mval_cons]
      case measure => simp [intOf]

end Go.Proofs.Ythimplhfmamejaa.Leb
