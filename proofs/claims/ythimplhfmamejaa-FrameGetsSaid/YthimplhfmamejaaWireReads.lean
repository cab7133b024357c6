/-
  Package wire: what a reader reads, walked.
-/
import Derived.Test.YthimplhfmamejaaWireRead
namespace Go.Proofs.Ythimplhfmamejaa.Wire
open Go.RowKit Leb Mem

set_option maxRecDepth 100000 in
theorem Byte_ok (a : Nat) (s : ByteArray) (p : Nat) (er0 : Int) (w : World) (hs : s.size ≤ 1073741824) (hp : p < s.size) (h : Rd w a s p er0) :
    Calls Try.prog 38 #[.pointer (some ⟨a, 0, none⟩)] w (RdEnds a s p er0 (.int .u8 s[p].toNat) (.int .u8 0) ((p : Int) + 1) 0 w) := by
  obtain ⟨hc0, hc1, hc2⟩ := h.three
  have HP := Lib.hid (fun W => one_ok s p hs hp W)
  have HF := Lib.hid (fun W hW => found_u8_any a s p er0 ((p : Int) + 1) 0 s[p].toNat W hW)
  go_enter Try.func38, Try.ntmps38
  go_wp2_with (first | (go_at_call 48; refine (HP.out _).mono ?_; rintro e w1 ⟨rfl, hb1⟩) | (go_at_call 49; refine (HF.out _ (h.below hb1 h.lt)).mono ?_; intro e w2 hq; have hq := hq.pre hb1; obtain ⟨he, hr, hk⟩ := hq; subst he))
  go_ret
  exact ⟨rfl, hr, hk⟩

set_option maxRecDepth 100000 in
theorem Byte_no (a : Nat) (s : ByteArray) (er0 : Int) (w : World) (hs : s.size ≤ 1073741824) (h : Rd w a s s.size er0) :
    Calls Try.prog 38 #[.pointer (some ⟨a, 0, none⟩)] w (RdEnds a s s.size er0 (.int .u8 0) (.int .u8 0) s.size 2 w) := by
  obtain ⟨hc0, hc1, hc2⟩ := h.three
  have HP := Lib.hid (fun W => one_no s hs W)
  have HF := Lib.hid (fun W hW => found_u8_any a s s.size er0 s.size 2 0 W hW)
  go_enter Try.func38, Try.ntmps38
  go_wp2_with (first | (go_at_call 48; refine (HP.out _).mono ?_; rintro e w1 ⟨rfl, hb1⟩) | (go_at_call 49; refine (HF.out _ (h.below hb1 h.lt)).mono ?_; intro e w2 hq; have hq := hq.pre hb1; obtain ⟨he, hr, hk⟩ := hq; subst he))
  go_ret
  exact ⟨rfl, hr, hk⟩

set_option maxRecDepth 100000 in
theorem RCount_any (a : Nat) (s : ByteArray) (p : Nat) (er0 : Int) (m : Int) (w : World) (hs : s.size ≤ 1073741824) (hm : m ≤ 9223372036854775807) (h : Rd w a s p er0) :
    Calls Try.prog 40 #[.pointer (some ⟨a, 0, none⟩), .int .i64 m] w (RdEnds a s p er0 (.int .i64 (lcount s.data.toList p m).1) (.int .i64 0) (lcount s.data.toList p m).2.1 (lcount s.data.toList p m).2.2 w) := by
  obtain ⟨hc0, hc1, hc2⟩ := h.three
  have HP := Lib.hid (fun W => count_any s p m hs hm W)
  obtain ⟨⟨n, b, c⟩, hl⟩ : ∃ t, lcount s.data.toList p m = t := ⟨_, rfl⟩
  rw [hl]
  have HL := Lib.hid hl
  clear hl
  have HF := Lib.hid (fun W hW => found_i64_any a s p er0 b c n W hW)
  go_enter Try.func40, Try.ntmps40
  go_wp2_with (first | (go_at_call 53; refine (HP.out _).mono ?_; intro e w1 hq; obtain ⟨rfl, hb1⟩ := hq.to HL.out; clear hq) | (go_at_call 54; refine (HF.out _ (h.below hb1 h.lt)).mono ?_; intro e w2 hq; have hq := hq.pre hb1; obtain ⟨he, hr, hk⟩ := hq; subst he))
  go_ret
  exact ⟨rfl, hr, hk⟩

set_option maxRecDepth 100000 in
theorem RRaw_any (a : Nat) (s : ByteArray) (p : Nat) (er0 : Int) (m : Int) (w : World) (hs : s.size ≤ 1073741824) (hp : p ≤ s.size) (h : Rd w a s p er0) :
    Calls Try.prog 39 #[.pointer (some ⟨a, 0, none⟩), .int .i64 m] w (RdEnds a s p er0 (.string (strB (lraw s.data.toList p m).1)) (.string ⟨#[]⟩) (lraw s.data.toList p m).2.1 (lraw s.data.toList p m).2.2 w) := by
  obtain ⟨hc0, hc1, hc2⟩ := h.three
  have HP := Lib.hid (fun W => raw_any s p m hs hp W)
  obtain ⟨⟨n, b, c⟩, hl⟩ : ∃ t, lraw s.data.toList p m = t := ⟨_, rfl⟩
  rw [hl]
  have HL := Lib.hid hl
  clear hl
  have HF := Lib.hid (fun W hW => found_str_any a s p er0 b c (strB n) W hW)
  go_enter Try.func39, Try.ntmps39
  go_wp2_with (first | (go_at_call 51; refine (HP.out _).mono ?_; intro e w1 hq; obtain ⟨rfl, hb1⟩ := hq.to HL.out; clear hq) | (go_at_call 52; refine (HF.out _ (h.below hb1 h.lt)).mono ?_; intro e w2 hq; have hq := hq.pre hb1; obtain ⟨he, hr, hk⟩ := hq; subst he))
  go_ret
  exact ⟨rfl, hr, hk⟩

/-- What End tells. -/
def endOf (s : ByteArray) (p er : Int) : Int := if er ≠ 0 then er else if p < s.size then 5 else 0

set_option maxRecDepth 100000 in
theorem End_any (a : Nat) (s : ByteArray) (p : Nat) (er : Int) (w : World) (hs : s.size ≤ 1073741824) (hp : p ≤ s.size) (h : Rd w a s p er) :
    Calls Try.prog 41 #[.pointer (some ⟨a, 0, none⟩)] w fun e w' => e = .returned (.int .i64 (endOf s p er)) ∧ Below w.heap.size w w' := by
  obtain ⟨hc0, hc1, hc2⟩ := h.three
  have HP := Lib.hid (fun W => left_any s p hs hp W)
  by_cases h0 : er = 0
  · subst h0
    by_cases h1 : p < s.size
    · have HE := Lib.hid (show endOf s p 0 = 5 by unfold endOf; rw [if_neg (by omega), if_pos (by omega)])
      have hd : (0 : Int) < (s.size : Int) - p := by omega
      go_enter Try.func41, Try.ntmps41
      go_wp2_with (go_at_call 55; refine (HP.out _).mono ?_; rintro e w1 ⟨rfl, hb1⟩)
      go_ret
      exact ⟨by rw [HE.out]; rfl, hb1⟩
    · have HE := Lib.hid (show endOf s p 0 = 0 by unfold endOf; rw [if_neg (by omega), if_neg (by omega)])
      have hd : (s.size : Int) - p ≤ 0 := by omega
      go_enter Try.func41, Try.ntmps41
      go_wp2_with (go_at_call 55; refine (HP.out _).mono ?_; rintro e w1 ⟨rfl, hb1⟩)
      go_ret
      exact ⟨by rw [HE.out]; rfl, hb1⟩
  · have HE := Lib.hid (show endOf s p er = er by unfold endOf; rw [if_pos h0])
    have he' : (er == 0) = false := by simpa using h0
    have he2 : (er != 0) = true := by simpa using h0
    clear h0
    go_enter Try.func41, Try.ntmps41
    go_wp2
    go_ret
    exact ⟨by rw [HE.out]; rfl, Below.refl _ _⟩

end Go.Proofs.Ythimplhfmamejaa.Wire
