/-
  The Go text of the document's own Turn, walked: a text with bits of it turned.
-/
import Derived.Lib.ConvBytes
import Derived.Laws.IdiomStrings
import Derived.Test.YthimplhfmamejaaCrcTail
namespace Go.Proofs.Ythimplhfmamejaa.Crc
open Go.RowKit

/-- A row of bytes. -/
def Row (w : World) (h : Nat) (l : List UInt8) : Prop := ∀ j (hj : j < l.length), w.cell? ⟨h, j, none⟩ = some (.int .u8 (l[j].toNat : Int)) ∧ w.frozen? ⟨h, j, none⟩ = false

theorem Row.turn {w : World} {h : Nat} {l : List UInt8} (hr : Row w h l) (k : Nat) (hk : k < l.length) (m : UInt8) : Row (w.setCell ⟨h, k, none⟩ (.int .u8 ((l[k] ^^^ m).toNat : Int))) h (l.set k (l[k] ^^^ m)) := by
  intro j hj
  rw [List.length_set] at hj
  refine ⟨?_, by rw [World.frozen?_setCell]; exact (hr j hj).2⟩
  by_cases e : k = j
  · subst e
    rw [World.cell?_setCell_same _ _ _ (hr k hk).1, List.getElem_set_self]
  · rw [World.cell?_setCell_other _ _ _ _ (fun h => by have := congrArg Addr.off h; simp at this; omega), (hr j hj).1, List.getElem_set_ne e]

theorem bytes_of (s : ByteArray) (w : World) : ∃ cap W, (convert 9 42 (.string s)).run Try.prog w = .ok (.slice (some ⟨w.heap.size, 0, none⟩) s.size cap) W ∧ Below w.heap.size w W ∧ Row W w.heap.size s.data.toList := by
  refine ⟨_, _, Lib.run_convert_string_bytes w 9 42 5 s Try.underlying9 Try.underlying42 Try.underlying5, ⟨?_, ?_, ?_, ?_, ?_⟩, ?_⟩
  · rfl
  · rfl
  · rfl
  · rw [Lib.bytesWorld_size]; omega
  · intro k hk
    exact Lib.bytesWorld_at_old w _ s k hk
  · intro j hj
    have hj' : j < s.size := by simpa using hj
    constructor
    · rw [Lib.bytesWorld_cell w _ s j hj']
      simp [List.getD, hj']
    · have hc : j < (Lib.bytesCells w 5 s).size := by simp [Lib.bytesCells]; omega
      simp only [World.frozen?, Lib.bytesWorld_at_new]
      simp only [Bool.and_eq_false_iff, decide_eq_false_iff_not]
      left
      omega

theorem row_string (W : World) (h n cap : Nat) (l : List UInt8) (hl : l.length = n) (hr : Row W h l) :
    (convert 42 9 (.slice (some ⟨h, 0, none⟩) n cap)).run Try.prog W = .ok (.string ⟨l.toArray⟩) W := by
  rw [← Bytes.str_nums]
  refine run_convert_bytes_arg W _ _ Try.underlying42 Try.underlying5 h 0 n cap (Bytes.nums l) (by rw [Bytes.nums_len, hl]) (fun i hi => ?_) _ Try.underlying9
  have hi' : i < l.length := by omega
  rw [Nat.zero_add, (hr i hi').1]
  simp [Bytes.nums, hi']

/-- The bits that were asked behind i rounds, in a text of n bits from there on. -/
def asked (bits i n : Nat) : Nat := bits % 2 ^ i % 2 ^ n

theorem asked_bit (bits i n j : Nat) : (asked bits i n).testBit j = (decide (j < n) && (decide (j < i) && bits.testBit j)) := by
  unfold asked
  rw [Nat.testBit_mod_two_pow, Nat.testBit_mod_two_pow]

theorem bit_of (bits i : Nat) : bits / 2 ^ i % 2 = (bits.testBit i).toNat := by rw [Nat.testBit_eq_decide_div_mod_eq]; rcases Nat.mod_two_eq_zero_or_one (bits / 2 ^ i) with h | h <;> simp [h]

theorem asked_yes {bits i n : Nat} (h : bits / 2 ^ i % 2 = 1) (hn : i < n) : asked bits (i + 1) n = asked bits i n ^^^ 2 ^ i := by
  have hb : bits.testBit i = true := by rw [Nat.testBit_eq_decide_div_mod_eq, h]; rfl
  apply Nat.eq_of_testBit_eq
  intro j
  rw [Nat.testBit_xor, asked_bit, asked_bit, Nat.testBit_two_pow]
  by_cases e : i = j
  · subst e
    simp [hn, hb]
  · have : (j < i + 1) = (j < i) := by rw [eq_iff_iff]; omega
    simp [this, e]

theorem asked_no {bits i n : Nat} (h : ¬ (bits / 2 ^ i % 2 = 1 ∧ i < n)) : asked bits (i + 1) n = asked bits i n := by
  apply Nat.eq_of_testBit_eq
  intro j
  rw [asked_bit, asked_bit]
  by_cases e : j = i
  · subst e
    by_cases hb : bits.testBit j = true
    · have hn : ¬ j < n := fun hn => h ⟨by rw [bit_of, hb]; rfl, hn⟩
      simp [hn]
    · simp [hb]
  · have : (j < i + 1) = (j < i) := by rw [eq_iff_iff]; omega
    simp only [this]

/-- The text behind i rounds. -/
def Round (s l : List UInt8) (a bits i : Nat) : Prop := l.length = s.length ∧ val l = val s ^^^ 2 ^ a * asked bits i (8 * s.length - a)

theorem Round.start (s : List UInt8) (a bits : Nat) : Round s s a bits 0 := ⟨rfl, by simp [asked, Nat.mod_one]⟩
theorem Round.skip {s l : List UInt8} {a bits i : Nat} (h : Round s l a bits i) (hn : ¬ (bits / 2 ^ i % 2 = 1 ∧ i < 8 * s.length - a)) : Round s l a bits (i + 1) := ⟨h.1, by rw [asked_no hn]; exact h.2⟩
theorem Round.turned {s l : List UInt8} {a bits : Nat} (h : Round s l a bits 32) (hb : bits < 4294967296) : Turned s l a bits := by
  refine ⟨h.1, ?_⟩
  have := h.2
  unfold asked at this
  rwa [Nat.mod_eq_of_lt (show bits < 2 ^ 32 from hb)] at this

theorem two_byte (k : Nat) : (UInt8.ofNat (2 ^ (k % 8))).toNat = 2 ^ (k % 8) := ofNat_byte (show 2 ^ (k % 8) < 2 ^ 8 from Nat.pow_lt_pow_right (by omega) (by omega))

theorem Round.turn {s l : List UInt8} {a bits i k : Nat} (h : Round s l a bits i) (hk : a + i = k) (hb : bits / 2 ^ i % 2 = 1) (hn : k < 8 * s.length) (hkl : k / 8 < l.length) :
    Round s (l.set (k / 8) (l[k / 8] ^^^ UInt8.ofNat (2 ^ (k % 8)))) a bits (i + 1) := by
  refine ⟨by rw [List.length_set]; exact h.1, ?_⟩
  rw [val_set l (k / 8) hkl, two_byte, ← Nat.pow_add, show 8 * (k / 8) + k % 8 = a + i by omega, asked_yes hb (by omega), h.2, Nat.xor_assoc]
  congr 1
  apply Nat.eq_of_testBit_eq
  intro j
  simp only [Nat.testBit_two_pow_mul, Nat.testBit_xor, Nat.testBit_two_pow]
  by_cases hj : a ≤ j
  · have : (a + i = j) = (i = j - a) := by rw [eq_iff_iff]; omega
    simp [hj, this]
  · have : ¬ a + i = j := by omega
    simp [hj, this]

/-- What Turn gives. -/
def TurnEnds (s : ByteArray) (a bits : Nat) (w : World) (e : Ending) (w' : World) : Prop :=
  ∃ l : List UInt8, e = .returned (.string ⟨l.toArray⟩) ∧ Turned s.data.toList l a bits ∧ Below w.heap.size w w'

set_option maxRecDepth 100000 in
set_option maxHeartbeats 2000000 in
theorem Turn_near (s : ByteArray) (hs : s.size ≤ 1073741824) (a bits : Nat) (ha : a ≤ 4611686018427387904) (hb : bits < 4294967296) (w : World) :
    Calls Try.prog 16 #[.string s, .int .i64 (a : Int), .int .u32 (bits : Int)] w (TurnEnds s a bits w) := by
  obtain ⟨cap, W, hcv, hbW, hrW⟩ := bytes_of s w
  have hl : s.data.toList.length = s.size := rfl
  have HL := Lib.hid hl
  clear hl
  go_enter Try.func16, Try.ntmps16
  go_wp2_with fail
  go_loopw [2, 8] (fun n i wr => ∃ (k : Nat) (l : List UInt8), k ≤ 32 ∧ i = .int .i64 k ∧ n = .int .u32 ((bits / 2 ^ k : Nat) : Int) ∧ Round s.data.toList l a bits k ∧ Below w.heap.size w wr ∧ Row wr w.heap.size l) (fun _ i _ => 32 - (intOf i).toNat)
  case atStart => exact ⟨0, _, by omega, rfl, by simp, Round.start _ _ _, hbW, hrW⟩
  case round =>
    obtain ⟨i, l, hi, rfl, rfl, hR, hB, hrow⟩ := hrel
    by_cases hlt : i < 32
    · have hd : decide ((i : Int) < 32) = true := by simp; omega
      obtain ⟨k, hk⟩ : ∃ k, k = a + i := ⟨_, rfl⟩
      have hki : (a : Int) + (i : Int) = (k : Int) := by omega
      have hk0 : 0 ≤ (k : Int) := by omega
      have hk1 : (k : Int) ≤ 4611686018427387936 := by omega
      have HK := Lib.hid hk
      have HD : Hid (bits / 2 ^ (i + 1) = bits / 2 ^ i / 2) := by show _ = _; rw [Nat.pow_succ, Nat.div_div_eq_div_mul]
      have hle : bits / 2 ^ i ≤ bits := Nat.div_le_self _ _
      clear hk
      by_cases hbit : bits / 2 ^ i % 2 = 1
      · have hb1 : (((bits / 2 ^ i : Nat) : Int) % 2 == 1) = true := by rw [beq_iff_eq]; omega
        have HB := Lib.hid hbit
        clear hbit
        by_cases hkn : k < 8 * s.size
        · have hd2 : decide ((k : Int) < 8 * (s.size : Int)) = true := by simp; omega
          generalize hq : bits / 2 ^ i = q at *
          have HQ := Lib.hid hq
          clear hq
          go_wp2_with fail
          go_loop [10, 11] (fun x j => ∃ m : Nat, m ≤ k % 8 ∧ j = .int .i64 m ∧ x = .int .u8 ((2 ^ m : Nat) : Int)) (fun _ j => k % 8 - (intOf j).toNat)
          case atStart => exact ⟨0, by omega, rfl, rfl⟩
          case round =>
            obtain ⟨m, hm, rfl, rfl⟩ := hrel
            have hp : 2 ^ m ≤ 2 ^ 7 := Nat.pow_le_pow_right (by omega) (by omega)
            by_cases hml : m < k % 8
            · have hd3 : decide ((m : Int) < (k : Int) % 8) = true := by simp; omega
              have hp2 : 2 ^ m ≤ 2 ^ 6 := Nat.pow_le_pow_right (by omega) (by omega)
              have HP : Hid (2 ^ (m + 1) = 2 * 2 ^ m) := by show _ = _; rw [Nat.pow_succ, Nat.mul_comm]
              generalize 2 ^ m = p at *
              go_wp2_with fail
              go_round
              case rel => exact ⟨m + 1, by omega, by go_num, by rw [HP.out]; go_num⟩
              case measure => simp [intOf]; omega
            · have hm9 : m = k % 8 := by omega
              have hd3 : decide ((m : Int) < (k : Int) % 8) = false := by simp; omega
              have hkl : k / 8 < l.length := by rw [hR.1, HL.out]; omega
              have hcell := (hrow (k / 8) hkl).1
              have hz := (hrow (k / 8) hkl).2
              have hx : Hid (Go.bits .xor .u8 (l[k / 8].toNat : Int) ((2 ^ m : Nat) : Int) = ((l[k / 8] ^^^ UInt8.ofNat (2 ^ (k % 8))).toNat : Int)) := by
                show _ = _
                rw [UInt8.toNat_xor, two_byte, hm9]
                exact u8_xor_nat _ _ (byte_lt _) (show 2 ^ (k % 8) < 2 ^ 8 from Nat.pow_lt_pow_right (by omega) (by omega))
              have hrow2 := hrow.turn (k / 8) hkl (UInt8.ofNat (2 ^ (k % 8)))
              have HT := Lib.hid (hR.turn (k := k) HK.out.symm (by rw [HQ.out]; exact HB.out) (by rw [HL.out]; exact hkn) hkl)
              have hix0 : 0 ≤ (k : Int) / 8 := by omega
              have hix1 : (k : Int) / 8 < s.size := by omega
              have hixn : ((k : Int) / 8).toNat = k / 8 := by omega
              have H2 := Lib.hid hrow2
              clear hrow2 hcv hrow hR
              generalize l[k / 8] ^^^ UInt8.ofNat (2 ^ (k % 8)) = nb at hx H2 HT
              generalize l[k / 8] = ob at hcell hx
              clear hkl
              generalize 2 ^ m = p at *
              go_wp2_with fail
              go_roundw
              case rel => exact ⟨i + 1, _, by omega, by go_num, int_u32 (by rw [HD.out]; rfl), HT.out, hB.setCell (Nat.le_refl _) _, by rw [hx.out]; exact H2.out⟩
              case measure => simp [intOf]; omega
        · have hd2 : decide ((k : Int) < 8 * (s.size : Int)) = false := by simp; omega
          have HT := Lib.hid (hR.skip (fun h => hkn (by have := h.2; have := HK.out; rw [HL.out] at *; omega)))
          clear hcv hR
          generalize bits / 2 ^ i = q at *
          go_wp2_with fail
          go_roundw
          case rel => exact ⟨i + 1, _, by omega, by go_num, int_u32 (by rw [HD.out]; rfl), HT.out, hB, hrow⟩
          case measure => simp [intOf]; omega
      · have hb1 : (((bits / 2 ^ i : Nat) : Int) % 2 == 1) = false := by rw [beq_eq_false_iff_ne]; omega
        have HT := Lib.hid (hR.skip (fun h => hbit h.1))
        clear hbit hcv hR
        generalize bits / 2 ^ i = q at *
        go_wp2_with fail
        go_roundw
        case rel => exact ⟨i + 1, _, by omega, by go_num, int_u32 (by rw [HD.out]; rfl), HT.out, hB, hrow⟩
        case measure => simp [intOf]; omega
    · have hi9 : i = 32 := by omega
      subst hi9
      have hcv2 := row_string _ _ s.size cap _ (hR.1.trans HL.out) hrow
      have HR := Lib.hid (hR.turned hb)
      clear hcv hR hrow
      go_wp2_with fail
      go_ret
      exact ⟨l, rfl, HR.out, hB⟩

theorem far_skip {s l : List UInt8} {a bits i : Nat} (h : Round s l a bits i) (ha : 8 * s.length ≤ a) : Round s l a bits (i + 1) := h.skip (fun ⟨_, hn⟩ => by omega)

set_option maxRecDepth 100000 in
set_option maxHeartbeats 2000000 in
theorem Turn_far (s : ByteArray) (hs : s.size ≤ 1073741824) (a bits : Nat) (ha : 4611686018427387904 < a) (ha2 : a ≤ 9223372036854775807) (hb : bits < 4294967296) (w : World) :
    Calls Try.prog 16 #[.string s, .int .i64 (a : Int), .int .u32 (bits : Int)] w (TurnEnds s a bits w) := by
  obtain ⟨cap, W, hcv, hbW, hrW⟩ := bytes_of s w
  have HL : Hid (s.data.toList.length = s.size) := rfl
  go_enter Try.func16, Try.ntmps16
  go_wp2_with fail
  go_loopw [2, 8] (fun n i wr => ∃ (k : Nat) (l : List UInt8), k ≤ 32 ∧ i = .int .i64 k ∧ n = .int .u32 ((bits / 2 ^ k : Nat) : Int) ∧ Round s.data.toList l a bits k ∧ Below w.heap.size w wr ∧ Row wr w.heap.size l) (fun _ i _ => 32 - (intOf i).toNat)
  case atStart => exact ⟨0, _, by omega, rfl, by simp, Round.start _ _ _, hbW, hrW⟩
  case round =>
    obtain ⟨i, l, hi, rfl, rfl, hR, hB, hrow⟩ := hrel
    by_cases hlt : i < 32
    · have hd : decide ((i : Int) < 32) = true := by simp; omega
      have HD : Hid (bits / 2 ^ (i + 1) = bits / 2 ^ i / 2) := by show _ = _; rw [Nat.pow_succ, Nat.div_div_eq_div_mul]
      have hle : bits / 2 ^ i ≤ bits := Nat.div_le_self _ _
      have HT := Lib.hid (far_skip hR (by rw [HL.out]; omega))
      obtain ⟨z, hz⟩ : ∃ z, wrap64 ((a : Int) + (i : Int)) = z := ⟨_, rfl⟩
      have hzz : z < 0 ∨ 8589934592 < z := by
        rw [← hz]
        simp only [wrap64]
        omega
      clear hcv hR
      by_cases hbit : bits / 2 ^ i % 2 = 1
      · have hb1 : (((bits / 2 ^ i : Nat) : Int) % 2 == 1) = true := by rw [beq_iff_eq]; omega
        clear hbit
        generalize bits / 2 ^ i = q at *
        rcases hzz with hzz | hzz
        · have hd1 : decide (0 ≤ z) = false := by simp; omega
          go_wp2_with fail
          go_roundw
          case rel => exact ⟨i + 1, _, by omega, by go_num, int_u32 (by rw [HD.out]; rfl), HT.out, hB, hrow⟩
          case measure => simp [intOf]; omega
        · have hd1 : decide (0 ≤ z) = true := by simp; omega
          have hd2 : decide (z < 8 * (s.size : Int)) = false := by simp; omega
          go_wp2_with fail
          go_roundw
          case rel => exact ⟨i + 1, _, by omega, by go_num, int_u32 (by rw [HD.out]; rfl), HT.out, hB, hrow⟩
          case measure => simp [intOf]; omega
      · have hb1 : (((bits / 2 ^ i : Nat) : Int) % 2 == 1) = false := by rw [beq_eq_false_iff_ne]; omega
        clear hbit
        generalize bits / 2 ^ i = q at *
        go_wp2_with fail
        go_roundw
        case rel => exact ⟨i + 1, _, by omega, by go_num, int_u32 (by rw [HD.out]; rfl), HT.out, hB, hrow⟩
        case measure => simp [intOf]; omega
    · have hi9 : i = 32 := by omega
      subst hi9
      have hcv2 := row_string _ _ s.size cap _ (hR.1.trans HL.out) hrow
      have HR := Lib.hid (hR.turned hb)
      clear hcv hR hrow
      go_wp2_with fail
      go_ret
      exact ⟨l, rfl, HR.out, hB⟩

theorem Turn_any (s : ByteArray) (hs : s.size ≤ 1073741824) (a bits : Nat) (ha : a ≤ 9223372036854775807) (hb : bits < 4294967296) (w : World) :
    Calls Try.prog 16 #[.string s, .int .i64 (a : Int), .int .u32 (bits : Int)] w (TurnEnds s a bits w) := by
  by_cases h : a ≤ 4611686018427387904
  · exact Turn_near s hs a bits h hb w
  · exact Turn_far s hs a bits (by omega) ha hb w

end Go.Proofs.Ythimplhfmamejaa.Crc
