/-
  Plain facts on the sum of layer 3: the register's steps are linear, and have a way back. No program is met here.
  The Go text of package crc, walked: a bit's step; the table's steps, filled in.
  The Go text of package crc, walked: a table, made when it is first asked (sync.Once, one goroutine).
  The Go text of package crc, walked: a new table; the sum of a text; and the reference's.
  The Go text of package crc, walked: a text's tail, and whether it ends with it.
  The Go text of the document's own Turn, walked: a text with bits of it turned.
-/
import Derived.Below
import Derived.Lib.Hide
import Derived.WalkKit
import Derived.OwnWalkIn
import Derived.LoopTactic
import Derived.Laws.BitsAllLaws
import Derived.Outline
import Derived.Test.YtfjdbbhaigjbmaaGreatRows
import Derived.Tactics
import Derived.Tactics2
import Derived.Defers
import Derived.Laws.Pointers
import Derived.Laws.LoneSync
import Derived.RegionTactic
import Derived.RegionCalls
import Derived.Laws.Tables
import Derived.Laws.NewBlocks
import Derived.Laws.BytesArg
import Derived.Test.YtfjdbbhaigjbmaaGreatBaseG
import Derived.Deep.RegionHeld3
import Derived.Lib.Strings
import Derived.BigQuiet
import Derived.Deep.QuietTactic
import Derived.Lib.ConvBytes
import Derived.Laws.IdiomStrings
namespace Go.Proofs.YtfjdbbhaigjbmaaGreat.Crc

/-- The register behind one bit that was laid into it. -/
def step (c : Nat) : Nat := if c % 2 = 1 then c / 2 ^^^ 3988292384 else c / 2
/-- Behind so many bits. -/
def steps : Nat → Nat → Nat
  | 0, c => c
  | n + 1, c => steps n (step c)

theorem step_odd {c : Nat} (h : c % 2 = 1) : step c = c / 2 ^^^ 3988292384 := if_pos h
theorem step_even {c : Nat} (h : ¬ c % 2 = 1) : step c = c / 2 := if_neg h

theorem xor_div2 (a b : Nat) : (a ^^^ b) / 2 = a / 2 ^^^ b / 2 := by
  apply Nat.eq_of_testBit_eq
  intro i
  simp [Nat.testBit_div_two]
theorem xor_mod2 (a b : Nat) : (a ^^^ b) % 2 = (a % 2 + b % 2) % 2 := by
  have h := Nat.testBit_xor (x := a) (y := b) (i := 0)
  simp only [Nat.testBit_zero] at h
  rcases Nat.mod_two_eq_zero_or_one a with ha | ha <;> rcases Nat.mod_two_eq_zero_or_one b with hb | hb <;> rcases Nat.mod_two_eq_zero_or_one (a ^^^ b) with hc | hc <;> simp [ha, hb, hc] at h ⊢

theorem xor_zero_eq {a b : Nat} (h : a ^^^ b = 0) : a = b := by
  have : a ^^^ b ^^^ b = b := by rw [h, Nat.zero_xor]
  rwa [Nat.xor_assoc, Nat.xor_self, Nat.xor_zero] at this
theorem xor_left_eq {a b c : Nat} (h : a ^^^ b = a ^^^ c) : b = c := by
  have : a ^^^ (a ^^^ b) = a ^^^ (a ^^^ c) := by rw [h]
  rwa [← Nat.xor_assoc, ← Nat.xor_assoc, Nat.xor_self, Nat.zero_xor, Nat.zero_xor] at this

theorem step_xor (a b : Nat) : step (a ^^^ b) = step a ^^^ step b := by
  have hm := xor_mod2 a b
  by_cases ha : a % 2 = 1 <;> by_cases hb : b % 2 = 1
  · rw [step_even (by omega), step_odd ha, step_odd hb, xor_div2, show a / 2 ^^^ 3988292384 ^^^ (b / 2 ^^^ 3988292384) = a / 2 ^^^ b / 2 ^^^ (3988292384 ^^^ 3988292384) by ac_rfl, Nat.xor_self, Nat.xor_zero]
  · rw [step_odd (by omega), step_odd ha, step_even hb, xor_div2]; ac_rfl
  · rw [step_odd (by omega), step_even ha, step_odd hb, xor_div2]; ac_rfl
  · rw [step_even (by omega), step_even ha, step_even hb, xor_div2]

theorem steps_xor : ∀ (n a b : Nat), steps n (a ^^^ b) = steps n a ^^^ steps n b
  | 0, _, _ => rfl
  | n + 1, a, b => by simp only [steps]; rw [step_xor, steps_xor n]

theorem step_zero : step 0 = 0 := rfl
theorem steps_zero : ∀ n, steps n 0 = 0
  | 0 => rfl
  | n + 1 => by simp only [steps]; rw [step_zero, steps_zero n]

theorem step_lt {c : Nat} (h : c < 4294967296) : step c < 4294967296 := by
  by_cases hc : c % 2 = 1
  · rw [step_odd hc]; exact Nat.xor_lt_two_pow (n := 32) (show c / 2 < 2 ^ 32 by omega) (by decide)
  · rw [step_even hc]; omega
theorem steps_lt : ∀ (n : Nat) {c : Nat}, c < 4294967296 → steps n c < 4294967296
  | 0, _, h => h
  | n + 1, _, h => by simp only [steps]; exact steps_lt n (step_lt h)

theorem steps_add : ∀ (m n c : Nat), steps (m + n) c = steps n (steps m c)
  | 0, n, c => by rw [Nat.zero_add]; rfl
  | m + 1, n, c => by rw [show m + 1 + n = (m + n) + 1 by omega]; simp only [steps]; exact steps_add m n (step c)
theorem steps_succ (n c : Nat) : steps (n + 1) c = step (steps n c) := by rw [steps_add n 1]; rfl

theorem step_double (y : Nat) : step (2 * y) = y := by rw [step_even (by omega)]; omega
theorem steps_pow : ∀ (n y : Nat), steps n (2 ^ n * y) = y
  | 0, y => by simp [steps]
  | n + 1, y => by
    rw [Nat.pow_succ, Nat.mul_comm (2 ^ n) 2, Nat.mul_assoc]
    simp only [steps]
    rw [step_double, steps_pow n]

theorem step_eq_zero {c : Nat} (h : c < 4294967296) (h0 : step c = 0) : c = 0 := by
  by_cases hc : c % 2 = 1
  · rw [step_odd hc] at h0
    have : c / 2 = 3988292384 := xor_zero_eq h0
    omega
  · rw [step_even hc] at h0; omega
theorem steps_eq_zero : ∀ (n : Nat) {c : Nat}, c < 4294967296 → steps n c = 0 → c = 0
  | 0, _, _, h0 => h0
  | n + 1, _, h, h0 => step_eq_zero h (steps_eq_zero n (step_lt h) h0)
theorem xor_lt {a b : Nat} (ha : a < 4294967296) (hb : b < 4294967296) : a ^^^ b < 4294967296 := Nat.xor_lt_two_pow (n := 32) ha hb
theorem steps_inj (n : Nat) {a b : Nat} (ha : a < 4294967296) (hb : b < 4294967296) (h : steps n a = steps n b) : a = b := by
  have : steps n (a ^^^ b) = 0 := by rw [steps_xor, h, Nat.xor_self]
  exact xor_zero_eq (steps_eq_zero n (xor_lt ha hb) this)

/-- The register behind a byte. -/
def next (c b : Nat) : Nat := steps 8 (c ^^^ b)
/-- What a table holds. -/
def tab (x : Nat) : Nat := steps 8 x

theorem low_high (c : Nat) : c = c % 256 ^^^ 2 ^ 8 * (c / 256) := by
  apply Nat.eq_of_testBit_eq
  intro i
  rw [Nat.testBit_xor, show (256 : Nat) = 2 ^ 8 from rfl, Nat.testBit_mod_two_pow, Nat.testBit_two_pow_mul, Nat.testBit_div_two_pow]
  by_cases h : i < 8
  · simp [h, show ¬ 8 ≤ i by omega]
  · simp [h, show 8 ≤ i by omega]

theorem next_tab (c b : Nat) : next c b = tab (c % 256 ^^^ b) ^^^ c / 256 := by
  unfold next tab
  have h : c ^^^ b = (c % 256 ^^^ b) ^^^ 2 ^ 8 * (c / 256) := by
    conv => lhs; rw [low_high c]
    ac_rfl
  rw [h, steps_xor, steps_pow]

theorem xor_byte {a b : Nat} (ha : a < 256) (hb : b < 256) : a ^^^ b < 256 := Nat.xor_lt_two_pow (n := 8) ha hb
theorem tab_lt {x : Nat} (h : x < 4294967296) : tab x < 4294967296 := steps_lt 8 h
theorem next_lt {c b : Nat} (h : c < 4294967296) (hb : b < 256) : next c b < 4294967296 := steps_lt 8 (xor_lt h (by omega))

/-- The register behind a text. -/
def reg (c : Nat) : List UInt8 → Nat
  | [] => c
  | b :: l => reg (next c b.toNat) l
/-- A text's number: its first byte the lowest. -/
def val : List UInt8 → Nat
  | [] => 0
  | b :: l => b.toNat ^^^ 2 ^ 8 * val l

theorem byte_lt (b : UInt8) : b.toNat < 256 := b.toNat_lt
theorem reg_lt : ∀ (l : List UInt8) {c : Nat}, c < 4294967296 → reg c l < 4294967296
  | [], _, h => h
  | b :: l, _, h => reg_lt l (next_lt h (byte_lt b))
theorem reg_append : ∀ (a b : List UInt8) (c : Nat), reg c (a ++ b) = reg (reg c a) b
  | [], _, _ => rfl
  | _ :: a, b, _ => reg_append a b _
theorem reg_snoc (a : List UInt8) (x : UInt8) (c : Nat) : reg c (a ++ [x]) = next (reg c a) x.toNat := by rw [reg_append]; rfl

theorem reg_val : ∀ (l : List UInt8) (c : Nat), reg c l = steps (8 * l.length) (c ^^^ val l)
  | [], c => by
    show c = steps (8 * 0) (c ^^^ 0)
    rw [Nat.mul_zero, Nat.xor_zero]
    rfl
  | b :: l, c => by
    have e : steps 8 (c ^^^ (b.toNat ^^^ 2 ^ 8 * val l)) = steps 8 (c ^^^ b.toNat) ^^^ val l := by
      rw [← Nat.xor_assoc, steps_xor 8 (c ^^^ b.toNat), steps_pow 8 (val l)]
    show reg (next c b.toNat) l = steps (8 * (l.length + 1)) (c ^^^ (b.toNat ^^^ 2 ^ 8 * val l))
    rw [reg_val l, show 8 * (l.length + 1) = 8 + 8 * l.length by omega, steps_add 8 (8 * l.length), e]
    rfl

theorem byte_split {x y : Nat} (hx : x < 256) : (x ^^^ 2 ^ 8 * y) % 256 = x ∧ (x ^^^ 2 ^ 8 * y) / 256 = y := by
  constructor
  · apply Nat.eq_of_testBit_eq
    intro i
    rw [show (256 : Nat) = 2 ^ 8 from rfl, Nat.testBit_mod_two_pow, Nat.testBit_xor, Nat.testBit_two_pow_mul]
    by_cases h : i < 8
    · simp [h, show ¬ 8 ≤ i by omega]
    · simp [h, Nat.testBit_lt_two_pow (show x < 2 ^ i from Nat.lt_of_lt_of_le hx (Nat.pow_le_pow_right (n := 2) (i := 8) (by omega) (by omega)))]
  · apply Nat.eq_of_testBit_eq
    intro i
    rw [show (256 : Nat) = 2 ^ 8 from rfl, Nat.testBit_div_two_pow, Nat.testBit_xor, Nat.testBit_two_pow_mul]
    simp [Nat.testBit_lt_two_pow (show x < 2 ^ (i + 8) from Nat.lt_of_lt_of_le hx (Nat.pow_le_pow_right (n := 2) (i := 8) (by omega) (by omega)))]

theorem val_lt : ∀ l : List UInt8, val l < 2 ^ (8 * l.length)
  | [] => by simp [val]
  | b :: l => by
    simp only [val, List.length_cons]
    have h := val_lt l
    rw [show 8 * (l.length + 1) = 8 * l.length + 8 by omega]
    refine Nat.xor_lt_two_pow (Nat.lt_of_lt_of_le (byte_lt b) (Nat.pow_le_pow_right (n := 2) (i := 8) (by omega) (by omega))) ?_
    rw [Nat.pow_add, Nat.mul_comm]
    exact Nat.mul_lt_mul_of_pos_right h (by decide)

theorem val_inj : ∀ (a b : List UInt8), a.length = b.length → val a = val b → a = b
  | [], [], _, _ => rfl
  | [], _ :: _, h, _ => by simp at h
  | _ :: _, [], h, _ => by simp at h
  | x :: a, y :: b, h, hv => by
    simp only [val] at hv
    have h1 := byte_split (y := val a) (byte_lt x)
    have h2 := byte_split (y := val b) (byte_lt y)
    rw [hv] at h1
    have hx : x.toNat = y.toNat := h1.1.symm.trans h2.1
    have ha : val a = val b := h1.2.symm.trans h2.2
    rw [val_inj a b (by simpa using h) ha, UInt8.toNat_inj.1 hx]

/-- The text with a byte of it turned. -/
theorem val_set : ∀ (l : List UInt8) (j : Nat) (h : j < l.length) (m : UInt8), val (l.set j (l[j] ^^^ m)) = val l ^^^ 2 ^ (8 * j) * m.toNat
  | b :: l, 0, _, m => by
    simp only [List.set_cons_zero, List.getElem_cons_zero, val, Nat.mul_zero, Nat.pow_zero, Nat.one_mul, UInt8.toNat_xor]
    ac_rfl
  | b :: l, j + 1, h, m => by
    simp only [List.set_cons_succ, List.getElem_cons_succ, val]
    rw [val_set l j (by simpa using h) m, show 8 * (j + 1) = 8 + 8 * j by omega, Nat.pow_add 2 8, Nat.mul_assoc]
    rw [Nat.xor_assoc]
    congr 1
    apply Nat.eq_of_testBit_eq
    intro i
    simp only [Nat.testBit_two_pow_mul, Nat.testBit_xor]
    cases decide (8 ≤ i) <;> simp

/-- The sum of a text. -/
def sum (l : List UInt8) : Nat := reg 4294967295 l ^^^ 4294967295
theorem sum_lt (l : List UInt8) : sum l < 4294967296 := xor_lt (reg_lt l (by omega)) (by omega)
theorem xor_all (x : Nat) (h : x < 4294967296) : x ^^^ 4294967295 = 4294967295 - x := by
  apply Nat.eq_of_testBit_eq
  intro i
  rw [show (4294967295 : Nat) - x = 2 ^ 32 - (x + 1) by omega, Nat.testBit_two_pow_sub_succ h, Nat.testBit_xor, show (4294967295 : Nat) = 2 ^ 32 - 1 from rfl, Nat.testBit_two_pow_sub_one]
  by_cases hi : i < 32
  · simp [hi]
  · simp [hi, Nat.testBit_lt_two_pow (show x < 2 ^ i from Nat.lt_of_lt_of_le h (Nat.pow_le_pow_right (n := 2) (i := 32) (by omega) (by omega)))]

/-- A number's four bytes, the lowest first. -/
def four (c : Nat) : List UInt8 := [UInt8.ofNat (c % 256), UInt8.ofNat (c / 256 % 256), UInt8.ofNat (c / 65536 % 256), UInt8.ofNat (c / 16777216 % 256)]
def tail (l : List UInt8) : List UInt8 := four (sum l)
theorem four_len (c : Nat) : (four c).length = 4 := rfl
theorem tail_len (l : List UInt8) : (tail l).length = 4 := rfl

theorem ofNat_byte {n : Nat} (h : n < 256) : (UInt8.ofNat n).toNat = n := by simp; omega

theorem val_four {c : Nat} (h : c < 4294967296) : val (four c) = c := by
  simp only [four, val, Nat.mul_zero, Nat.xor_zero, ofNat_byte (show c % 256 < 256 by omega), ofNat_byte (show c / 256 % 256 < 256 by omega), ofNat_byte (show c / 65536 % 256 < 256 by omega), ofNat_byte (show c / 16777216 % 256 < 256 by omega)]
  rw [show c / 16777216 % 256 = c / 65536 / 256 by omega, ← low_high (c / 65536), show c / 65536 = c / 256 / 256 by omega, ← low_high (c / 256), ← low_high c]

/-- Does a text end with its tail? -/
def good (l : List UInt8) : Bool := decide (4 ≤ l.length) && (l.drop (l.length - 4) == tail (l.take (l.length - 4)))

/-- What the register holds behind a text that is good. -/
def rest : Nat := steps 32 4294967295

theorem reg_tail (l : List UInt8) : reg 4294967295 (l ++ tail l) = rest := by
  rw [reg_append, reg_val (tail l), tail_len, tail, val_four (sum_lt l), sum, ← Nat.xor_assoc, Nat.xor_self, Nat.zero_xor]
  rfl

theorem good_iff (l : List UInt8) (h : 4 ≤ l.length) : good l = true ↔ reg 4294967295 l = rest := by
  have hl : l = l.take (l.length - 4) ++ l.drop (l.length - 4) := (List.take_append_drop _ _).symm
  have hd : (l.drop (l.length - 4)).length = 4 := by rw [List.length_drop]; omega
  constructor
  · intro hg
    simp only [good, h, decide_true, Bool.true_and, beq_iff_eq] at hg
    rw [hl, hg]
    exact reg_tail _
  · intro hr
    have hr2 := hr
    rw [hl, reg_append, ← reg_tail (l.take (l.length - 4)), reg_append, reg_val (l.drop _), reg_val (tail _), hd, tail_len] at hr2
    have hv : ∀ x : List UInt8, x.length = 4 → val x < 4294967296 := fun x hx => by have := val_lt x; rw [hx] at this; exact this
    have := steps_inj _ (xor_lt (reg_lt _ (by omega)) (hv _ hd)) (xor_lt (reg_lt _ (by omega)) (hv _ (tail_len _))) hr2
    have h2 : val (l.drop (l.length - 4)) = val (tail (l.take (l.length - 4))) := xor_left_eq this
    have h3 := val_inj _ _ (hd.trans (tail_len _).symm) h2
    simp only [good, h, decide_true, Bool.true_and, beq_iff_eq]
    exact h3

theorem good_tail (l : List UInt8) : good (l ++ tail l) = true := by
  rw [good_iff _ (by simp [tail_len])]
  exact reg_tail l

/-- What it is for a text to be another one with bits turned: of the 32 from 'at' on those that are set in 'bits', as far as the text goes. -/
def Turned (s x : List UInt8) (at_ bits : Nat) : Prop := x.length = s.length ∧ val x = val s ^^^ 2 ^ at_ * (bits % 2 ^ (8 * s.length - at_))

theorem Turned.same {s x : List UInt8} {at_ bits : Nat} (h : Turned s x at_ bits) (h0 : bits % 2 ^ (8 * s.length - at_) = 0) : x = s := by
  refine val_inj _ _ h.1 ?_
  rw [h.2, h0, Nat.mul_zero, Nat.xor_zero]

theorem Turned.reg {s x : List UInt8} {at_ bits : Nat} (h : Turned s x at_ bits) (c : Nat) (ha : at_ ≤ 8 * s.length) :
    reg c x = reg c s ^^^ steps (8 * s.length - at_) (bits % 2 ^ (8 * s.length - at_)) := by
  rw [reg_val, reg_val, h.1, h.2, ← Nat.xor_assoc, steps_xor _ (c ^^^ val s)]
  congr 1
  conv => lhs; rw [show 8 * s.length = at_ + (8 * s.length - at_) by omega, steps_add]
  rw [show at_ + (8 * s.length - at_) - at_ = 8 * s.length - at_ by omega, steps_pow]

/-- WHO TURNS BITS IS FOUND OUT. -/
theorem burst {s x : List UInt8} {at_ bits : Nat} (hg : good s = true) (hb : bits < 4294967296) (h : Turned s x at_ bits) : good x = true ↔ x = s := by
  constructor
  · intro hx
    by_cases ha : at_ ≤ 8 * s.length
    · have hs4 : 4 ≤ s.length := by simp [good] at hg; exact hg.1
      have hr := h.reg 4294967295 ha
      rw [(good_iff x (by rw [h.1]; exact hs4)).1 hx, (good_iff s hs4).1 hg] at hr
      have h0 : steps (8 * s.length - at_) (bits % 2 ^ (8 * s.length - at_)) = 0 := by
        have h1 : rest ^^^ rest = rest ^^^ (rest ^^^ steps (8 * s.length - at_) (bits % 2 ^ (8 * s.length - at_))) := by rw [← hr]
        rw [Nat.xor_self, ← Nat.xor_assoc, Nat.xor_self, Nat.zero_xor] at h1
        exact h1.symm
      exact h.same (steps_eq_zero _ (Nat.lt_of_le_of_lt (Nat.mod_le _ _) hb) h0)
    · refine h.same ?_
      rw [show 8 * s.length - at_ = 0 by omega, Nat.pow_zero, Nat.mod_one]
  · rintro rfl
    exact hg

end Go.Proofs.YtfjdbbhaigjbmaaGreat.Crc

namespace Go.Proofs.YtfjdbbhaigjbmaaGreat.Crc
open Go.RowKit

attribute [local go_sem] Oper.semAt_some

theorem ret_u32 {a b : Int} (h : a = b) : Ending.returned (.int .u32 a) = .returned (.int .u32 b) := by rw [h]
theorem int_u32 {a b : Int} (h : a = b) : Value.int .u32 a = .int .u32 b := by rw [h]

theorem and_1 (c : Nat) (h : c < 4294967296) : bits .and .u32 (c : Int) 1 = ((c % 2 : Nat) : Int) := by
  have := u32_and_nat c 1 h (by omega)
  rw [Nat.and_one_is_mod] at this
  exact this
theorem xor_poly (c : Nat) (h : c < 4294967296) : bits .xor .u32 ((c : Int) / 2) 3988292384 = ((c / 2 ^^^ 3988292384 : Nat) : Int) := u32_xor_nat (c / 2) 3988292384 (by omega) (by omega)

theorem step_any (c : Nat) (hc : c < 4294967296) (w : World) :
    Calls Tryz.prog 95 #[.int .u32 (c : Int)] w fun e w' => e = .returned (.int .u32 (step c : Int)) ∧ w = w' := by
  have ha := and_1 c hc
  by_cases h : c % 2 = 1
  · have hb : (bits .and .u32 (c : Int) 1 == 1) = true := by rw [ha, h]; rfl
    have HX := Lib.hid (xor_poly c hc)
    have HS := Lib.hid (step_odd h)
    clear ha h
    go_enter Tryz.func95, Tryz.ntmps95
    go_wp2
    go_ret
    exact ⟨ret_u32 (by rw [HX.out, HS.out]), rfl⟩
  · have hb : (bits .and .u32 (c : Int) 1 == 1) = false := by rw [ha, show c % 2 = 0 by omega]; rfl
    have HS := Lib.hid (step_even h)
    clear ha h
    go_enter Tryz.func95, Tryz.ntmps95
    go_wp2
    go_ret
    exact ⟨ret_u32 (by rw [HS.out]; rfl), rfl⟩

/-- What was there stays, but for the cells of one block; that one's marks stay. -/
structure Only (g : Nat) (w w' : World) : Prop where
  os : w'.os = w.os
  tape : w'.tape = w.tape
  output : w'.output = w.output
  size : w.heap.size ≤ w'.heap.size
  block : ∀ k, k < w.heap.size → k ≠ g → w'.heap[k]? = w.heap[k]?
  froz : ∀ j, w'.frozen? ⟨g, j, none⟩ = w.frozen? ⟨g, j, none⟩

theorem Only.refl (g : Nat) (w : World) : Only g w w := ⟨rfl, rfl, rfl, Nat.le_refl _, fun _ _ _ => rfl, fun _ => rfl⟩
theorem Only.trans {g : Nat} {a b c : World} (h : Only g a b) (k : Only g b c) : Only g a c :=
  ⟨k.os.trans h.os, k.tape.trans h.tape, k.output.trans h.output, Nat.le_trans h.size k.size, fun i hi hg => (k.block i (Nat.lt_of_lt_of_le hi h.size) hg).trans (h.block i hi hg), fun j => (k.froz j).trans (h.froz j)⟩
theorem Only.setCell {g : Nat} {a w : World} (h : Only g a w) (o : Nat) (v : Value) : Only g a (w.setCell ⟨g, o, none⟩ v) :=
  h.trans ⟨rfl, rfl, rfl, by simp, fun k _ hg => Below.heap_setCell _ _ _ _ hg, fun j => by first | rfl | simp⟩
theorem Only.drew {g : Nat} {a w : World} (h : Only g a w) : Only g a w.drew := ⟨h.os, h.tape, h.output, h.size, h.block, h.froz⟩
theorem Only.below {g : Nat} {w w' : World} (h : Only g w w') {B : Nat} (hB : B ≤ g) (hs : B ≤ w.heap.size) : Below B w w' :=
  ⟨h.os, h.tape, h.output, h.size, fun k hk => h.block k (by omega) (by omega)⟩
theorem Only.cell {g : Nat} {w w' : World} (h : Only g w w') {k j : Nat} (hk : k < w.heap.size) (hg : k ≠ g) : w'.cell? ⟨k, j, none⟩ = w.cell? ⟨k, j, none⟩ := World.cell?_of_block (w := w) (a := ⟨k, j, none⟩) (h.block k hk hg)
theorem Only.frozen {g : Nat} {w w' : World} (h : Only g w w') {k j : Nat} (hk : k < w.heap.size) (hg : k ≠ g) : w'.frozen? ⟨k, j, none⟩ = w.frozen? ⟨k, j, none⟩ := World.frozen?_of_block (w := w) (a := ⟨k, j, none⟩) (h.block k hk hg)

/-- A table's first steps, as they must be; the others are there. -/
def Filled (w : World) (g n : Nat) : Prop := ∀ i, i < 256 → ∃ x : Value, w.cell? ⟨g, 3 + i, none⟩ = some x ∧ (i < n → x = .int .u32 (tab i : Nat))

theorem Filled.more {w : World} {g n : Nat} (h : Filled w g n) (hn : n < 256) : Filled (w.setCell ⟨g, 3 + n, none⟩ (.int .u32 (tab n : Nat))) g (n + 1) := by
  intro i hi
  obtain ⟨x, hx, hv⟩ := h i hi
  by_cases e : i = n
  · subst e
    exact ⟨_, World.cell?_setCell_same _ _ _ hx, fun _ => rfl⟩
  · exact ⟨x, (World.cell?_setCell_other _ _ _ _ (fun h => by have := congrArg Addr.off h; simp at this; omega)).trans hx, fun hlt => hv (by omega)⟩

def FillEnds (g : Nat) (w : World) (e : Ending) (w' : World) : Prop :=
  e = .returned (.tuple #[]) ∧ Only g w w' ∧ Filled w' g 256 ∧ ∀ j, j < 3 → w'.cell? ⟨g, j, none⟩ = w.cell? ⟨g, j, none⟩

set_option maxRecDepth 100000 in
set_option maxHeartbeats 1000000 in
theorem fill_any (g : Nat) (w : World) (hr : Filled w g 0) (hz : ∀ j, w.frozen? ⟨g, j, none⟩ = false) :
    Calls Tryz.prog 91 #[.pointer (some ⟨g, 0, none⟩)] w (FillEnds g w) := by
  have HZ := Lib.hid hz
  clear hz
  go_enter Tryz.func91, Tryz.ntmps91
  go_wp2_with fail
  go_loopw [4] (fun i wr => ∃ n : Nat, n ≤ 256 ∧ i = .int .i64 n ∧ Only g w wr ∧ Filled wr g n ∧ Hid (∀ j, j < 3 → wr.cell? ⟨g, j, none⟩ = w.cell? ⟨g, j, none⟩)) (fun i _ => 256 - (intOf i).toNat)
  case atStart => exact ⟨0, by omega, rfl, Only.refl _ _, hr, Lib.hid fun _ _ => rfl⟩
  case round =>
    obtain ⟨n, hn, rfl, ho, hf, hj⟩ := hrel
    by_cases hlt : n < 256
    · have hm := hf.more hlt
      obtain ⟨x, hx, -⟩ := hf n hlt
      have hz1 : wr.frozen? ⟨g, 3 + n, none⟩ = false := (ho.froz _).trans (HZ.out _)
      have hd : decide ((n : Int) < 256) = true := by simp; omega
      have hn0 : (n : Int) < 256 := by omega
      go_wp2_with fail
      go_loop [3, 9] (fun c k => ∃ m : Nat, m ≤ 8 ∧ k = .int .i64 m ∧ c = .int .u32 (steps m n : Nat)) (fun _ k => 8 - (intOf k).toNat)
      case atStart => exact ⟨0, by omega, rfl, rfl⟩
      case round =>
        obtain ⟨m, hm8, rfl, rfl⟩ := hrel
        by_cases hml : m < 8
        · have hs := steps_lt m (c := n) (by omega)
          have HS := Lib.hid (steps_succ m n)
          go_wp2_with (go_at_call 95; refine (step_any (steps m n) hs _).mono ?_; rintro e w' ⟨rfl, rfl⟩)
          go_round
          case rel => exact ⟨m + 1, by omega, by go_num, by rw [HS.out]⟩
          case measure => simp [intOf]; omega
        · have hm9 : m = 8 := by omega
          subst hm9
          go_wp2_with fail
          go_roundw
          case rel =>
            refine ⟨n + 1, by omega, by go_num, ho.setCell _ _, hm, Lib.hid fun j hj3 => ?_⟩
            exact (World.cell?_setCell_other _ _ _ _ (fun h => by have := congrArg Addr.off h; simp at this; omega)).trans (hj.out j hj3)
          case measure => simp [intOf]; omega
    · have hn9 : n = 256 := by omega
      subst hn9
      go_wp2_with fail
      go_end0
      exact ⟨rfl, ho, hf, hj.out⟩

end Go.Proofs.YtfjdbbhaigjbmaaGreat.Crc

namespace Go.Proofs.YtfjdbbhaigjbmaaGreat.Crc
open Go.RowKit

theorem disable (w : World) : (callFunc 105 #[]).run Tryz.prog w = .ok (.value (.tuple #[])) w := run_call_mark0 Tryz.func105 (by kernel_rfl) (by kernel_rfl) (by kernel_rfl) .disable (by kernel_rfl) w
theorem enable (w : World) : (callFunc 107 #[]).run Tryz.prog w = .ok (.value (.tuple #[])) w := run_call_mark0 Tryz.func107 (by kernel_rfl) (by kernel_rfl) (by kernel_rfl) .enable (by kernel_rfl) w
theorem acquire (a : Addr) (w : World) : (callFunc 108 #[.pointer (some a)]).run Tryz.prog w = .ok (.value (.tuple #[])) w := run_call_marked Tryz.func108 (by kernel_rfl) (by kernel_rfl) (by kernel_rfl) .acquire (by kernel_rfl) a w
theorem releaseMerge (a : Addr) (w : World) : (callFunc 110 #[.pointer (some a)]).run Tryz.prog w = .ok (.value (.tuple #[])) w := run_call_marked Tryz.func110 (by kernel_rfl) (by kernel_rfl) (by kernel_rfl) .releaseMerge (by kernel_rfl) a w

/-- '(*sync/atomic.Bool).Store(true)', a deferred call. -/
theorem store_deferred (a : Addr) (x : Value) (u : FrameMode) (w : World) (hc : w.cell? a = some x) (hz : w.frozen? a = false) :
    CallsD Tryz.prog 100 #[.pointer (some a), .bool true] u w fun e u' w' => u' = u ∧ (e = .returned (.tuple #[]) ∧ w' = w.drew.setCell a (.int .u32 1)) := by
  have hc' : w.drew.cell? a = some x := by go_simp
  have hz' : w.drew.frozen? a = false := by go_simp
  have hst := run_call_store (P := Tryz.prog) Tryz.func103 (by kernel_rfl) (by kernel_rfl) (by kernel_rfl) (by kernel_rfl) (k := .u32) (y := 1) hc' hz'
  go_enter_d Tryz.func100, Tryz.ntmps100
  go_wp2
  go_region_calls
  all_goals (go_end0; exact ⟨rfl, rfl⟩)

set_option maxRecDepth 100000 in
/-- '(*sync.Mutex).Unlock', a deferred call, the lock held and nobody waiting. -/
theorem unlock_deferred (a : Addr) (u : FrameMode) (w : World) (hc : w.cell? a = some (.int .i32 1)) (hz : w.frozen? a = false) :
    CallsD Tryz.prog 99 #[.pointer (some a)] u w fun e u' w' => u' = u ∧ (e = .returned (.tuple #[]) ∧ w' = w.setCell a (.int .i32 0)) := by
  have hd := disable
  have he := enable
  have hr := releaseMerge
  have hadd := run_call_add (P := Tryz.prog) Tryz.func111 (by kernel_rfl) (by kernel_rfl) (by kernel_rfl) .i32 (by kernel_rfl) (y := -1) (s := 0) hc hz (by simp [go_sem]; rfl)
  have hcv := run_convert_to_unsafe (P := Tryz.prog) (src := 135) (dst := 139) Tryz.underlying135 Tryz.underlying139 (by kernel_rfl) hc
  go_enter_d Tryz.func99, Tryz.ntmps99
  go_wp2
  go_end0
  go_wp2
  go_end0
  exact ⟨rfl, rfl⟩

set_option maxRecDepth 100000 in
/-- '(*sync.Mutex).Lock', the lock free. -/
theorem lock_free (a : Addr) (w : World) (hc : w.cell? a = some (.int .i32 0)) (hz : w.frozen? a = false) :
    Calls Tryz.prog 98 #[.pointer (some a)] w fun e w' => e = .returned (.tuple #[]) ∧ w' = w.setCell a (.int .i32 1) := by
  have hd := disable
  have he := enable
  have ha := acquire
  have hcas := run_call_cas_hit (P := Tryz.prog) Tryz.func106 (by kernel_rfl) (by kernel_rfl) (by kernel_rfl) .i32 (by kernel_rfl) (y := 1) hc hz
  have hc' : (w.setCell a (.int .i32 1)).cell? a = some (.int .i32 1) := World.cell?_setCell_same w a _ hc
  have hcv := run_convert_to_unsafe (P := Tryz.prog) (src := 135) (dst := 139) Tryz.underlying135 Tryz.underlying139 (by kernel_rfl) hc'
  go_enter Tryz.func98, Tryz.ntmps98
  go_wp2
  first | go_end0 | (simp only [Exit.inBlock, Exit.then]; refine bodyPost_ret (results_none rfl _ _ _) rfl ?_) | refine bodyPost_ret (results_none rfl _ _ _) rfl ?_
  go_wp2
  go_end0
  exact ⟨rfl, rfl⟩

/-- A table that was not asked yet. -/
structure Fresh (w : World) (g : Nat) : Prop where
  done : w.cell? ⟨g, 0, none⟩ = some (.int .u32 0)
  lock : w.cell? ⟨g, 1, none⟩ = some (.int .i32 0)
  steps : Filled w g 0
  froz : ∀ j, w.frozen? ⟨g, j, none⟩ = false
/-- A table that was. -/
structure Made (w : World) (g : Nat) : Prop where
  done : w.cell? ⟨g, 0, none⟩ = some (.int .u32 1)
  steps : Filled w g 256

def SlowEnds (g : Nat) (w : World) (e : Ending) (w' : World) : Prop := e = .returned (.tuple #[]) ∧ Only g w w' ∧ Made w' g

theorem Filled.setOther {w : World} {g n j : Nat} (h : Filled w g n) (hj : j < 3) (v : Value) : Filled (w.setCell ⟨g, j, none⟩ v) g n := by
  intro i hi
  obtain ⟨x, hx, hv⟩ := h i hi
  exact ⟨x, (World.cell?_setCell_other _ _ _ _ (fun h => by have := congrArg Addr.off h; simp at this; omega)).trans hx, hv⟩

set_option maxRecDepth 100000 in
set_option maxHeartbeats 1600000 in
theorem slow_any (g : Nat) (w : World) (hF : Fresh w g) :
    Calls Tryz.prog 94 #[.pointer (some ⟨g, 0, none⟩), .func (.func 91) #[.pointer (some ⟨g, 0, none⟩)] #[]] w (SlowEnds g w) := by
  obtain ⟨h0, h1, hs, hz⟩ := hF
  have hl := run_call_load (P := Tryz.prog) Tryz.func97 (by kernel_rfl) (by kernel_rfl) (by kernel_rfl) .u32 (by kernel_rfl) (w := w.setCell ⟨g, 1, none⟩ (.int .i32 1)) (a := ⟨g, 0, none⟩) (x := 0) ((World.cell?_setCell_other _ _ _ _ (by simp)).trans h0)
  have hnot : ∀ (x : Bool) (w : World), (Op.unary .not (.bool x)).run Tryz.prog w = .ok (.bool (!x)) w := fun _ _ => rfl
  have hfr := Filled.setOther hs (show 1 < 3 by omega) (.int .i32 1)
  have hf0 := hz 0
  have hf1 := hz 1
  have HZ := Lib.hid hz
  clear hz
  go_enter_defers Tryz.func94, Tryz.ntmps94
  go_wp2_with (first | (go_at_call 98; refine (lock_free ⟨g, 1, none⟩ _ h1 hf1).mono ?_; rintro e w' ⟨rfl, rfl⟩) | (go_at_call 93; go_in))
  refine (fill_any g _ hfr (fun j => by simp [HZ.out])).mono ?_
  intro e w2 hq
  obtain ⟨rfl, ho, hf, hj⟩ := hq
  have hd2 : w2.cell? ⟨g, 0, none⟩ = some (.int .u32 0) := (hj 0 (by omega)).trans ((World.cell?_setCell_other _ _ _ _ (by simp)).trans h0)
  have hl2 : w2.cell? ⟨g, 1, none⟩ = some (.int .i32 1) := (hj 1 (by omega)).trans (World.cell?_setCell_same _ _ _ h1)
  have hz2 : ∀ j, w2.frozen? ⟨g, j, none⟩ = false := fun j => (ho.froz j).trans (by simp [HZ.out])
  have hs2 : w2.cell? ⟨g, 0, none⟩ = some (.int .u32 0) ∧ Filled w2 g 256 := ⟨hd2, hf⟩
  have H2 := Lib.hid hs2
  have L2 := Lib.hid hl2
  have Z2 := Lib.hid hz2
  clear hd2 hl2 hz2 hs2 hj hl hnot h0 h1 hf0 hf1 hfr
  go_wp2
  -- the door: two deferred calls, the last laid first
  refine leaves_cons (f := 100) (args := #[.pointer (some ⟨g, 0, none⟩), .bool true]) (by simp) (by simp [go_sem]) ?_
  refine (store_deferred ⟨g, 0, none⟩ (.int .u32 0) .returning _ H2.out.1 (Z2.out 0)).mono ?_
  rintro e u' w'' ⟨rfl, rfl, rfl⟩
  refine leaves_cons (f := 99) (args := #[.pointer (some ⟨g, 1, none⟩)]) (by simp [settle]) (by simp [go_sem]) ?_
  refine (unlock_deferred ⟨g, 1, none⟩ _ _ ((World.cell?_setCell_other w2.drew ⟨g, 0, none⟩ ⟨g, 1, none⟩ (.int .u32 1) (by simp)).trans L2.out) ((World.frozen?_setCell w2.drew ⟨g, 0, none⟩ ⟨g, 1, none⟩ (.int .u32 1)).trans (Z2.out 1))).mono ?_
  rintro e u' w'' ⟨rfl, rfl, rfl⟩
  refine ⟨_, results_none rfl _ _ _, rfl, ?_, ?_, ?_⟩
  · exact (((((Only.refl _ _).setCell _ _).trans ho).drew).setCell _ _).setCell _ _
  · exact (World.cell?_setCell_other _ ⟨g, 1, none⟩ ⟨g, 0, none⟩ _ (by simp)).trans (World.cell?_setCell_same _ _ _ (by exact H2.out.1))
  · exact Filled.setOther (Filled.setOther (w := w2.drew) H2.out.2 (by omega) _) (by omega) _

theorem do_first (g : Nat) (w : World) (hF : Fresh w g) :
    Calls Tryz.prog 90 #[.pointer (some ⟨g, 0, none⟩), .func (.func 91) #[.pointer (some ⟨g, 0, none⟩)] #[]] w (SlowEnds g w) := by
  have hl := run_call_load (P := Tryz.prog) Tryz.func97 (by kernel_rfl) (by kernel_rfl) (by kernel_rfl) .u32 (by kernel_rfl) hF.done
  have hnot : ∀ (x : Bool) (w : World), (Op.unary .not (.bool x)).run Tryz.prog w = .ok (.bool (!x)) w := fun _ _ => rfl
  go_enter Tryz.func90, Tryz.ntmps90
  go_wp2_with (first | (go_at_call 94; refine (slow_any g _ hF).mono ?_; intro e w' hq; obtain ⟨rfl, ho, hm⟩ := hq) | (go_at_call 93; go_in))
  go_end0
  exact ⟨rfl, ho, hm⟩

theorem do_done (g : Nat) (fv : Value) (w : World) (h0 : w.cell? ⟨g, 0, none⟩ = some (.int .u32 1)) :
    Calls Tryz.prog 90 #[.pointer (some ⟨g, 0, none⟩), fv] w fun e w' => e = .returned (.tuple #[]) ∧ w = w' := by
  have hl := run_call_load (P := Tryz.prog) Tryz.func97 (by kernel_rfl) (by kernel_rfl) (by kernel_rfl) .u32 (by kernel_rfl) h0
  have hnot : ∀ (x : Bool) (w : World), (Op.unary .not (.bool x)).run Tryz.prog w = .ok (.bool (!x)) w := fun _ _ => rfl
  go_enter Tryz.func90, Tryz.ntmps90
  go_wp2
  go_end0
  exact ⟨rfl, rfl⟩

/-- A table, asked or not. -/
def Tabl (w : World) (g : Nat) : Prop := Fresh w g ∨ Made w g

def NextEnds (g c b : Nat) (w : World) (e : Ending) (w' : World) : Prop := e = .returned (.int .u32 (next c b : Nat)) ∧ Only g w w' ∧ Made w' g

theorem look_byte (c b : Nat) (hb : b < 256) : bits .xor .u8 ((c : Int) % 256) (b : Int) = ((c % 256 ^^^ b : Nat) : Int) := u8_xor_nat (c % 256) b (by omega) hb
theorem look_tab (c b : Nat) (hc : c < 4294967296) (hb : b < 256) : bits .xor .u32 ((tab (c % 256 ^^^ b) : Nat) : Int) ((c : Int) / 256) = ((next c b : Nat) : Int) := by
  have hlt := xor_byte (show c % 256 < 256 by omega) hb
  rw [next_tab c b]
  exact u32_xor_nat (tab (c % 256 ^^^ b)) (c / 256) (tab_lt (by omega)) (by omega)

set_option maxRecDepth 100000 in
set_option maxHeartbeats 1000000 in
theorem Next_any (g c b : Nat) (hc : c < 4294967296) (hb : b < 256) (w : World) (hT : Tabl w g) :
    Calls Tryz.prog 85 #[.pointer (some ⟨g, 0, none⟩), .int .u32 (c : Int), .int .u8 (b : Int)] w (NextEnds g c b w) := by
  have hmf : ∀ (fn : Fn) (first cap : Array Value) (w : World), (Instr.makeFunc fn first cap).run Tryz.prog w = .ok (.func fn first cap) w := fun _ _ _ _ => rfl
  have hx := look_byte c b hb
  have ht := look_tab c b hc hb
  have hlt := xor_byte (show c % 256 < 256 by omega) hb
  generalize c % 256 ^^^ b = x at hx ht hlt
  have HT := Lib.hid ht
  clear ht
  rcases hT with hF | hM
  · go_enter Tryz.func85, Tryz.ntmps85
    go_wp2_with (go_at_call 90; refine (do_first g _ hF).mono ?_; intro e w' hq; obtain ⟨rfl, ho, hm⟩ := hq; obtain ⟨v, hv, he⟩ := hm.steps x hlt; obtain rfl := he hlt)
    go_ret
    exact ⟨ret_u32 HT.out, ho, hm⟩
  · obtain ⟨v, hv, he⟩ := hM.steps x hlt
    obtain rfl := he hlt
    go_enter Tryz.func85, Tryz.ntmps85
    go_wp2_with (go_at_call 90; refine (do_done g _ _ hM.done).mono ?_; rintro e w' ⟨rfl, rfl⟩)
    go_ret
    exact ⟨ret_u32 HT.out, Only.refl _ _, hM⟩

end Go.Proofs.YtfjdbbhaigjbmaaGreat.Crc

namespace Go.Proofs.YtfjdbbhaigjbmaaGreat.Crc
open Go.RowKit

/-- A new table's cells. -/
def zcells : Array Value := #[.int .u32 0, .int .i32 0, .int .u32 0] ++ Array.replicate 256 (.int .u32 0)

theorem zero_tab (W : World) : (zeroValue 116).run Tryz.prog W = .ok (.agg zcells) W := by kernel_rfl
theorem build_tab (W : World) : (Instr.build 116 #[]).run Tryz.prog W = .ok (.agg zcells) W := run_build W 116 #[] zcells (by kernel_rfl)
theorem box_tab (W : World) : (Instr.box 116 (.agg zcells)).run Tryz.prog W = .ok (.pointer (some ⟨W.heap.size, 0, none⟩)) (W.alloc (.cells zcells 116)) := by kernel_rfl

theorem zcells_steps (i : Nat) (h : i < 256) : zcells[3 + i]? = some (.int .u32 0) := by
  unfold zcells
  rw [Array.getElem?_append_right (by simp)]
  simp [h]
theorem zcells_0 : zcells[0]? = some (.int .u32 0) := by unfold zcells; rw [Array.getElem?_append_left (by simp)]; rfl
theorem zcells_1 : zcells[1]? = some (.int .i32 0) := by unfold zcells; rw [Array.getElem?_append_left (by simp)]; rfl

theorem fresh_new (w : World) : Fresh (w.alloc (.cells zcells 116)) w.heap.size where
  done := by rw [World.cell?_alloc_at _ _ _ _ rfl]; exact zcells_0
  lock := by rw [World.cell?_alloc_at _ _ _ _ rfl]; exact zcells_1
  steps := fun i hi => ⟨.int .u32 0, by rw [World.cell?_alloc_at _ _ _ _ rfl]; exact zcells_steps i hi, fun h => by omega⟩
  froz := fun j => World.frozen?_alloc_at _ _ _ _ rfl

theorem New_any (w : World) : Calls Tryz.prog 79 #[] w fun e w' => e = .returned (.pointer (some ⟨w.heap.size, 0, none⟩)) ∧ Below w.heap.size w w' ∧ w'.heap.size = w.heap.size + 1 ∧ Fresh w' w.heap.size := by
  have hb := zero_tab
  have hx := box_tab
  go_enter Tryz.func79, Tryz.ntmps79
  go_wp2_with fail
  go_ret
  exact ⟨rfl, (Below.refl _ _).alloc (Nat.le_refl _) _, by simp, fresh_new w⟩

theorem take_snoc (s : ByteArray) (k : Nat) (h : k < s.size) : s.data.toList.take (k + 1) = s.data.toList.take k ++ [s[k]] := by
  rw [List.take_succ_eq_append_getElem (by simpa using h)]; rfl

theorem reg_take (s : ByteArray) (k : Nat) (h : k < s.size) (c : Nat) : reg c (s.data.toList.take (k + 1)) = next (reg c (s.data.toList.take k)) s[k].toNat := by
  rw [take_snoc s k h, reg_snoc]

theorem take_all (s : ByteArray) : s.data.toList.take s.size = s.data.toList := List.take_of_length_le (by simp)

def SumEnds (g : Nat) (s : ByteArray) (w : World) (e : Ending) (w' : World) : Prop := e = .returned (.int .u32 (sum s.data.toList : Nat)) ∧ Only g w w' ∧ Tabl w' g

theorem xor_sum (l : List UInt8) : bits .xor .u32 ((reg 4294967295 l : Nat) : Int) 4294967295 = ((sum l : Nat) : Int) := u32_xor_nat _ 4294967295 (reg_lt l (by omega)) (by omega)

set_option maxRecDepth 100000 in
set_option maxHeartbeats 1000000 in
theorem TSum_any (g : Nat) (s : ByteArray) (hs : s.size ≤ 1073741824) (w : World) (hT : Tabl w g) :
    Calls Tryz.prog 80 #[.pointer (some ⟨g, 0, none⟩), .string s] w (SumEnds g s w) := by
  have HS := Lib.hid (xor_sum s.data.toList)
  go_enter Tryz.func80, Tryz.ntmps80
  go_wp2_with fail
  go_loopw [5, 9] (fun c i wr => ∃ k : Nat, k ≤ s.size ∧ i = .int .i64 k ∧ c = .int .u32 (reg 4294967295 (s.data.toList.take k) : Nat) ∧ Only g w wr ∧ Tabl wr g) (fun _ i _ => s.size - (intOf i).toNat)
  case atStart => exact ⟨0, by omega, rfl, rfl, Only.refl _ _, hT⟩
  case round =>
    obtain ⟨k, hk, rfl, rfl, ho, hTr⟩ := hrel
    by_cases hlt : k < s.size
    · have hd : decide ((k : Int) < (s.size : Int)) = true := by simp; omega
      have hreg := reg_lt (s.data.toList.take k) (c := 4294967295) (by omega)
      have HR := Lib.hid (reg_take s k hlt 4294967295)
      have hby := byte_lt s[k]
      go_wp2_with (go_at_call 85; refine (Next_any g _ _ hreg hby _ hTr).mono ?_; intro e w' hq; obtain ⟨rfl, ho2, hm⟩ := hq)
      go_roundw
      case rel => exact ⟨k + 1, by omega, by go_num, by rw [HR.out], ho.trans ho2, .inr hm⟩
      case measure => simp [intOf]; omega
    · have hk9 : k = s.size := by omega
      subst hk9
      rw [take_all]
      go_wp2_with fail
      go_ret
      exact ⟨ret_u32 HS.out, ho, hTr⟩

theorem Sum_any (s : ByteArray) (hs : s.size ≤ 1073741824) (w : World) :
    Calls Tryz.prog 62 #[.string s] w fun e w' => e = .returned (.int .u32 (sum s.data.toList : Nat)) ∧ Below w.heap.size w w' := by
  go_enter Tryz.func62, Tryz.ntmps62
  go_wp2_with (first | (go_at_call 79; refine (New_any _).mono ?_; rintro e w1 ⟨rfl, hb1, hz1, hf1⟩) | (go_at_call 80; refine (TSum_any _ s hs _ (.inl hf1)).mono ?_; intro e w2 hq; obtain ⟨rfl, ho, ht⟩ := hq))
  go_ret
  exact ⟨rfl, hb1.trans (ho.below (Nat.le_refl _) (by omega))⟩

set_option maxRecDepth 100000 in
set_option maxHeartbeats 1000000 in
theorem ref_Next_any (c b : Nat) (hc : c < 4294967296) (hb : b < 256) (w : World) :
    Calls Tryz.prog 53 #[.int .u32 (c : Int), .int .u8 (b : Int)] w fun e w' => e = .returned (.int .u32 (next c b : Nat)) ∧ w = w' := by
  have hx : bits .xor .u32 (c : Int) (b : Int) = ((c ^^^ b : Nat) : Int) := u32_xor_nat c b hc (by omega)
  have hlt := xor_lt hc (show b < 4294967296 by omega)
  have hn : next c b = steps 8 (c ^^^ b) := rfl
  generalize c ^^^ b = x at hx hlt hn
  have HN := Lib.hid hn
  clear hn
  go_enter Tryz.func53, Tryz.ntmps53
  go_wp2_with fail
  go_loop [0, 5] (fun c i => ∃ m : Nat, m ≤ 8 ∧ i = .int .i64 m ∧ c = .int .u32 (steps m x : Nat)) (fun _ i => 8 - (intOf i).toNat)
  case atStart => exact ⟨0, by omega, rfl, rfl⟩
  case round =>
    obtain ⟨m, hm, rfl, rfl⟩ := hrel
    have hs := steps_lt m hlt
    have HS := Lib.hid (steps_succ m x)
    by_cases hml : m < 8
    · have hd : decide ((m : Int) < 8) = true := by simp; omega
      by_cases ho : steps m x % 2 = 1
      · have HX := Lib.hid (xor_poly _ hs)
        have hb1 : (((steps m x : Nat) : Int) % 2 == 1) = true := by rw [beq_iff_eq]; omega
        have HO := Lib.hid (step_odd ho)
        clear ho
        go_wp2_with fail
        go_round
        case rel => exact ⟨m + 1, by omega, by go_num, int_u32 (by rw [HX.out, HS.out, HO.out])⟩
        case measure => simp [intOf]; omega
      · have hb1 : (((steps m x : Nat) : Int) % 2 == 1) = false := by rw [beq_eq_false_iff_ne]; omega
        have HO := Lib.hid (step_even ho)
        clear ho
        go_wp2_with fail
        go_round
        case rel => exact ⟨m + 1, by omega, by go_num, int_u32 (by rw [HS.out, HO.out]; rfl)⟩
        case measure => simp [intOf]; omega
    · have hm9 : m = 8 := by omega
      subst hm9
      go_wp2_with fail
      go_ret
      exact ⟨ret_u32 (by rw [HN.out]), rfl⟩

theorem sub_sum (l : List UInt8) : (4294967295 : Int) - ((reg 4294967295 l : Nat) : Int) = ((sum l : Nat) : Int) := by
  have h := reg_lt l (c := 4294967295) (by omega)
  rw [sum, xor_all _ h]
  omega

set_option maxRecDepth 100000 in
set_option maxHeartbeats 1000000 in
theorem ref_Sum_any (s : ByteArray) (hs : s.size ≤ 1073741824) (w : World) :
    Calls Tryz.prog 39 #[.string s] w fun e w' => e = .returned (.int .u32 (sum s.data.toList : Nat)) ∧ w = w' := by
  have HS := Lib.hid (sub_sum s.data.toList)
  go_enter Tryz.func39, Tryz.ntmps39
  go_wp2_with fail
  go_loop [3, 4] (fun c i => ∃ k : Nat, k ≤ s.size ∧ i = .int .i64 k ∧ c = .int .u32 (reg 4294967295 (s.data.toList.take k) : Nat)) (fun _ i => s.size - (intOf i).toNat)
  case atStart => exact ⟨0, by omega, rfl, rfl⟩
  case round =>
    obtain ⟨k, hk, rfl, rfl⟩ := hrel
    have hreg := reg_lt (s.data.toList.take k) (c := 4294967295) (by omega)
    by_cases hlt : k < s.size
    · have hd : decide ((k : Int) < (s.size : Int)) = true := by simp; omega
      have HR := Lib.hid (reg_take s k hlt 4294967295)
      have hby := byte_lt s[k]
      go_wp2_with (go_at_call 53; refine (ref_Next_any _ _ hreg hby _).mono ?_; rintro e w' ⟨rfl, rfl⟩)
      go_round
      case rel => exact ⟨k + 1, by omega, by go_num, by rw [HR.out]⟩
      case measure => simp [intOf]; omega
    · have hk9 : k = s.size := by omega
      subst hk9
      rw [take_all] at *
      go_wp2_with fail
      go_ret
      exact ⟨ret_u32 HS.out, rfl⟩

end Go.Proofs.YtfjdbbhaigjbmaaGreat.Crc

namespace Go.Proofs.YtfjdbbhaigjbmaaGreat.Crc
open Go.RowKit

def z4 : Array Value := #[.int .u8 0, .int .u8 0, .int .u8 0, .int .u8 0]
theorem make4 (w : World) : (Instr.makeSlice 60 (.int .i64 4) (.int .i64 4)).run Tryz.prog w = .ok (.slice (some ⟨w.heap.size, 0, none⟩) 4 4) (w.alloc (.cells z4 5)) := by kernel_rfl

/-- The bytes that stand there behind k rounds. -/
def part (c k j : Nat) : Nat := if j < k then c / 256 ^ j % 256 else 0

/-- A row of four bytes. -/
def Row4 (w : World) (h : Nat) (f : Nat → Nat) : Prop := ∀ j, j < 4 → w.cell? ⟨h, j, none⟩ = some (.int .u8 (f j : Nat)) ∧ w.frozen? ⟨h, j, none⟩ = false

theorem Row4.new (w : World) (c : Nat) : Row4 (w.alloc (.cells z4 5)) w.heap.size (part c 0) := by
  intro j hj
  refine ⟨?_, by rw [World.frozen?_alloc_at _ _ _ _ rfl]⟩
  rw [World.cell?_alloc_at _ _ _ _ rfl]
  have : part c 0 j = 0 := by simp [part]
  rw [this]
  rcases (show j = 0 ∨ j = 1 ∨ j = 2 ∨ j = 3 by omega) with rfl | rfl | rfl | rfl <;> rfl

theorem Row4.more {w : World} {h c k : Nat} (hr : Row4 w h (part c k)) (hk : k < 4) : Row4 (w.setCell ⟨h, k, none⟩ (.int .u8 ((c / 256 ^ k % 256 : Nat) : Int))) h (part c (k + 1)) := by
  intro j hj
  refine ⟨?_, by rw [World.frozen?_setCell]; exact (hr j hj).2⟩
  by_cases e : j = k
  · subst e
    rw [World.cell?_setCell_same _ _ _ (hr j hj).1]
    simp [part]
  · rw [World.cell?_setCell_other _ _ _ _ (fun h => by have := congrArg Addr.off h; simp at this; omega), (hr j hj).1]
    have : part c (k + 1) j = part c k j := by unfold part; split <;> split <;> first | rfl | omega
    rw [this]

theorem conv_tail (W : World) (h c : Nat) (hr : Row4 W h (part c 4)) :
    (convert 60 9 (.slice (some ⟨h, 0, none⟩) 4 4)).run Tryz.prog W = .ok (.string ⟨(four c).toArray⟩) W := by
  rw [run_convert_bytes_arg W _ _ Tryz.underlying60 Tryz.underlying5 h 0 4 4 [((c % 256 : Nat) : Int), ((c / 256 % 256 : Nat) : Int), ((c / 65536 % 256 : Nat) : Int), ((c / 16777216 % 256 : Nat) : Int)] rfl ?_ _ Tryz.underlying9]
  · rfl
  · intro i hi
    rw [Nat.zero_add, (hr i hi).1]
    rcases (show i = 0 ∨ i = 1 ∨ i = 2 ∨ i = 3 by omega) with rfl | rfl | rfl | rfl <;> simp [part]

theorem cut_byte (c k : Nat) : (c : Int) / 2 ^ (8 * k) % 256 = ((c / 256 ^ k % 256 : Nat) : Int) := by
  have h : (2 : Int) ^ (8 * k) = ((256 ^ k : Nat) : Int) := by rw [show (256 : Nat) = 2 ^ 8 from rfl, ← Nat.pow_mul]; simp
  rw [h]
  omega

theorem ret_string {a b : ByteArray} (h : a = b) : Ending.returned (.string a) = .returned (.string b) := by rw [h]

set_option maxRecDepth 100000 in
set_option maxHeartbeats 1000000 in
theorem Tail_any (s : ByteArray) (hs : s.size ≤ 1073741824) (w : World) :
    Calls Tryz.prog 47 #[.string s] w fun e w' => e = .returned (.string ⟨(tail s.data.toList).toArray⟩) ∧ Below w.heap.size w w' := by
  have hmk := make4
  unfold tail
  have hc := sum_lt s.data.toList
  have hsm := fun W => Sum_any s hs W
  generalize sum s.data.toList = c at hc hsm
  have HS := Lib.hid hsm
  clear hsm
  go_enter Tryz.func47, Tryz.ntmps47
  go_wp2_with (go_at_call 62; refine (HS.out _).mono ?_; rintro e w1 ⟨rfl, hb1⟩)
  go_loopw [11] (fun i wr => ∃ k : Nat, k ≤ 4 ∧ i = .int .i64 k ∧ Below w.heap.size w wr ∧ Row4 wr w1.heap.size (part c k)) (fun i _ => 4 - (intOf i).toNat)
  case atStart => exact ⟨0, by omega, rfl, hb1.alloc hb1.size _, Row4.new w1 c⟩
  case round =>
    obtain ⟨k, hk, rfl, hb, hr⟩ := hrel
    by_cases hlt : k < 4
    · have hd : decide ((k : Int) < 4) = true := by simp; omega
      have hm := hr.more hlt
      have hcell := (hr k hlt).1
      have hz := (hr k hlt).2
      go_wp2_with fail
      go_roundw
      case rel =>
        refine ⟨k + 1, by omega, by go_num, hb.setCell hb1.size _, ?_⟩
        rw [cut_byte]
        exact hm
      case measure => simp [intOf]; omega
    · have hk9 : k = 4 := by omega
      subst hk9
      have hcv := conv_tail _ _ _ hr
      go_wp2_with fail
      go_ret
      exact ⟨rfl, hb⟩

/-- The first k of the four bytes. -/
def upto (c k : Nat) : List UInt8 := (four c).take k
theorem upto_more (c k : Nat) (hk : k < 4) : upto c (k + 1) = upto c k ++ [UInt8.ofNat (c / 256 ^ k % 256)] := by
  rcases (show k = 0 ∨ k = 1 ∨ k = 2 ∨ k = 3 by omega) with rfl | rfl | rfl | rfl <;> simp [upto, four]
theorem upto_len (c k : Nat) (hk : k ≤ 4) : (upto c k).length = k := by simp [upto, four_len]; omega

theorem upto_cells {w1 : World} {base : Nat} {v' : Value} {c k : Nat} (hk : k < 4) (h : w1.ownsRow base 5 1 v' (k + 1) (Bytes.bcells (upto c k) ++ [.int .u8 (((c / 256 ^ k : Nat) : Int) % 256)])) : w1.ownsRow base 5 1 v' (k + 1) (Bytes.bcells (upto c (k + 1))) := by
  rw [upto_more c k hk, Bytes.bcells_snoc, ofNat_byte (by omega)]
  exact h

set_option maxRecDepth 100000 in
set_option maxHeartbeats 1000000 in
theorem ref_Tail_any (s : ByteArray) (hs : s.size ≤ 1073741824) (w : World) :
    Calls Tryz.prog 20 #[.string s] w fun e w' => e = .returned (.string ⟨(tail s.data.toList).toArray⟩) ∧ Below w.heap.size w w' := by
  obtain ⟨i0, hi, hz0, hz1, hz2⟩ := info_parts Bytes.info_u8
  unfold tail
  have hc := sum_lt s.data.toList
  have hsm := fun W => ref_Sum_any s hs W
  generalize sum s.data.toList = c at hc hsm
  have HS := Lib.hid hsm
  clear hsm
  go_enter Tryz.func20, Tryz.ntmps20
  go_wp2_with (go_at_call 39; refine (HS.out _).mono ?_; rintro e w1 ⟨rfl, rfl⟩)
  go_loopw [3, 4, 5] (fun n v i wr => ∃ k : Nat, k ≤ 4 ∧ i = .int .i64 k ∧ n = .int .u32 ((c / 256 ^ k : Nat) : Int) ∧ Below w.heap.size w wr ∧ wr.ownsRow w.heap.size 5 1 v k (Bytes.bcells (upto c k))) (fun _ _ i _ => 4 - (intOf i).toNat)
  case atStart => exact ⟨0, by omega, rfl, by simp, Below.refl _ _, World.ownsRow_nil _ _ _ _⟩
  case round =>
    obtain ⟨k, hk, rfl, rfl, hb, hown⟩ := hrel
    by_cases hlt : k < 4
    · have hd : decide ((k : Int) < 4) = true := by simp; omega
      have hdiv : c / 256 ^ (k + 1) = c / 256 ^ k / 256 := by rw [Nat.pow_succ, Nat.div_div_eq_div_mul]
      have hle : c / 256 ^ k ≤ c := Nat.div_le_self _ _
      have hsz := hb.size
      have HD := Lib.hid hdiv
      have HU := Lib.hid (fun w1 v' => upto_cells (w1 := w1) (base := w.heap.size) (v' := v') (c := c) hlt)
      clear hdiv
      generalize c / 256 ^ k = d at *
      go_wp2_with (at_builtin; refine wpList_append_own _ rfl _ _ 60 rfl w.heap.size 5 i0 (.int .u8 0) 1 1 Tryz.underlying60 hi hz0 hz1 hz2 rfl (by decide) _ _ _ rfl (hown.alloc _) ⟨wr.heap.size, 0, none⟩ 1 1 [.int .u8 ((d : Int) % 256)] rfl rfl (cell_one_new _ _ _) (by simp [Value.oneCell']) (by simp only [maxLen]; omega) (by omega) (by simp; omega) ?_; intro v' w1 hown' hgrow _; have hb2 : Below w.heap.size w w1 := (hb.alloc hsz _).grown hgrow (by simp; omega) (fun k e => (hown.lt k e).1))
      go_roundw
      case rel => exact ⟨k + 1, by omega, by go_num, int_u32 (by rw [HD.out]; rfl), hb2, HU.out _ _ hown'⟩
      case measure => simp [intOf]; omega
    · have hk9 : k = 4 := by omega
      subst hk9
      have hcv := Bytes.conv_owned _ _ _ _ hown
      go_wp2_with fail
      go_ret
      exact ⟨rfl, hb⟩

theorem below_drewN {B : Nat} {a w : World} (h : Below B a w) (n : Nat) : Below B a (w.drewN n) := h.trans ⟨rfl, rfl, rfl, Nat.le_refl _, fun _ _ => rfl⟩

theorem good_short {l : List UInt8} (h : ¬ 4 ≤ l.length) : good l = false := by simp [good, h]
theorem good_long {l : List UInt8} (h : 4 ≤ l.length) : good l = (l.drop (l.length - 4) == tail (l.take (l.length - 4))) := by simp [good, h]

theorem good_cut (s : ByteArray) (m : Nat) (hm : s.size = m + 4) : good s.data.toList = ((s.extract m s.size).toList == tail (List.take m s.data.toList)) := by
  have hl : s.data.toList.length = m + 4 := hm
  have hd : List.take (s.size - m) (List.drop m s.data.toList) = List.drop m s.data.toList := List.take_of_length_le (by rw [List.length_drop, hl, hm]; omega)
  rw [good_long (by omega), ByteArray.toList_eq, Lib.extract_data, hl, Nat.add_sub_cancel, hd]

theorem beq_swap (a b : List UInt8) : (a == b) = (b == a) := by rw [Bool.eq_iff_iff, beq_iff_eq, beq_iff_eq]; exact ⟨Eq.symm, Eq.symm⟩

theorem ret_bool {p q : Bool} (h : p = q) : Ending.returned (.bool p) = .returned (.bool q) := by rw [h]

set_option maxRecDepth 100000 in
set_option maxHeartbeats 1000000 in
theorem Good_any (s : ByteArray) (hs : s.size ≤ 1073741824) (w : World) :
    Calls Tryz.prog 74 #[.string s] w fun e w' => e = .returned (.bool (good s.data.toList)) ∧ Below w.heap.size w w' := by
  by_cases h : 4 ≤ s.size
  · have hg := good_long (l := s.data.toList) (by simpa using h)
    have HG := Lib.hid hg
    clear hg
    obtain ⟨m, hm⟩ : ∃ m, s.size = m + 4 := ⟨s.size - 4, by omega⟩
    have hd : (s.size : Int) - 4 = (m : Int) := by omega
    have h0 : 0 ≤ (m : Int) := by omega
    have h1 : (m : Int) ≤ s.size := by omega
    have HM := Lib.hid hm
    have HX := Lib.hid (show (s.extract 0 m).size ≤ 1073741824 by simp; omega)
    clear hm
    go_enter Tryz.func74, Tryz.ntmps74
    go_wp2_with fail
    go_region_held3 (fun _ => True) (trivial) (first | (go_at_call 47; refine (Tail_any _ HX.out _).mono ?_; rintro e w1 ⟨rfl, hb1⟩))
    go_wp2
    go_ret
    refine ⟨ret_bool ?_, (Below.drew (Below.refl _ _)).trans hb1⟩
    exact (good_cut s m HM.out).symm
  · have hg := good_short (l := s.data.toList) (by simpa using h)
    have HG := Lib.hid hg
    clear hg
    have hd : decide (4 ≤ (s.size : Int)) = false := by simp; omega
    go_enter Tryz.func74, Tryz.ntmps74
    go_wp2_with fail
    go_quiet (fail)
    go_wp2_with fail
    go_ret
    exact ⟨ret_bool HG.out.symm, below_drewN (Below.refl _ _) _⟩

end Go.Proofs.YtfjdbbhaigjbmaaGreat.Crc

namespace Go.Proofs.YtfjdbbhaigjbmaaGreat.Crc
open Go.RowKit

/-- A row of bytes. -/
def Row (w : World) (h : Nat) (l : List UInt8) : Prop := ∀ j (hj : j < l.length), w.cell? ⟨h, j, none⟩ = some (.int .u8 (l[j].toNat : Int)) ∧ w.frozen? ⟨h, j, none⟩ = false

theorem Row.turn {w : World} {h : Nat} {l : List UInt8} (hr : Row w h l) (k : Nat) (hk : k < l.length) (m : UInt8) : Row (w.setCell ⟨h, k, none⟩ (.int .u8 ((l[k] ^^^ m).toNat : Int))) h (l.set k (l[k] ^^^ m)) := by
  intro j hj
  rw [List.length_set] at hj
  refine ⟨?_, by rw [World.frozen?_setCell]; exact (hr j hj).2⟩
  by_cases e : k = j
  · subst e
    rw [World.cell?_setCell_same _ _ _ (hr k hk).1, List.getElem_set_self]
  · rw [World.cell?_setCell_other _ _ _ _ (fun h => by have := congrArg Addr.off h; simp at this; omega), (hr j hj).1, List.getElem_set_ne e]

theorem bytes_of (s : ByteArray) (w : World) : ∃ cap W, (convert 9 60 (.string s)).run Tryz.prog w = .ok (.slice (some ⟨w.heap.size, 0, none⟩) s.size cap) W ∧ Below w.heap.size w W ∧ Row W w.heap.size s.data.toList := by
  refine ⟨_, _, Lib.run_convert_string_bytes w 9 60 5 s Tryz.underlying9 Tryz.underlying60 Tryz.underlying5, ⟨?_, ?_, ?_, ?_, ?_⟩, ?_⟩
  · rfl
  · rfl
  · rfl
  · rw [Lib.bytesWorld_size]; omega
  · intro k hk
    exact Lib.bytesWorld_at_old w _ s k hk
  · intro j hj
    have hj' : j < s.size := by simpa using hj
    constructor
    · rw [Lib.bytesWorld_cell w _ s j hj']
      simp [List.getD, hj']
    · have hc : j < (Lib.bytesCells w 5 s).size := by simp [Lib.bytesCells]; omega
      simp only [World.frozen?, Lib.bytesWorld_at_new]
      simp only [Bool.and_eq_false_iff, decide_eq_false_iff_not]
      left
      omega

theorem row_string (W : World) (h n cap : Nat) (l : List UInt8) (hl : l.length = n) (hr : Row W h l) :
    (convert 60 9 (.slice (some ⟨h, 0, none⟩) n cap)).run Tryz.prog W = .ok (.string ⟨l.toArray⟩) W := by
  rw [← Bytes.str_nums]
  refine run_convert_bytes_arg W _ _ Tryz.underlying60 Tryz.underlying5 h 0 n cap (Bytes.nums l) (by rw [Bytes.nums_len, hl]) (fun i hi => ?_) _ Tryz.underlying9
  have hi' : i < l.length := by omega
  rw [Nat.zero_add, (hr i hi').1]
  simp [Bytes.nums, hi']

/-- The bits that were asked behind i rounds, in a text of n bits from there on. -/
def asked (bits i n : Nat) : Nat := bits % 2 ^ i % 2 ^ n

theorem asked_bit (bits i n j : Nat) : (asked bits i n).testBit j = (decide (j < n) && (decide (j < i) && bits.testBit j)) := by
  unfold asked
  rw [Nat.testBit_mod_two_pow, Nat.testBit_mod_two_pow]

theorem bit_of (bits i : Nat) : bits / 2 ^ i % 2 = (bits.testBit i).toNat := by rw [Nat.testBit_eq_decide_div_mod_eq]; rcases Nat.mod_two_eq_zero_or_one (bits / 2 ^ i) with h | h <;> simp [h]

theorem asked_yes {bits i n : Nat} (h : bits / 2 ^ i % 2 = 1) (hn : i < n) : asked bits (i + 1) n = asked bits i n ^^^ 2 ^ i := by
  have hb : bits.testBit i = true := by rw [Nat.testBit_eq_decide_div_mod_eq, h]; rfl
  apply Nat.eq_of_testBit_eq
  intro j
  rw [Nat.testBit_xor, asked_bit, asked_bit, Nat.testBit_two_pow]
  by_cases e : i = j
  · subst e
    simp [hn, hb]
  · have : (j < i + 1) = (j < i) := by rw [eq_iff_iff]; omega
    simp [this, e]

theorem asked_no {bits i n : Nat} (h : ¬ (bits / 2 ^ i % 2 = 1 ∧ i < n)) : asked bits (i + 1) n = asked bits i n := by
  apply Nat.eq_of_testBit_eq
  intro j
  rw [asked_bit, asked_bit]
  by_cases e : j = i
  · subst e
    by_cases hb : bits.testBit j = true
    · have hn : ¬ j < n := fun hn => h ⟨by rw [bit_of, hb]; rfl, hn⟩
      simp [hn]
    · simp [hb]
  · have : (j < i + 1) = (j < i) := by rw [eq_iff_iff]; omega
    simp only [this]

/-- The text behind i rounds. -/
def Round (s l : List UInt8) (a bits i : Nat) : Prop := l.length = s.length ∧ val l = val s ^^^ 2 ^ a * asked bits i (8 * s.length - a)

theorem Round.start (s : List UInt8) (a bits : Nat) : Round s s a bits 0 := ⟨rfl, by simp [asked, Nat.mod_one]⟩
theorem Round.skip {s l : List UInt8} {a bits i : Nat} (h : Round s l a bits i) (hn : ¬ (bits / 2 ^ i % 2 = 1 ∧ i < 8 * s.length - a)) : Round s l a bits (i + 1) := ⟨h.1, by rw [asked_no hn]; exact h.2⟩
theorem Round.turned {s l : List UInt8} {a bits : Nat} (h : Round s l a bits 32) (hb : bits < 4294967296) : Turned s l a bits := by
  refine ⟨h.1, ?_⟩
  have := h.2
  unfold asked at this
  rwa [Nat.mod_eq_of_lt (show bits < 2 ^ 32 from hb)] at this

theorem two_byte (k : Nat) : (UInt8.ofNat (2 ^ (k % 8))).toNat = 2 ^ (k % 8) := ofNat_byte (show 2 ^ (k % 8) < 2 ^ 8 from Nat.pow_lt_pow_right (by omega) (by omega))

theorem Round.turn {s l : List UInt8} {a bits i k : Nat} (h : Round s l a bits i) (hk : a + i = k) (hb : bits / 2 ^ i % 2 = 1) (hn : k < 8 * s.length) (hkl : k / 8 < l.length) :
    Round s (l.set (k / 8) (l[k / 8] ^^^ UInt8.ofNat (2 ^ (k % 8)))) a bits (i + 1) := by
  refine ⟨by rw [List.length_set]; exact h.1, ?_⟩
  rw [val_set l (k / 8) hkl, two_byte, ← Nat.pow_add, show 8 * (k / 8) + k % 8 = a + i by omega, asked_yes hb (by omega), h.2, Nat.xor_assoc]
  congr 1
  apply Nat.eq_of_testBit_eq
  intro j
  simp only [Nat.testBit_two_pow_mul, Nat.testBit_xor, Nat.testBit_two_pow]
  by_cases hj : a ≤ j
  · have : (a + i = j) = (i = j - a) := by rw [eq_iff_iff]; omega
    simp [hj, this]
  · have : ¬ a + i = j := by omega
    simp [hj, this]

/-- What Turn gives. -/
def TurnEnds (s : ByteArray) (a bits : Nat) (w : World) (e : Ending) (w' : World) : Prop :=
  ∃ l : List UInt8, e = .returned (.string ⟨l.toArray⟩) ∧ Turned s.data.toList l a bits ∧ Below w.heap.size w w'

theorem far_skip {s l : List UInt8} {a bits i : Nat} (h : Round s l a bits i) (ha : 8 * s.length ≤ a) : Round s l a bits (i + 1) := h.skip (fun ⟨_, hn⟩ => by omega)

end Go.Proofs.YtfjdbbhaigjbmaaGreat.Crc
