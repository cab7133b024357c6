/-
  Plain facts on the sum of layer 3: the register's steps are linear, and have a way back. No program is met here.
-/
import Derived.Below
import Derived.Lib.Hide
namespace Go.Proofs.Ythimplhfmamejaa.Crc

/-- The register behind one bit that was laid into it. -/
def step (c : Nat) : Nat := if c % 2 = 1 then c / 2 ^^^ 3988292384 else c / 2
/-- Behind so many bits. -/
def steps : Nat → Nat → Nat
  | 0, c => c
  | n + 1, c => steps n (step c)

theorem step_odd {c : Nat} (h : c % 2 = 1) : step c = c / 2 ^^^ 3988292384 := if_pos h
theorem step_even {c : Nat} (h : ¬ c % 2 = 1) : step c = c / 2 := if_neg h

theorem xor_div2 (a b : Nat) : (a ^^^ b) / 2 = a / 2 ^^^ b / 2 := by
  apply Nat.eq_of_testBit_eq
  intro i
  simp [Nat.testBit_div_two]
theorem xor_mod2 (a b : Nat) : (a ^^^ b) % 2 = (a % 2 + b % 2) % 2 := by
  have h := Nat.testBit_xor (x := a) (y := b) (i := 0)
  simp only [Nat.testBit_zero] at h
  rcases Nat.mod_two_eq_zero_or_one a with ha | ha <;> rcases Nat.mod_two_eq_zero_or_one b with hb | hb <;> rcases Nat.mod_two_eq_zero_or_one (a ^^^ b) with hc | hc <;> simp [ha, hb, hc] at h ⊢

theorem xor_zero_eq {a b : Nat} (h : a ^^^ b = 0) : a = b := by
  have : a ^^^ b ^^^ b = b := by rw [h, Nat.zero_xor]
  rwa [Nat.xor_assoc, Nat.xor_self, Nat.xor_zero] at this
theorem xor_left_eq {a b c : Nat} (h : a ^^^ b = a ^^^ c) : b = c := by
  have : a ^^^ (a ^^^ b) = a ^^^ (a ^^^ c) := by rw [h]
  rwa [← Nat.xor_assoc, ← Nat.xor_assoc, Nat.xor_self, Nat.zero_xor, Nat.zero_xor] at this

theorem step_xor (a b : Nat) : step (a ^^^ b) = step a ^^^ step b := by
  have hm := xor_mod2 a b
  by_cases ha : a % 2 = 1 <;> by_cases hb : b % 2 = 1
  · rw [step_even (by omega), step_odd ha, step_odd hb, xor_div2, show a / 2 ^^^ 3988292384 ^^^ (b / 2 ^^^ 3988292384) = a / 2 ^^^ b / 2 ^^^ (3988292384 ^^^ 3988292384) by ac_rfl, Nat.xor_self, Nat.xor_zero]
  · rw [step_odd (by omega), step_odd ha, step_even hb, xor_div2]; ac_rfl
  · rw [step_odd (by omega), step_even ha, step_odd hb, xor_div2]; ac_rfl
  · rw [step_even (by omega), step_even ha, step_even hb, xor_div2]

theorem steps_xor : ∀ (n a b : Nat), steps n (a ^^^ b) = steps n a ^^^ steps n b
  | 0, _, _ => rfl
  | n + 1, a, b => by simp only [steps]; rw [step_xor, steps_xor n]

theorem step_zero : step 0 = 0 := rfl
theorem steps_zero : ∀ n, steps n 0 = 0
  | 0 => rfl
  | n + 1 => by simp only [steps]; rw [step_zero, steps_zero n]

theorem step_lt {c : Nat} (h : c < 4294967296) : step c < 4294967296 := by
  by_cases hc : c % 2 = 1
  · rw [step_odd hc]; exact Nat.xor_lt_two_pow (n := 32) (show c / 2 < 2 ^ 32 by omega) (by decide)
  · rw [step_even hc]; omega
theorem steps_lt : ∀ (n : Nat) {c : Nat}, c < 4294967296 → steps n c < 4294967296
  | 0, _, h => h
  | n + 1, _, h => by simp only [steps]; exact steps_lt n (step_lt h)

theorem steps_add : ∀ (m n c : Nat), steps (m + n) c = steps n (steps m c)
  | 0, n, c => by rw [Nat.zero_add]; rfl
  | m + 1, n, c => by rw [show m + 1 + n = (m + n) + 1 by omega]; simp only [steps]; exact steps_add m n (step c)
theorem steps_succ (n c : Nat) : steps (n + 1) c = step (steps n c) := by rw [steps_add n 1]; rfl

theorem step_double (y : Nat) : step (2 * y) = y := by rw [step_even (by omega)]; omega
theorem steps_pow : ∀ (n y : Nat), steps n (2 ^ n * y) = y
  | 0, y => by simp [steps]
  | n + 1, y => by
    rw [Nat.pow_succ, Nat.mul_comm (2 ^ n) 2, Nat.mul_assoc]
    simp only [steps]
    rw [step_double, steps_pow n]

theorem step_eq_zero {c : Nat} (h : c < 4294967296) (h0 : step c = 0) : c = 0 := by
  by_cases hc : c % 2 = 1
  · rw [step_odd hc] at h0
    have : c / 2 = 3988292384 := xor_zero_eq h0
    omega
  · rw [step_even hc] at h0; omega
theorem steps_eq_zero : ∀ (n : Nat) {c : Nat}, c < 4294967296 → steps n c = 0 → c = 0
  | 0, _, _, h0 => h0
  | n + 1, _, h, h0 => step_eq_zero h (steps_eq_zero n (step_lt h) h0)
theorem xor_lt {a b : Nat} (ha : a < 4294967296) (hb : b < 4294967296) : a ^^^ b < 4294967296 := Nat.xor_lt_two_pow (n := 32) ha hb
theorem steps_inj (n : Nat) {a b : Nat} (ha : a < 4294967296) (hb : b < 4294967296) (h : steps n a = steps n b) : a = b := by
  have : steps n (a ^^^ b) = 0 := by rw [steps_xor, h, Nat.xor_self]
  exact xor_zero_eq (steps_eq_zero n (xor_lt ha hb) this)

/-- The register behind a byte. -/
def next (c b : Nat) : Nat := steps 8 (c ^^^ b)
/-- What a table holds. -/
def tab (x : Nat) : Nat := steps 8 x

theorem low_high (c : Nat) : c = c % 256 ^^^ 2 ^ 8 * (c / 256) := by
  apply Nat.eq_of_testBit_eq
  intro i
  rw [Nat.testBit_xor, show (256 : Nat) = 2 ^ 8 from rfl, Nat.testBit_mod_two_pow, Nat.testBit_two_pow_mul, Nat.testBit_div_two_pow]
  by_cases h : i < 8
  · simp [h, show ¬ 8 ≤ i by omega]
  · simp [h, show 8 ≤ i by omega]

theorem next_tab (c b : Nat) : next c b = tab (c % 256 ^^^ b) ^^^ c / 256 := by
  unfold next tab
  have h : c ^^^ b = (c % 256 ^^^ b) ^^^ 2 ^ 8 * (c / 256) := by
    conv => lhs; rw [low_high c]
    ac_rfl
  rw [h, steps_xor, steps_pow]

theorem xor_byte {a b : Nat} (ha : a < 256) (hb : b < 256) : a ^^^ b < 256 := Nat.xor_lt_two_pow (n := 8) ha hb
theorem tab_lt {x : Nat} (h : x < 4294967296) : tab x < 4294967296 := steps_lt 8 h
theorem next_lt {c b : Nat} (h : c < 4294967296) (hb : b < 256) : next c b < 4294967296 := steps_lt 8 (xor_lt h (by omega))

/-- The register behind a text. -/
def reg (c : Nat) : List UInt8 → Nat
  | [] => c
  | b :: l => reg (next c b.toNat) l
/-- A text's number: its first byte the lowest. -/
def val : List UInt8 → Nat
  | [] => 0
  | b :: l => b.toNat ^^^ 2 ^ 8 * val l

theorem byte_lt (b : UInt8) : b.toNat < 256 := b.toNat_lt
theorem reg_lt : ∀ (l : List UInt8) {c : Nat}, c < 4294967296 → reg c l < 4294967296
  | [], _, h => h
  | b :: l, _, h => reg_lt l (next_lt h (byte_lt b))
theorem reg_append : ∀ (a b : List UInt8) (c : Nat), reg c (a ++ b) = reg (reg c a) b
  | [], _, _ => rfl
  | _ :: a, b, _ => reg_append a b _
theorem reg_snoc (a : List UInt8) (x : UInt8) (c : Nat) : reg c (a ++ [x]) = next (reg c a) x.toNat := by rw [reg_append]; rfl

theorem reg_val : ∀ (l : List UInt8) (c : Nat), reg c l = steps (8 * l.length) (c ^^^ val l)
  | [], c => by
    show c = steps (8 * 0) (c ^^^ 0)
    rw [Nat.mul_zero, Nat.xor_zero]
    rfl
  | b :: l, c => by
    have e : steps 8 (c ^^^ (b.toNat ^^^ 2 ^ 8 * val l)) = steps 8 (c ^^^ b.toNat) ^^^ val l := by
      rw [← Nat.xor_assoc, steps_xor 8 (c ^^^ b.toNat), steps_pow 8 (val l)]
    show reg (next c b.toNat) l = steps (8 * (l.length + 1)) (c ^^^ (b.toNat ^^^ 2 ^ 8 * val l))
    rw [reg_val l, show 8 * (l.length + 1) = 8 + 8 * l.length by omega, steps_add 8 (8 * l.length), e]
    rfl

theorem byte_split {x y : Nat} (hx : x < 256) : (x ^^^ 2 ^ 8 * y) % 256 = x ∧ (x ^^^ 2 ^ 8 * y) / 256 = y := by
  constructor
  · apply Nat.eq_of_testBit_eq
    intro i
    rw [show (256 : Nat) = 2 ^ 8 from rfl, Nat.testBit_mod_two_pow, Nat.testBit_xor, Nat.testBit_two_pow_mul]
    by_cases h : i < 8
    · simp [h, show ¬ 8 ≤ i by omega]
    · simp [h, Nat.testBit_lt_two_pow (show x < 2 ^ i from Nat.lt_of_lt_of_le hx (Nat.pow_le_pow_right (n := 2) (i := 8) (by omega) (by omega)))]
  · apply Nat.eq_of_testBit_eq
    intro i
    rw [show (256 : Nat) = 2 ^ 8 from rfl, Nat.testBit_div_two_pow, Nat.testBit_xor, Nat.testBit_two_pow_mul]
    simp [Nat.testBit_lt_two_pow (show x < 2 ^ (i + 8) from Nat.lt_of_lt_of_le hx (Nat.pow_le_pow_right (n := 2) (i := 8) (by omega) (by omega)))]

theorem val_lt : ∀ l : List UInt8, val l < 2 ^ (8 * l.length)
  | [] => by simp [val]
  | b :: l => by
    simp only [val, List.length_cons]
    have h := val_lt l
    rw [show 8 * (l.length + 1) = 8 * l.length + 8 by omega]
    refine Nat.xor_lt_two_pow (Nat.lt_of_lt_of_le (byte_lt b) (Nat.pow_le_pow_right (n := 2) (i := 8) (by omega) (by omega))) ?_
    rw [Nat.pow_add, Nat.mul_comm]
    exact Nat.mul_lt_mul_of_pos_right h (by decide)

theorem val_inj : ∀ (a b : List UInt8), a.length = b.length → val a = val b → a = b
  | [], [], _, _ => rfl
  | [], _ :: _, h, _ => by simp at h
  | _ :: _, [], h, _ => by simp at h
  | x :: a, y :: b, h, hv => by
    simp only [val] at hv
    have h1 := byte_split (y := val a) (byte_lt x)
    have h2 := byte_split (y := val b) (byte_lt y)
    rw [hv] at h1
    have hx : x.toNat = y.toNat := h1.1.symm.trans h2.1
    have ha : val a = val b := h1.2.symm.trans h2.2
    rw [val_inj a b (by simpa using h) ha, UInt8.toNat_inj.1 hx]

/-- The text with a byte of it turned. -/
theorem val_set : ∀ (l : List UInt8) (j : Nat) (h : j < l.length) (m : UInt8), val (l.set j (l[j] ^^^ m)) = val l ^^^ 2 ^ (8 * j) * m.toNat
  | b :: l, 0, _, m => by
    simp only [List.set_cons_zero, List.getElem_cons_zero, val, Nat.mul_zero, Nat.pow_zero, Nat.one_mul, UInt8.toNat_xor]
    ac_rfl
  | b :: l, j + 1, h, m => by
    simp only [List.set_cons_succ, List.getElem_cons_succ, val]
    rw [val_set l j (by simpa using h) m, show 8 * (j + 1) = 8 + 8 * j by omega, Nat.pow_add 2 8, Nat.mul_assoc]
    rw [Nat.xor_assoc]
    congr 1
    apply Nat.eq_of_testBit_eq
    intro i
    simp only [Nat.testBit_two_pow_mul, Nat.testBit_xor]
    cases decide (8 ≤ i) <;> simp

/-- The sum of a text. -/
def sum (l : List UInt8) : Nat := reg 4294967295 l ^^^ 4294967295
theorem sum_lt (l : List UInt8) : sum l < 4294967296 := xor_lt (reg_lt l (by omega)) (by omega)
theorem xor_all (x : Nat) (h : x < 4294967296) : x ^^^ 4294967295 = 4294967295 - x := by
  apply Nat.eq_of_testBit_eq
  intro i
  rw [show (4294967295 : Nat) - x = 2 ^ 32 - (x + 1) by omega, Nat.testBit_two_pow_sub_succ h, Nat.testBit_xor, show (4294967295 : Nat) = 2 ^ 32 - 1 from rfl, Nat.testBit_two_pow_sub_one]
  by_cases hi : i < 32
  · simp [hi]
  · simp [hi, Nat.testBit_lt_two_pow (show x < 2 ^ i from Nat.lt_of_lt_of_le h (Nat.pow_le_pow_right (n := 2) (i := 32) (by omega) (by omega)))]

/-- A number's four bytes, the lowest first. -/
def four (c : Nat) : List UInt8 := [UInt8.ofNat (c % 256), UInt8.ofNat (c / 256 % 256), UInt8.ofNat (c / 65536 % 256), UInt8.ofNat (c / 16777216 % 256)]
def tail (l : List UInt8) : List UInt8 := four (sum l)
theorem four_len (c : Nat) : (four c).length = 4 := rfl
theorem tail_len (l : List UInt8) : (tail l).length = 4 := rfl

theorem ofNat_byte {n : Nat} (h : n < 256) : (UInt8.ofNat n).toNat = n := by simp; omega

theorem val_four {c : Nat} (h : c < 4294967296) : val (four c) = c := by
  simp only [four, val, Nat.mul_zero, Nat.xor_zero, ofNat_byte (show c % 256 < 256 by omega), ofNat_byte (show c / 256 % 256 < 256 by omega), ofNat_byte (show c / 65536 % 256 < 256 by omega), ofNat_byte (show c / 16777216 % 256 < 256 by omega)]
  rw [show c / 16777216 % 256 = c / 65536 / 256 by omega, ← low_high (c / 65536), show c / 65536 = c / 256 / 256 by omega, ← low_high (c / 256), ← low_high c]

/-- Does a text end with its tail? -/
def good (l : List UInt8) : Bool := decide (4 ≤ l.length) && (l.drop (l.length - 4) == tail (l.take (l.length - 4)))

/-- What the register holds behind a text that is good. -/
def rest : Nat := steps 32 4294967295

theorem reg_tail (l : List UInt8) : reg 4294967295 (l ++ tail l) = rest := by
  rw [reg_append, reg_val (tail l), tail_len, tail, val_four (sum_lt l), sum, ← Nat.xor_assoc, Nat.xor_self, Nat.zero_xor]
  rfl

theorem good_iff (l : List UInt8) (h : 4 ≤ l.length) : good l = true ↔ reg 4294967295 l = rest := by
  have hl : l = l.take (l.length - 4) ++ l.drop (l.length - 4) := (List.take_append_drop _ _).symm
  have hd : (l.drop (l.length - 4)).length = 4 := by rw [List.length_drop]; omega
  constructor
  · intro hg
    simp only [good, h, decide_true, Bool.true_and, beq_iff_eq] at hg
    rw [hl, hg]
    exact reg_tail _
  · intro hr
    have hr2 := hr
    rw [hl, reg_append, ← reg_tail (l.take (l.length - 4)), reg_append, reg_val (l.drop _), reg_val (tail _), hd, tail_len] at hr2
    have hv : ∀ x : List UInt8, x.length = 4 → val x < 4294967296 := fun x hx => by have := val_lt x; rw [hx] at this; exact this
    have := steps_inj _ (xor_lt (reg_lt _ (by omega)) (hv _ hd)) (xor_lt (reg_lt _ (by omega)) (hv _ (tail_len _))) hr2
    have h2 : val (l.drop (l.length - 4)) = val (tail (l.take (l.length - 4))) := xor_left_eq this
    have h3 := val_inj _ _ (hd.trans (tail_len _).symm) h2
    simp only [good, h, decide_true, Bool.true_and, beq_iff_eq]
    exact h3

theorem good_tail (l : List UInt8) : good (l ++ tail l) = true := by
  rw [good_iff _ (by simp [tail_len])]
  exact reg_tail l

/-- What it is for a text to be another one with bits turned: of the 32 from 'at' on those that are set in 'bits', as far as the text goes. -/
def Turned (s x : List UInt8) (at_ bits : Nat) : Prop := x.length = s.length ∧ val x = val s ^^^ 2 ^ at_ * (bits % 2 ^ (8 * s.length - at_))

theorem Turned.same {s x : List UInt8} {at_ bits : Nat} (h : Turned s x at_ bits) (h0 : bits % 2 ^ (8 * s.length - at_) = 0) : x = s := by
  refine val_inj _ _ h.1 ?_
  rw [h.2, h0, Nat.mul_zero, Nat.xor_zero]

theorem Turned.reg {s x : List UInt8} {at_ bits : Nat} (h : Turned s x at_ bits) (c : Nat) (ha : at_ ≤ 8 * s.length) :
    reg c x = reg c s ^^^ steps (8 * s.length - at_) (bits % 2 ^ (8 * s.length - at_)) := by
  rw [reg_val, reg_val, h.1, h.2, ← Nat.xor_assoc, steps_xor _ (c ^^^ val s)]
  congr 1
  conv => lhs; rw [show 8 * s.length = at_ + (8 * s.length - at_) by omega, steps_add]
  rw [show at_ + (8 * s.length - at_) - at_ = 8 * s.length - at_ by omega, steps_pow]

/-- WHO TURNS BITS IS FOUND OUT. -/
theorem burst {s x : List UInt8} {at_ bits : Nat} (hg : good s = true) (hb : bits < 4294967296) (h : Turned s x at_ bits) : good x = true ↔ x = s := by
  constructor
  · intro hx
    by_cases ha : at_ ≤ 8 * s.length
    · have hs4 : 4 ≤ s.length := by simp [good] at hg; exact hg.1
      have hr := h.reg 4294967295 ha
      rw [(good_iff x (by rw [h.1]; exact hs4)).1 hx, (good_iff s hs4).1 hg] at hr
      have h0 : steps (8 * s.length - at_) (bits % 2 ^ (8 * s.length - at_)) = 0 := by
        have h1 : rest ^^^ rest = rest ^^^ (rest ^^^ steps (8 * s.length - at_) (bits % 2 ^ (8 * s.length - at_))) := by rw [← hr]
        rw [Nat.xor_self, ← Nat.xor_assoc, Nat.xor_self, Nat.zero_xor] at h1
        exact h1.symm
      exact h.same (steps_eq_zero _ (Nat.lt_of_le_of_lt (Nat.mod_le _ _) hb) h0)
    · refine h.same ?_
      rw [show 8 * s.length - at_ = 0 by omega, Nat.pow_zero, Nat.mod_one]
  · rintro rfl
    exact hg

end Go.Proofs.Ythimplhfmamejaa.Crc
