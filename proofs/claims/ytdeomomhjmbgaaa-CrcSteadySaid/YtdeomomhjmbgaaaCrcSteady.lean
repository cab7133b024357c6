/-
  The law CrcSteady, walked.
-/
import Derived.Deep.AppendLies
import Derived.Test.YtdeomomhjmbgaaaCrcWorks
namespace Go.Proofs.Ytdeomomhjmbgaaa.Crc
open Go.RowKit

attribute [local go_sem ↓] Go.wp_at_zero Go.wp_at_succ

/-- Three texts, turned by each other. -/
def three : List UInt8 → List UInt8 → List UInt8 → List UInt8
  | x :: a, y :: b, z :: c => (x ^^^ y ^^^ z) :: three a b c
  | _, _, _ => []

theorem three_len : ∀ (a b c : List UInt8), a.length = b.length → a.length = c.length → (three a b c).length = a.length
  | [], _, _, _, _ => by simp [three]
  | x :: a, y :: b, z :: c, h1, h2 => by simp only [three, List.length_cons]; rw [three_len a b c (by simpa using h1) (by simpa using h2)]
  | _ :: _, [], _, h1, _ => by simp at h1
  | _ :: _, _ :: _, [], _, h2 => by simp at h2

theorem three_val : ∀ (a b c : List UInt8), a.length = b.length → a.length = c.length → val (three a b c) = val a ^^^ val b ^^^ val c
  | [], [], [], _, _ => by simp [three, val]
  | x :: a, y :: b, z :: c, h1, h2 => by
    simp only [three, val, UInt8.toNat_xor]
    rw [three_val a b c (by simpa using h1) (by simpa using h2)]
    have e : 2 ^ 8 * (val a ^^^ val b ^^^ val c) = 2 ^ 8 * val a ^^^ 2 ^ 8 * val b ^^^ 2 ^ 8 * val c := by
      apply Nat.eq_of_testBit_eq
      intro i
      simp only [Nat.testBit_two_pow_mul, Nat.testBit_xor]
      cases decide (8 ≤ i) <;> simp
    rw [e]
    ac_rfl
  | _ :: _, [], _, h1, _ => by simp at h1
  | _ :: _, _ :: _, [], _, h2 => by simp at h2
  | [], _ :: _, _, h1, _ => by simp at h1
  | [], _, _ :: _, _, h2 => by simp at h2

theorem three_sum (a b c : List UInt8) (h1 : a.length = b.length) (h2 : a.length = c.length) : sum (three a b c) = sum a ^^^ sum b ^^^ sum c := by
  unfold sum
  rw [reg_val, reg_val, reg_val, reg_val, three_len a b c h1 h2, three_val a b c h1 h2, ← h1, ← h2]
  simp only [steps_xor]
  generalize steps (8 * a.length) 4294967295 = k
  generalize steps (8 * a.length) (val a) = x
  generalize steps (8 * a.length) (val b) = y
  generalize steps (8 * a.length) (val c) = z
  rw [show k ^^^ x ^^^ 4294967295 ^^^ (k ^^^ y ^^^ 4294967295) ^^^ (k ^^^ z ^^^ 4294967295) = k ^^^ (x ^^^ y ^^^ z) ^^^ 4294967295 ^^^ (k ^^^ k) ^^^ (4294967295 ^^^ 4294967295) by ac_rfl, Nat.xor_self, Nat.xor_self, Nat.xor_zero, Nat.xor_zero]

theorem three_take (a b c : List UInt8) (k : Nat) (ha : k < a.length) (hb : k < b.length) (hc : k < c.length) :
    three (a.take (k + 1)) (b.take (k + 1)) (c.take (k + 1)) = three (a.take k) (b.take k) (c.take k) ++ [a[k] ^^^ b[k] ^^^ c[k]] := by
  induction k generalizing a b c with
  | zero =>
    cases a with
    | nil => simp at ha
    | cons x a => cases b with
      | nil => simp at hb
      | cons y b => cases c with
        | nil => simp at hc
        | cons z c => simp [three]
  | succ k ih =>
    cases a with
    | nil => simp at ha
    | cons x a => cases b with
      | nil => simp at hb
      | cons y b => cases c with
        | nil => simp at hc
        | cons z c =>
          simp only [List.take_succ_cons, three, List.cons_append, List.getElem_cons_succ]
          rw [ih a b c (by simpa using ha) (by simpa using hb) (by simpa using hc)]

theorem xor_bytes (x y z : UInt8) : bits .xor .u8 (bits .xor .u8 (x.toNat : Int) (y.toNat : Int)) (z.toNat : Int) = ((x ^^^ y ^^^ z).toNat : Int) := by
  rw [u8_xor_nat _ _ (byte_lt x) (byte_lt y), u8_xor_nat _ _ (xor_byte (byte_lt x) (byte_lt y)) (byte_lt z), UInt8.toNat_xor, UInt8.toNat_xor]

set_option maxRecDepth 100000 in
set_option maxHeartbeats 2000000 in
theorem steady_small (a b c : ByteArray) (ha : a.size ≤ 2000) (hb : b.size = a.size) (hc : c.size = a.size) (w : World) :
    Calls Try.prog 6 #[.string a, .string b, .string c] w fun e w' => e = .returned (.bool true) ∧ Below w.heap.size w w' := by
  obtain ⟨i0, hi, hz0, hz1, hz2⟩ := info_parts Bytes.info_u8
  have hsb := Lib.hid hb
  have hsc := Lib.hid hc
  have e1 : decide (2000 < (a.size : Int)) = false := by simp; omega
  have e2 : ((a.size : Int) != (b.size : Int)) = false := by rw [bne_eq_false_iff_eq]; omega
  have e3 : ((a.size : Int) != (c.size : Int)) = false := by rw [bne_eq_false_iff_eq]; omega
  clear hb hc
  go_enter Try.func6, Try.ntmps6
  go_wp2_with (go_at_call 9; refine (works_any _).mono ?_; rintro e w1 ⟨rfl, hb1⟩)
  go_loopw [8, 9] (fun v i wr => ∃ k : Nat, k ≤ a.size ∧ i = .int .i64 k ∧ Below w.heap.size w wr ∧ wr.ownsRow w.heap.size 5 1 v k (Bytes.bcells (three (a.data.toList.take k) (b.data.toList.take k) (c.data.toList.take k)))) (fun _ i _ => a.size - (intOf i).toNat)
  case atStart => exact ⟨0, by omega, rfl, hb1, World.ownsRow_nil _ _ _ _⟩
  case round =>
    obtain ⟨k, hk, rfl, hB, hown⟩ := hrel
    by_cases hlt : k < a.size
    · have hd : decide ((k : Int) < (a.size : Int)) = true := by simp; omega
      have hkb : k < b.size := by rw [hsb.out]; exact hlt
      have hkc : k < c.size := by rw [hsc.out]; exact hlt
      have hk0 : (0 : Int) ≤ (k : Int) := by omega
      have hka : (k : Int) < (a.size : Int) := by omega
      have hkb' : (k : Int) < (b.size : Int) := by omega
      have hkc' : (k : Int) < (c.size : Int) := by omega
      have hx := xor_bytes a[k] b[k] c[k]
      have ht := three_take a.data.toList b.data.toList c.data.toList k hlt hkb hkc
      have HT := Lib.hid ht
      clear ht
      go_wp2_with fail
      go_region_held3 (fun _ => True) (trivial)
        ((refine step_append_lies _ (by rfl) _ _ _ (by rfl) w.heap.size 5 i0 _ 1 1 Try.underlying31 hi hz0 hz1 hz2 rfl (by omega) _ k _ (by rfl) ((hown.alloc _).drew)
            ⟨wr.heap.size, 0, none⟩ 1 1 [.int .u8 ((a[k] ^^^ b[k] ^^^ c[k]).toNat : Int)] (by rfl) (by rfl) (World.news_of_block (cs := #[.int .u8 ((a[k] ^^^ b[k] ^^^ c[k]).toNat : Int)]) (t := 5) (fr := (0, 0)) (heap_alloc_new wr _)) (by simp [Value.oneCell'])
            (by omega) (by simp only [maxLen]; omega) (by omega) (by have := hB.size; simp; omega) (wr.heap.size + 1) (by simp) ?_; intro gg cap w2 hown2 hgrow hat hlt2))
      all_goals have hb2 : Below w.heap.size w w2 := ((hB.alloc hB.size _).drew).grown hgrow (by have := hB.size; simp; omega) (fun k e => (hown.lt k e).1)
      all_goals clear hgrow hat
      all_goals go_wp2_with fail
      all_goals go_roundw
      all_goals first
        | exact ⟨k + 1, by omega, by go_num, hb2, by rw [HT.out, Bytes.bcells_snoc]; exact hown2⟩
        | (simp [intOf]; omega)
    · have hk9 : k = a.size := by omega
      subst hk9
      have hA := fun W => Sum_any a (by omega) W
      have hBb := fun W => Sum_any b (by rw [hsb.out]; omega) W
      have hCc := fun W => Sum_any c (by rw [hsc.out]; omega) W
      have hl : (three a.data.toList b.data.toList c.data.toList).length = a.size := three_len _ _ _ hsb.out.symm hsc.out.symm
      have hD := fun W => Sum_any ⟨(three a.data.toList b.data.toList c.data.toList).toArray⟩ (by rw [size_mk, hl]; omega) W
      have hsum := three_sum a.data.toList b.data.toList c.data.toList hsb.out.symm hsc.out.symm
      have eb : b.data.toList.take a.size = b.data.toList := by rw [← hsb.out]; exact take_all b
      have ec : c.data.toList.take a.size = c.data.toList := by rw [← hsc.out]; exact take_all c
      rw [take_all, eb, ec] at hown
      have hcv := Bytes.conv_owned wr w.heap.size _ (three a.data.toList b.data.toList c.data.toList) (by rw [hl]; exact hown)
      simp only [] at hD
      have s1 := sum_lt a.data.toList
      have s2 := sum_lt b.data.toList
      have s3 := sum_lt c.data.toList
      rw [hsum] at hD
      have hx2 : bits .xor .u32 (bits .xor .u32 ((sum a.data.toList : Nat) : Int) ((sum b.data.toList : Nat) : Int)) ((sum c.data.toList : Nat) : Int) = ((sum a.data.toList ^^^ sum b.data.toList ^^^ sum c.data.toList : Nat) : Int) := by
        rw [u32_xor_nat _ _ s1 s2, u32_xor_nat _ _ (xor_lt s1 s2) s3]
      generalize three a.data.toList b.data.toList c.data.toList = d at hcv hD
      generalize sum a.data.toList ^^^ sum b.data.toList ^^^ sum c.data.toList = sd at hx2 hD
      generalize sum a.data.toList = sa at hA hx2
      generalize sum b.data.toList = sb at hBb hx2
      generalize sum c.data.toList = sc at hCc hx2
      have HA := Lib.hid hA
      have HB := Lib.hid hBb
      have HC := Lib.hid hCc
      have HD := Lib.hid hD
      clear hA hBb hCc hD hown hl eb ec hsum s1 s2 s3
      go_wp2_with fail
      refine (HD.out _).mono ?_
      rintro e w3 ⟨rfl, hb3⟩
      go_wp2_with fail
      refine (HA.out _).mono ?_
      rintro e w4 ⟨rfl, hb4⟩
      go_wp2_with fail
      refine (HB.out _).mono ?_
      rintro e w5 ⟨rfl, hb5⟩
      go_wp2_with fail
      refine (HC.out _).mono ?_
      rintro e w6 ⟨rfl, hb6⟩
      go_wp2_with fail
      go_ret
      exact ⟨ret_bool (by simp), below2 (below2 (below2 (below2 hB hb3) hb4) hb5) hb6⟩

set_option maxRecDepth 100000 in
set_option maxHeartbeats 1000000 in
theorem crcSteady_walk (a : ByteArray) (_ha : a.size ≤ maxLen) (b : ByteArray) (_hb : b.size ≤ maxLen) (c : ByteArray) (_hc : c.size ≤ maxLen) (w : World) :
    Calls Try.prog 6 #[.string a, .string b, .string c] w fun e w' => e = .returned (.bool true) ∧ Below w.heap.size w w' := by
  by_cases h : a.size ≤ 2000 ∧ b.size = a.size ∧ c.size = a.size
  · exact steady_small a b c h.1 h.2.1 h.2.2 w
  · have e : (decide (2000 < (a.size : Int)) || (a.size : Int) != (b.size : Int) || (a.size : Int) != (c.size : Int)) = true := by
      simp only [Bool.or_eq_true, decide_eq_true_eq, bne_iff_ne]
      omega
    by_cases h1 : 2000 < a.size
    · go_enter Try.func6, Try.ntmps6
      go_wp2_with (go_at_call 9; refine (works_any _).mono ?_; rintro e w1 ⟨rfl, hb1⟩)
      go_ret
      exact ⟨rfl, hb1⟩
    · have e1 : decide (2000 < (a.size : Int)) = false := by simp; omega
      clear e
      by_cases h2 : b.size = a.size
      · have e2 : ((a.size : Int) != (b.size : Int)) = false := by rw [bne_eq_false_iff_eq]; omega
        have e3 : ((a.size : Int) != (c.size : Int)) = true := by rw [bne_iff_ne]; omega
        clear h h2
        go_enter Try.func6, Try.ntmps6
        go_wp2_with (go_at_call 9; refine (works_any _).mono ?_; rintro e w1 ⟨rfl, hb1⟩)
        go_ret
        exact ⟨rfl, hb1⟩
      · have e2 : ((a.size : Int) != (b.size : Int)) = true := by rw [bne_iff_ne]; omega
        clear h h2
        go_enter Try.func6, Try.ntmps6
        go_wp2_with (go_at_call 9; refine (works_any _).mono ?_; rintro e w1 ⟨rfl, hb1⟩)
        go_ret
        exact ⟨rfl, hb1⟩

end Go.Proofs.Ytdeomomhjmbgaaa.Crc
