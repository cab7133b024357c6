/-
  The document's examples for layer 3; the laws CrcSums, CrcSteps and CrcBursts, walked.
-/
import Derived.Deep.DrawnRows
import Derived.Deep.RegionWith
import Derived.Test.YtdeomomhjmbgaaaCrcTurn
namespace Go.Proofs.Ytdeomomhjmbgaaa.Crc
open Go.RowKit

attribute [local go_sem ↓] Go.wp_at_zero Go.wp_at_succ

theorem size_mk (l : List UInt8) : (ByteArray.mk l.toArray).size = l.length := by simp [ByteArray.size]
theorem below2 {w w1 w2 : World} (h1 : Below w.heap.size w w1) (h2 : Below w1.heap.size w1 w2) : Below w.heap.size w w2 := h1.trans (h2.mono h1.size)
/-- A call on a table of the call's own. -/
theorem below_only {g : Nat} {w w1 w2 : World} (h1 : Below w.heap.size w w1) (hg : w.heap.size ≤ g) (h2 : Only g w1 w2) : Below w.heap.size w w2 := h1.trans (h2.below hg h1.size)
theorem Tabl.below {w1 w2 : World} {g : Nat} (h : Tabl w1 g) (hg : g < w1.heap.size) (hb : Below w1.heap.size w1 w2) : Tabl w2 g := by
  have hc : ∀ j, w2.cell? ⟨g, j, none⟩ = w1.cell? ⟨g, j, none⟩ := fun j => hb.cell (p := ⟨g, j, none⟩) hg
  have hf : ∀ j, w2.frozen? ⟨g, j, none⟩ = w1.frozen? ⟨g, j, none⟩ := fun j => hb.frozen (p := ⟨g, j, none⟩) hg
  rcases h with ⟨h1, h2, h3, h4⟩ | ⟨h1, h2⟩
  · exact .inl ⟨(hc 0).trans h1, (hc 1).trans h2, fun i hi => by rw [hc]; exact h3 i hi, fun j => (hf j).trans (h4 j)⟩
  · exact .inr ⟨(hc 0).trans h1, fun i hi => by rw [hc]; exact h2 i hi⟩
theorem Tabl.drew {w : World} {g : Nat} (h : Tabl w g) : Tabl w.drew g := by
  rcases h with ⟨h1, h2, h3, h4⟩ | ⟨h1, h2⟩
  · exact .inl ⟨h1, h2, h3, h4⟩
  · exact .inr ⟨h1, h2⟩

def S9 : ByteArray := ⟨#[49, 50, 51, 52, 53, 54, 55, 56, 57]⟩
def S0 : ByteArray := ⟨#[]⟩
def Z4 : ByteArray := ⟨#[0, 0, 0, 0]⟩
theorem sum_9 : sum S9.data.toList = 3421780262 := by decide +kernel
theorem sum_0 : sum S0.data.toList = 0 := by decide +kernel
theorem tail_0 : tail S0.data.toList = [0, 0, 0, 0] := by decide +kernel
theorem good_4 : good Z4.data.toList = true := by decide +kernel
theorem good_0 : good S0.data.toList = false := by decide +kernel
theorem next_1 : next 0 1 = 1996959894 := by decide +kernel

set_option maxRecDepth 100000 in
set_option maxHeartbeats 1000000 in
theorem works_any (w : World) : Calls Try.prog 9 #[] w fun e w' => e = .returned (.bool true) ∧ Below w.heap.size w w' := by
  go_enter Try.func9, Try.ntmps9
  go_wp2_with (go_at_call 10; refine (New_any _).mono ?_; rintro e w1 ⟨rfl, hb1, hz1, hf1⟩)
  refine (Sum_any S9 (by decide) _).mono ?_
  rintro e w2 ⟨rfl, hb2⟩
  rw [sum_9]
  go_wp2_with fail
  refine (TSum_any _ S9 (by decide) _ (Tabl.below (.inl hf1) (by omega) hb2)).mono ?_
  intro e w3 hq
  obtain ⟨rfl, ho3, ht3⟩ := hq
  rw [sum_9]
  go_wp2_with fail
  refine (Sum_any S0 (by decide) _).mono ?_
  rintro e w4 ⟨rfl, hb4⟩
  rw [sum_0]
  go_wp2_with fail
  refine (Tail_any S0 (by decide) _).mono ?_
  rintro e w5 ⟨rfl, hb5⟩
  rw [tail_0]
  go_wp2_with fail
  refine (Good_any Z4 (by decide) _).mono ?_
  rintro e w6 ⟨rfl, hb6⟩
  rw [good_4]
  go_wp2_with fail
  refine (Good_any S0 (by decide) _).mono ?_
  rintro e w7 ⟨rfl, hb7⟩
  rw [good_0]
  go_wp2_with fail
  refine (Next_any _ 0 1 (by omega) (by omega) _ (Tabl.below (Tabl.below (Tabl.below (Tabl.below ht3 ?_ hb4) ?_ hb5) ?_ hb6) ?_ hb7)).mono ?_
  · have := hb2.size; have := ho3.size; omega
  · have := hb2.size; have := ho3.size; have := hb4.size; omega
  · have := hb2.size; have := ho3.size; have := hb4.size; have := hb5.size; omega
  · have := hb2.size; have := ho3.size; have := hb4.size; have := hb5.size; have := hb6.size; omega
  intro e w8 hq
  obtain ⟨rfl, ho8, hm8⟩ := hq
  rw [next_1]
  go_wp2_with fail
  go_ret
  exact ⟨rfl, below_only (below2 (below2 (below2 (below2 (below_only (below2 hb1 hb2) (Nat.le_refl _) ho3) hb4) hb5) hb6) hb7) (Nat.le_refl _) ho8⟩

theorem wf_u32 {n : Int} (h : (Lit.int .u32 n).wf = true) : ∃ c : Nat, n = (c : Int) ∧ c < 4294967296 := by
  simp [Lit.wf, IntKind.min, IntKind.max, IntKind.signed, IntKind.bits] at h
  exact ⟨n.toNat, by omega, by omega⟩
theorem wf_u8 {n : Int} (h : (Lit.int .u8 n).wf = true) : ∃ c : Nat, n = (c : Int) ∧ c < 256 := by
  simp [Lit.wf, IntKind.min, IntKind.max, IntKind.signed, IntKind.bits] at h
  exact ⟨n.toNat, by omega, by omega⟩
theorem wf_i64 {n : Int} (h : (Lit.int .i64 n).wf = true) : -9223372036854775808 ≤ n ∧ n ≤ 9223372036854775807 := by
  simp [Lit.wf, IntKind.min, IntKind.max, IntKind.signed, IntKind.bits] at h
  omega

set_option maxRecDepth 100000 in
set_option maxHeartbeats 1000000 in
theorem crcSums_walk (s : ByteArray) (_hs : s.size ≤ maxLen) (c : Int) (hc : (Lit.int .u32 c).wf = true) (b : Int) (hb : (Lit.int .u8 b).wf = true) (w : World) :
    Calls Try.prog 3 #[.string s, .int .u32 c, .int .u8 b] w fun e w' => e = .returned (.bool true) ∧ Below w.heap.size w w' := by
  obtain ⟨c, rfl, lc⟩ := wf_u32 hc
  clear hc
  have hc := lc
  obtain ⟨b, rfl, lb⟩ := wf_u8 hb
  clear hb
  have hb := lb
  by_cases hs : 2000 < s.size
  · go_enter Try.func3, Try.ntmps3
    go_wp2_with (go_at_call 9; refine (works_any _).mono ?_; rintro e w1 ⟨rfl, hb1⟩)
    go_ret
    exact ⟨rfl, hb1⟩
  · have hs' : s.size ≤ 1073741824 := by omega
    go_enter Try.func3, Try.ntmps3
    go_wp2_with (go_at_call 9; refine (works_any _).mono ?_; rintro e w1 ⟨rfl, hb1⟩)
    refine (New_any _).mono ?_
    rintro e w2 ⟨rfl, hb2, hz2, hf2⟩
    go_wp2_with fail
    refine (ref_Sum_any s hs' _).mono ?_
    rintro e w3 ⟨rfl, rfl⟩
    go_wp2_with fail
    refine (Sum_any s hs' _).mono ?_
    rintro e w4 ⟨rfl, hb4⟩
    go_wp2_with fail
    refine (TSum_any _ s hs' _ (Tabl.below (.inl hf2) (by omega) hb4)).mono ?_
    intro e w5 hq
    obtain ⟨rfl, ho5, ht5⟩ := hq
    go_wp2_with fail
    refine (TSum_any _ s hs' _ ht5).mono ?_
    intro e w6 hq
    obtain ⟨rfl, ho6, ht6⟩ := hq
    go_wp2_with fail
    refine (Next_any _ c b hc hb _ ht6).mono ?_
    intro e w7 hq
    obtain ⟨rfl, ho7, hm7⟩ := hq
    go_wp2_with fail
    refine (ref_Next_any c b hc hb _).mono ?_
    rintro e w8 ⟨rfl, rfl⟩
    go_wp2_with fail
    refine (Tail_any s hs' _).mono ?_
    rintro e w9 ⟨rfl, hb9⟩
    go_wp2_with fail
    refine (ref_Tail_any s hs' _).mono ?_
    rintro e w10 ⟨rfl, hb10⟩
    go_wp2_with fail
    refine (Good_any s hs' _).mono ?_
    rintro e w11 ⟨rfl, hb11⟩
    go_wp2_with fail
    refine (ref_Good_any s hs' _).mono ?_
    rintro e w12 ⟨rfl, hb12⟩
    go_wp2_with fail
    go_ret
    refine ⟨ret_bool (by simp), ?_⟩
    exact below2 (below2 (below2 (below2 (below_only (below_only (below_only (below2 (below2 hb1 hb2) hb4) hb1.size ho5) hb1.size ho6) hb1.size ho7) hb9) hb10) hb11) hb12

set_option maxRecDepth 100000 in
set_option maxHeartbeats 1000000 in
theorem crcNext_walk (c : Int) (hc : (Lit.int .u32 c).wf = true) (d : Int) (hd : (Lit.int .u32 d).wf = true) (b : Int) (hb : (Lit.int .u8 b).wf = true) (w : World) :
    Calls Try.prog 7 #[.int .u32 c, .int .u32 d, .int .u8 b] w fun e w' => e = .returned (.bool true) ∧ Below w.heap.size w w' := by
  obtain ⟨c, rfl, lc⟩ := wf_u32 hc
  clear hc
  have hc := lc
  obtain ⟨d, rfl, ld⟩ := wf_u32 hd
  clear hd
  have hd := ld
  obtain ⟨b, rfl, lb⟩ := wf_u8 hb
  clear hb
  have hb := lb
  have hx : bits .xor .u32 (c : Int) (d : Int) = ((c ^^^ d : Nat) : Int) := u32_xor_nat c d hc hd
  have hcd := xor_lt hc hd
  have n1 := next_lt hc hb
  have n2 := next_lt hd hb
  have n3 := next_lt (show 0 < 4294967296 by omega) hb
  have hq1 : (((next c b : Nat) : Int) == ((next d b : Nat) : Int)) = ((c : Int) == (d : Int)) := by
    rw [Bool.eq_iff_iff, beq_iff_eq, beq_iff_eq]
    constructor
    · intro h
      have : next c b = next d b := by omega
      have := steps_inj 8 (xor_lt hc (by omega)) (xor_lt hd (by omega)) this
      have : b ^^^ c = b ^^^ d := by rw [Nat.xor_comm b c, Nat.xor_comm b d]; exact this
      rw [xor_left_eq this]
    · intro h
      have : c = d := by omega
      rw [this]
  have hq2 : bits .xor .u32 (bits .xor .u32 ((next c b : Nat) : Int) ((next d b : Nat) : Int)) ((next 0 b : Nat) : Int) = ((next (c ^^^ d) b : Nat) : Int) := by
    rw [u32_xor_nat _ _ n1 n2, u32_xor_nat _ _ (xor_lt n1 n2) n3]
    congr 1
    unfold next
    rw [← steps_xor, ← steps_xor]
    congr 1
    rw [show c ^^^ b ^^^ (d ^^^ b) ^^^ (0 ^^^ b) = c ^^^ d ^^^ b ^^^ (b ^^^ b) ^^^ 0 by ac_rfl, Nat.xor_self, Nat.xor_zero, Nat.xor_zero]
  have H1 := Lib.hid hq1
  have H2 := Lib.hid hq2
  clear hq1 hq2
  go_enter Try.func7, Try.ntmps7
  go_wp2_with (go_at_call 9; refine (works_any _).mono ?_; rintro e w1 ⟨rfl, hb1⟩)
  refine (New_any _).mono ?_
  rintro e w2 ⟨rfl, hb2, hz2, hf2⟩
  go_wp2_with fail
  refine (Next_any _ c b hc hb _ (.inl hf2)).mono ?_
  intro e w3 hq
  obtain ⟨rfl, ho3, hm3⟩ := hq
  go_wp2_with fail
  refine (Next_any _ d b hd hb _ (.inr hm3)).mono ?_
  intro e w4 hq
  obtain ⟨rfl, ho4, hm4⟩ := hq
  have h1 := H1.out
  go_wp2_with fail
  refine (Next_any _ (c ^^^ d) b hcd hb _ (.inr hm4)).mono ?_
  intro e w5 hq
  obtain ⟨rfl, ho5, hm5⟩ := hq
  go_wp2_with fail
  refine (Next_any _ 0 b (by omega) hb _ (.inr hm5)).mono ?_
  intro e w6 hq
  obtain ⟨rfl, ho6, hm6⟩ := hq
  have h2 := H2.out
  go_wp2_with fail
  go_ret
  exact ⟨ret_bool (by simp), below_only (below_only (below_only (below_only (below2 hb1 hb2) hb1.size ho3) hb1.size ho4) hb1.size ho5) hb1.size ho6⟩

set_option maxRecDepth 100000 in
set_option maxHeartbeats 1000000 in
theorem crcBursts_walk (s : ByteArray) (_hs : s.size ≤ maxLen) (a : Int) (ha : (Lit.int .i64 a).wf = true) (c : Int) (hc : (Lit.int .u32 c).wf = true) (w : World) :
    Calls Try.prog 5 #[.string s, .int .i64 a, .int .u32 c] w fun e w' => e = .returned (.bool true) ∧ Below w.heap.size w w' := by
  obtain ⟨c, rfl, lc⟩ := wf_u32 hc
  clear hc
  obtain ⟨a0, a1⟩ := wf_i64 ha
  clear ha
  by_cases hs : 2000 < s.size
  · go_enter Try.func5, Try.ntmps5
    go_wp2_with (go_at_call 9; refine (works_any _).mono ?_; rintro e w1 ⟨rfl, hb1⟩)
    go_ret
    exact ⟨rfl, hb1⟩
  · by_cases h0 : a < 0
    · go_enter Try.func5, Try.ntmps5
      go_wp2_with (go_at_call 9; refine (works_any _).mono ?_; rintro e w1 ⟨rfl, hb1⟩)
      go_ret
      exact ⟨rfl, hb1⟩
    · have hs' : s.size ≤ 1073741824 := by omega
      have hT := fun W => Tail_any s hs' W
      have hg := good_tail s.data.toList
      have htl : (tail s.data.toList).length = 4 := tail_len _
      generalize tail s.data.toList = t at hT hg htl
      have ht4 : t.length ≤ 4 := by omega
      have HT := Lib.hid hT
      have HG := Lib.hid hg
      clear hT hg htl
      have hw : (s ++ ⟨t.toArray⟩ : ByteArray).size ≤ 1073741824 := by rw [ByteArray.size_append, size_mk t]; omega
      obtain ⟨a, rfl⟩ := Int.eq_ofNat_of_zero_le (show 0 ≤ a by omega)
      go_enter Try.func5, Try.ntmps5
      go_wp2_with (first | (go_at_call 9; refine (works_any _).mono ?_; rintro e w1 ⟨rfl, hb1⟩) | (go_at_call 16; refine (HT.out _).mono ?_; rintro e w2 ⟨rfl, hb2⟩))
      refine (Turn_any _ hw a c (by omega) lc _).mono ?_
      intro e w3 hq
      obtain ⟨l, rfl, ht, hb3⟩ := hq
      have hl : (⟨l.toArray⟩ : ByteArray).size ≤ 1073741824 := by
        have h1 := ht.1
        have h2 : (s ++ ⟨t.toArray⟩ : ByteArray).data.toList.length = (s ++ ⟨t.toArray⟩ : ByteArray).size := rfl
        rw [size_mk, h1, h2]
        exact hw
      have hbu := burst (bits := c) (by simpa using HG.out) lc ht
      have HB := Lib.hid hbu
      clear hbu ht
      go_wp2_with (go_at_call 18; refine (Good_any _ hl _).mono ?_; rintro e w4 ⟨rfl, hb4⟩)
      go_ret
      refine ⟨ret_bool ?_, below2 (below2 (below2 hb1 hb2) hb3) hb4⟩
      rw [ByteArray.toList_eq, beq_iff_eq, Bool.eq_iff_iff, beq_iff_eq]
      exact HB.out

theorem parts_odd (k : Nat) (h : ¬ k % 2 = 0) : (((k : Int) % 2) == 0) = false := by rw [beq_eq_false_iff_ne]; omega
theorem parts_even (k : Nat) (h : k % 2 = 0) : (((k : Int) % 2) == 0) = true := by rw [beq_iff_eq]; omega
theorem xor_max (x : Nat) (h : x < 4294967296) : bits .xor .u32 IntKind.u32.max (x : Int) = ((x ^^^ 4294967295 : Nat) : Int) := by
  have e : IntKind.u32.max = ((4294967295 : Nat) : Int) := rfl
  rw [e, u32_xor_nat _ _ (by omega) h, Nat.xor_comm]
theorem neg_sum (l : List UInt8) : bits .xor .u32 IntKind.u32.max ((sum l : Nat) : Int) = ((reg 4294967295 l : Nat) : Int) := by
  rw [xor_max _ (sum_lt l), sum, Nat.xor_assoc, Nat.xor_self, Nat.xor_zero]
theorem neg_reg (l : List UInt8) : bits .xor .u32 IntKind.u32.max ((reg 4294967295 l : Nat) : Int) = ((sum l : Nat) : Int) := by
  rw [xor_max _ (reg_lt l (by omega)), sum]

/-- Two tables, asked or not. -/
def Two (g h : Nat) (w w' : World) : Prop := Below w.heap.size w w' ∧ h < w'.heap.size ∧ Tabl w' g ∧ Tabl w' h

theorem Tabl.only {w1 w2 : World} {g h : Nat} (ht : Tabl w1 h) (hg : h < w1.heap.size) (hne : h ≠ g) (ho : Only g w1 w2) : Tabl w2 h := by
  have hc : ∀ j, w2.cell? ⟨h, j, none⟩ = w1.cell? ⟨h, j, none⟩ := fun j => ho.cell hg hne
  have hf : ∀ j, w2.frozen? ⟨h, j, none⟩ = w1.frozen? ⟨h, j, none⟩ := fun j => ho.frozen hg hne
  rcases ht with ⟨h1, h2, h3, h4⟩ | ⟨h1, h2⟩
  · exact .inl ⟨(hc 0).trans h1, (hc 1).trans h2, fun i hi => by rw [hc]; exact h3 i hi, fun j => (hf j).trans (h4 j)⟩
  · exact .inr ⟨(hc 0).trans h1, fun i hi => by rw [hc]; exact h2 i hi⟩

theorem Two.fst {g h : Nat} {w w1 w2 : World} (ht : Two g h w w1) (hg : w.heap.size ≤ g) (hlt : g < h) (ho : Only g w1 w2) (hm : Tabl w2 g) : Two g h w w2 :=
  ⟨below_only ht.1 hg ho, Nat.lt_of_lt_of_le ht.2.1 ho.size, hm, Tabl.only ht.2.2.2 ht.2.1 (by omega) ho⟩
theorem Two.snd {g h : Nat} {w w1 w2 : World} (ht : Two g h w w1) (hg : w.heap.size ≤ g) (hlt : g < h) (ho : Only h w1 w2) (hm : Tabl w2 h) : Two g h w w2 :=
  ⟨below_only ht.1 (by omega) ho, Nat.lt_of_lt_of_le ht.2.1 ho.size, Tabl.only ht.2.2.1 (by have := ht.2.1; omega) (by omega) ho, hm⟩

theorem good_part (a t : List UInt8) (h : t.length = 4) : good (a ++ t) = (t == tail a) := by
  rw [good_long (by simp [h])]
  have e : (a ++ t).length - 4 = a.length := by simp [h]
  rw [e, List.drop_left, List.take_left]

set_option maxRecDepth 100000 in
set_option maxHeartbeats 2000000 in
theorem parts_small (a b t : ByteArray) (ha : a.size ≤ 2000) (hb : b.size ≤ 2000) (ht : t.size ≤ 2000) (w : World) :
    Calls Try.prog 8 #[.string a, .string b, .string t] w fun e w' => e = .returned (.bool true) ∧ Below w.heap.size w w' := by
  have ha' : a.size ≤ 1073741824 := by omega
  have HN := Lib.hid (neg_sum a.data.toList)
  have HR := Lib.hid (neg_reg (a.data.toList ++ b.data.toList))
  have hsg : IntKind.u32.signed = false := rfl
  go_enter Try.func8, Try.ntmps8
  go_wp2_with (go_at_call 9; refine (works_any _).mono ?_; rintro e w1 ⟨rfl, hb1⟩)
  refine (New_any _).mono ?_
  rintro e w2 ⟨rfl, hb2, hz2, hf2⟩
  go_wp2_with fail
  refine (New_any _).mono ?_
  rintro e w3 ⟨rfl, hb3, hz3, hf3⟩
  have hT3 : Two w1.heap.size w2.heap.size w w3 := ⟨below2 (below2 hb1 hb2) hb3, by omega, Tabl.below (.inl hf2) (by omega) hb3, .inl hf3⟩
  have h12 : w1.heap.size < w2.heap.size := by omega
  have h01 := hb1.size
  clear hb2 hf2 hb3 hf3 hz2 hz3
  generalize w1.heap.size = g at *
  generalize w2.heap.size = h at *
  go_wp2_with fail
  refine (TSum_any g a ha' _ hT3.2.2.1).mono ?_
  intro e w4 hq
  obtain ⟨rfl, ho4, ht4⟩ := hq
  have hT4 := hT3.fst h01 h12 ho4 ht4
  go_wp2_with fail
  go_loopw [10, 11] (fun c i wr => ∃ k : Nat, k ≤ b.size ∧ i = .int .i64 k ∧ c = .int .u32 (reg (reg 4294967295 a.data.toList) (b.data.toList.take k) : Nat) ∧ Two g h w wr) (fun _ i _ => b.size - (intOf i).toNat)
  case atStart => exact ⟨0, by omega, rfl, int_u32 (by rw [HN.out]; rfl), hT4⟩
  case round =>
    obtain ⟨k, hk, rfl, rfl, hT⟩ := hrel
    have hreg := reg_lt (b.data.toList.take k) (c := reg 4294967295 a.data.toList) (reg_lt _ (by omega))
    by_cases hlt : k < b.size
    · have hd : decide ((k : Int) < (b.size : Int)) = true := by simp; omega
      have HK := Lib.hid (reg_take b k hlt (reg 4294967295 a.data.toList))
      have hby := byte_lt b[k]
      by_cases he : k % 2 = 0
      · have hp := parts_even k he
        clear he
        go_wp2_with (go_at_call 14; refine (Next_any g _ _ hreg hby _ hT.2.2.1).mono ?_; intro e w' hq; obtain ⟨rfl, ho2, hm⟩ := hq)
        go_roundw
        case rel => exact ⟨k + 1, by omega, by go_num, by rw [HK.out], hT.fst h01 h12 ho2 (.inr hm)⟩
        case measure => simp [intOf]; omega
      · have hp := parts_odd k he
        clear he
        go_wp2_with (go_at_call 14; refine (Next_any h _ _ hreg hby _ hT.2.2.2).mono ?_; intro e w' hq; obtain ⟨rfl, ho2, hm⟩ := hq)
        go_roundw
        case rel => exact ⟨k + 1, by omega, by go_num, by rw [HK.out], hT.snd h01 h12 ho2 (.inr hm)⟩
        case measure => simp [intOf]; omega
    · have hk9 : k = b.size := by omega
      subst hk9
      rw [take_all, ← reg_append]
      clear hreg
      have hab : (a ++ b).size ≤ 1073741824 := by rw [ByteArray.size_append]; omega
      have habl : (a ++ b).data.toList = a.data.toList ++ b.data.toList := by simp
      have hS := Sum_any (a ++ b) hab
      rw [habl] at hS
      have HS := Lib.hid hS
      clear hS habl
      have hR := HR.out
      by_cases h4 : t.size = 4
      · have hd4 : ((t.size : Int) != 4) = false := by rw [bne_eq_false_iff_eq]; omega
        have hG := Good_any (a ++ t) (by rw [ByteArray.size_append]; omega)
        have hgl : (a ++ t).data.toList = a.data.toList ++ t.data.toList := by simp
        rw [hgl, good_part _ _ h4] at hG
        have HG := Lib.hid hG
        have HT := Lib.hid (Tail_any a ha')
        have h4' : t.size ≤ 4 := by omega
        clear hG hgl h4
        go_wp2_with (first | (go_at_call 12; refine (HS.out _).mono ?_; rintro e w5 ⟨rfl, hb5⟩) | (go_at_call 18; refine (HG.out _).mono ?_; rintro e w6 ⟨rfl, hb6⟩) | (go_at_call 16; refine (HT.out _).mono ?_; rintro e w7 ⟨rfl, hb7⟩))
        go_ret
        refine ⟨ret_bool ?_, below2 (below2 (below2 hT.1 hb5) hb6) hb7⟩
        rw [ByteArray.toList_eq]
        simp
      · have hd4 : ((t.size : Int) != 4) = true := by rw [bne_iff_ne]; omega
        clear h4
        go_wp2_with (first | (go_at_call 12; refine (HS.out _).mono ?_; rintro e w5 ⟨rfl, hb5⟩))
        go_ret
        exact ⟨ret_bool (by simp), below2 hT.1 hb5⟩

set_option maxRecDepth 100000 in
set_option maxHeartbeats 1000000 in
theorem crcParts_walk (a : ByteArray) (_ha : a.size ≤ maxLen) (b : ByteArray) (_hb : b.size ≤ maxLen) (t : ByteArray) (_ht : t.size ≤ maxLen) (w : World) :
    Calls Try.prog 8 #[.string a, .string b, .string t] w fun e w' => e = .returned (.bool true) ∧ Below w.heap.size w w' := by
  by_cases ha : 2000 < a.size
  · go_enter Try.func8, Try.ntmps8
    go_wp2_with (go_at_call 9; refine (works_any _).mono ?_; rintro e w1 ⟨rfl, hb1⟩)
    go_ret
    exact ⟨rfl, hb1⟩
  · by_cases hb : 2000 < b.size
    · go_enter Try.func8, Try.ntmps8
      go_wp2_with (go_at_call 9; refine (works_any _).mono ?_; rintro e w1 ⟨rfl, hb1⟩)
      go_ret
      exact ⟨rfl, hb1⟩
    · by_cases ht : 2000 < t.size
      · go_enter Try.func8, Try.ntmps8
        go_wp2_with (go_at_call 9; refine (works_any _).mono ?_; rintro e w1 ⟨rfl, hb1⟩)
        go_ret
        exact ⟨rfl, hb1⟩
      · exact parts_small a b t (by omega) (by omega) (by omega) w

end Go.Proofs.Ytdeomomhjmbgaaa.Crc
