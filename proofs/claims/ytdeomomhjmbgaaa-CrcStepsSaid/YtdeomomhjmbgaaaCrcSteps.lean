/-
  The law CrcSteps, walked.
-/
import Derived.Test.YtdeomomhjmbgaaaCrcWorks
namespace Go.Proofs.Ytdeomomhjmbgaaa.Crc
open Go.RowKit

attribute [local go_sem ↓] Go.wp_at_zero Go.wp_at_succ

theorem bcell {W w1 : World} (hb : Below W.heap.size W w1) : (∀ b o, b < W.heap.size → w1.cell? ⟨b, o, none⟩ = W.cell? ⟨b, o, none⟩) ∧ (∀ b o, b < W.heap.size → w1.frozen? ⟨b, o, none⟩ = W.frozen? ⟨b, o, none⟩) :=
  ⟨fun b o h => hb.cell (p := ⟨b, o, none⟩) h, fun b o h => hb.frozen (p := ⟨b, o, none⟩) h⟩

/-- One byte as a string. -/
theorem conv_one (v : Nat) (W : World) (b : Nat) (hc : W.cell? ⟨b, 0, none⟩ = some (.int .u8 (v : Int))) :
    (convert 31 9 (.slice (some ⟨b, 0, none⟩) 1 1)).run Try.prog W = .ok (.string ⟨#[UInt8.ofNat v]⟩) W := by
  rw [run_convert_bytes_arg W _ _ Try.underlying31 Try.underlying5 b 0 1 1 [(v : Int)] rfl (fun i hi => by
    obtain rfl : i = 0 := by omega
    simpa using hc) _ Try.underlying9]
  rfl

theorem Tabl.alloc {w : World} {g : Nat} (h : Tabl w g) (hg : g < w.heap.size) (o : Obj) : Tabl (w.alloc o) g := h.below hg ((Below.refl _ _).alloc (Nat.le_refl _) o)

theorem below_alloc {w W : World} (h : Below w.heap.size w W) (o : Obj) : Below w.heap.size w (W.alloc o) := h.alloc h.size o

/-- A call on a table of the call's own leaves the other new blocks. -/
theorem ocell {g n : Nat} {W w1 : World} (ho : Only g W w1) (hg : g < n) : ∀ b o, n ≤ b → b < W.heap.size → w1.cell? ⟨b, o, none⟩ = W.cell? ⟨b, o, none⟩ := fun b o h1 h2 => ho.cell h2 (by omega)

set_option maxRecDepth 100000 in
set_option maxHeartbeats 8000000 in
theorem steps_small (s : ByteArray) (hs : s.size ≤ 2000) (b : Nat) (hb : b < 256) (w : World) :
    Calls Try.prog 4 #[.string s, .int .u8 (b : Int)] w fun e w' => e = .returned (.bool true) ∧ Below w.heap.size w w' := by
  have hs' : s.size ≤ 1073741824 := by omega
  have hsg : IntKind.u32.signed = false := rfl
  have kc := conv_one b
  -- the six calls, by letters
  have hR := reg_lt s.data.toList (c := 4294967295) (by omega)
  have hneg := neg_sum s.data.toList
  have hS1 := fun W => Sum_any s hs' W
  have hb8 : (UInt8.ofNat b).toNat = b := ofNat_byte hb
  have hsl : (s ++ ⟨#[UInt8.ofNat b]⟩ : ByteArray).data.toList = s.data.toList ++ [UInt8.ofNat b] := by simp
  have hS2 := fun W => Sum_any (s ++ ⟨#[UInt8.ofNat b]⟩) (by rw [ByteArray.size_append]; show s.size + 1 ≤ _; omega) W
  have hneg2 := neg_reg (s.data.toList ++ [UInt8.ofNat b])
  rw [reg_snoc, hb8] at hneg2
  rw [hsl] at hS2
  have hT := fun W => Tail_any s hs' W
  have hG := fun W => Good_any (s ++ ⟨(tail s.data.toList).toArray⟩) (by rw [ByteArray.size_append, size_mk (tail s.data.toList), tail_len]; omega) W
  have hgl : (s ++ ⟨(tail s.data.toList).toArray⟩ : ByteArray).data.toList = s.data.toList ++ tail s.data.toList := by simp
  rw [hgl, good_tail] at hG
  have htl := tail_len s.data.toList
  generalize tail s.data.toList = t at hT hG htl
  generalize sum (s.data.toList ++ [UInt8.ofNat b]) = T at hneg2 hS2
  generalize sum s.data.toList = S at hneg hS1
  generalize reg 4294967295 s.data.toList = R at hneg hR hneg2
  have HS1 := Lib.hid hS1
  have HS2 := Lib.hid hS2
  have HT := Lib.hid hT
  have HG := Lib.hid hG
  have hlen : ((t.length : Int) == 4) = true := by rw [beq_iff_eq]; omega
  have htl4 : t.length ≤ 4 := by omega
  clear hS1 hS2 hT hG hgl hsl hb8 htl
  go_enter Try.func4, Try.ntmps4
  go_wp2_with (go_at_call 9; refine (works_any _).mono ?_; rintro e w1 ⟨rfl, hb1⟩)
  refine (New_any _).mono ?_
  rintro e w2 ⟨rfl, hb2, hz2, hf2⟩
  have hT2 : Tabl w2.drew w1.heap.size := Tabl.drew (.inl hf2)
  have hg2 : w1.heap.size < w2.heap.size := by omega
  have h01 := hb1.size
  have hB2 := below2 hb1 hb2
  clear hz2
  go_wp2_with fail
  go_region_with (first
    | (go_at_call 12; ((with_reducible refine (HS1.out _).mono ?_); rintro e w3 ⟨rfl, hb3⟩; obtain ⟨hc3, hf3⟩ := bcell hb3; have hT3 := Tabl.below (by first | exact hT2 | exact hT2.alloc (by simp; omega) _) (by simp; omega) hb3; have hz3 : w2.heap.size ≤ w3.heap.size := (by have := hb3.size; simp at this; omega); first | (have hcl3 : w3.cell? ⟨w2.heap.size, 0, none⟩ = some (.int .u8 (b : Int)) := (hc3 w2.heap.size 0 (by simp)).trans (by simp); have hcv3 := conv_one b w3 _ hcl3; have hz3' : w2.heap.size < w3.heap.size := by have := hb3.size; simp at this; omega) | skip))
    | (go_at_call 14; refine (Next_any _ R b hR hb _ (by first | exact hT3 | exact hT3.alloc (by omega) _)).mono ?_; intro e w4 hq; obtain ⟨rfl, ho4, hm4⟩ := hq; have hc4 := ocell ho4 hg2; first
        | (have hcl4 : w4.cell? ⟨w3.heap.size, 0, none⟩ = some (.int .u8 (b : Int)) := (hc4 w3.heap.size 0 hz3 (by simp)).trans (by simp); have hcv4 := conv_one b w4 _ hcl4)
        | (have hcl4 : w4.cell? ⟨w2.heap.size, 0, none⟩ = some (.int .u8 (b : Int)) := (hc4 w2.heap.size 0 (Nat.le_refl _) hz3').trans hcl3; have hcv4 := conv_one b w4 _ hcl4)
        | skip)
    | (go_at_call 12; ((with_reducible refine (HS2.out _).mono ?_); rintro e w5 ⟨rfl, hb5⟩))
    | (go_at_call 18; refine (HG.out _).mono ?_; rintro e w7 ⟨rfl, hb7⟩)
    | (go_at_call 16; refine (HT.out _).mono ?_; rintro e w6 ⟨rfl, hb6⟩))
  all_goals go_wp2_with fail
  all_goals go_ret
  all_goals refine ⟨ret_bool (by simp), ?_⟩
  all_goals repeat' (first
    | exact hB2.drew
    | exact hB2
    | exact (below_alloc hB2 _).drew
    | (apply below2; rotate_left; assumption)
    | (refine below_only ?_ h01 ho4)
    | refine below_alloc ?_ _)

set_option maxRecDepth 100000 in
set_option maxHeartbeats 1000000 in
theorem crcSteps_walk (s : ByteArray) (_hs : s.size ≤ maxLen) (b : Int) (hb : (Lit.int .u8 b).wf = true) (w : World) :
    Calls Try.prog 4 #[.string s, .int .u8 b] w fun e w' => e = .returned (.bool true) ∧ Below w.heap.size w w' := by
  obtain ⟨b, rfl, lb⟩ := wf_u8 hb
  clear hb
  by_cases hs : 2000 < s.size
  · go_enter Try.func4, Try.ntmps4
    go_wp2_with (go_at_call 9; refine (works_any _).mono ?_; rintro e w1 ⟨rfl, hb1⟩)
    go_ret
    exact ⟨rfl, hb1⟩
  · exact steps_small s (by omega) b lb w

end Go.Proofs.Ytdeomomhjmbgaaa.Crc
