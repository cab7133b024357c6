/-
  The reference of kinds, walked: blocks, variables.
-/
import Derived.Test.YteknfglfbkknaaaKindsRefA
namespace Go.Proofs.Yteknfglfbkknaaa.Kinds
open Go.RowKit Mem _root_.Go.Proofs.Yteknfglfbkknaaa.Arena
set_option linter.unusedVariables false
attribute [local go_sem ↓] Go.wp_at_zero Go.wp_at_succ

/-- Are kids blocks, from one on? -/
def tags (xs : List Nd) (ks : List Int) : Bool := ks.all fun q => decide (otag xs q = 20)
theorem tags_snoc (xs : List Nd) (ks : List Int) (k : Nat) (q : Int) (h : ks[k]? = some q) : tags xs (ks.take (k + 1)) = (tags xs (ks.take k) && decide (otag xs q = 20)) := by
  rw [take_snoc ks k q h]; simp [tags]
theorem tags_bad {xs : List Nd} {ks : List Int} {k : Nat} {q : Int} (h : ks[k]? = some q) (hq : otag xs q ≠ 20) : tags xs ks = false := by
  unfold tags
  rw [List.all_eq_false]
  exact ⟨q, List.mem_of_getElem? h, by simpa using hq⟩

set_option maxRecDepth 100000 in
set_option maxHeartbeats 2000000 in
theorem ref_blocks_any (p : Prg) (A1 : Option Addr) (c1 : Nat) (ks : List Int) (w : World) (hp : p.Ok w)
    (hq : ∀ q ∈ ks, ∃ k x, q = ((k : Nat) : Int) ∧ p.xs[k]? = some x) (h1 : IRow w w.heap.size A1 ks) (hl : ks.length ≤ 1000000) (h0 : 1 ≤ ks.length) :
    Calls Try.prog 45 #[.agg #[.int .i64 p.ps, .slice p.A p.vs.length p.c, .slice p.B p.xs.length p.e], .slice A1 ks.length c1, .int .i64 1] w fun e w' => e = .returned (.bool (tags p.xs (ks.drop 1))) ∧ Below w.heap.size w w' := by
  have hB0 : Below w.heap.size w (w.alloc (.cells #[.int .i64 p.ps, .slice p.A p.vs.length p.c, .slice p.B p.xs.length p.e] 25)) := (Below.refl _ _).alloc (Nat.le_refl _) _
  have bX := Blk.new w 25 #[.int .i64 p.ps, .slice p.A p.vs.length p.c, .slice p.B p.xs.length p.e]
  have HX := Lib.hid (hp.at hB0)
  have HK := Lib.hid (h1.at hB0)
  have HQ := Lib.hid hq
  have hgl : w.heap.size < (w.alloc (.cells #[.int .i64 p.ps, .slice p.A p.vs.length p.c, .slice p.B p.xs.length p.e] 25)).heap.size := bX.lt
  have HBX := Lib.hid bX
  have hlx := hp.lx
  clear hp h1 hq bX
  obtain ⟨T, hT⟩ : ∃ T, tags p.xs (ks.drop 1) = T := ⟨_, rfl⟩
  rw [hT]
  have HT := Lib.hid hT
  clear hT
  go_enter Try.func45, Try.ntmps45
  go_wp2_with fail
  generalize w.alloc (.cells #[.int .i64 p.ps, .slice p.A p.vs.length p.c, .slice p.B p.xs.length p.e] 25) = w1 at *
  go_loopw [7] (fun i wr => ∃ j : Nat, 1 ≤ j ∧ j ≤ ks.length ∧ tags p.xs ((ks.drop 1).take (j - 1)) = true ∧ i = .int .i64 j ∧ Below w1.heap.size w1 wr) (fun i _ => ks.length - (intOf i).toNat)
  case atStart => exact ⟨1, by omega, by omega, rfl, rfl, Below.refl _ _⟩
  case round =>
    obtain ⟨j, hj1, hj, hs, rfl, hB⟩ := hrel
    have hBw := hB0.trans (hB.mono hB0.size)
    by_cases hlt : j < ks.length
    · obtain ⟨q, hqk⟩ : ∃ q, ks[j]? = some q := ⟨_, List.getElem?_eq_getElem hlt⟩
      have hqd : (ks.drop 1)[j - 1]? = some q := by rw [List.getElem?_drop, show 1 + (j - 1) = j by omega]; exact hqk
      obtain ⟨ad, rfl, hb, k0⟩ := (HK.out.at hB) j q hqk
      obtain ⟨m, x, rfl, hxm⟩ := HQ.out q (List.mem_of_getElem? hqk)
      obtain ⟨ad2, hB2, hb2, g0, g1⟩ := (HX.out.at hB).body m x hxm
      have htag : otag p.xs (m : Int) = x.1 := by unfold otag; rw [Int.toNat_natCast, List.getD_eq_getElem?_getD, hxm]; rfl
      obtain ⟨b0, b1, b2⟩ := (HBX.out.below hB hgl).three
      have hsn := tags_snoc p.xs (ks.drop 1) (j - 1) m hqd
      rw [show j - 1 + 1 = (j + 1) - 1 by omega] at hsn
      have i1 : (j : Int) < (ks.length : Int) := by omega
      have i2 : (0 : Int) ≤ (j : Int) := by omega
      have i3 : (m : Int) < (p.xs.length : Int) := by have := (List.getElem?_eq_some_iff.1 hxm).1; omega
      have i4 : (0 : Int) ≤ (m : Int) := by omega
      rw [hB2] at b2
      by_cases he : x.1 = 20
      · rw [hs, htag, decide_eq_true he, Bool.and_true] at hsn
        have HS := Lib.hid hsn
        rw [he] at g0
        clear hs hsn hqk hqd hxm htag he hB2
        go_wp2_with fail
        go_quiet (fail)
        go_wp2_with fail
        go_roundw
        case rel => exact ⟨j + 1, by omega, by omega, HS.out, by go_num, belowN hB _⟩
        case measure => simp [intOf]; omega
      · have HF := Lib.hid (show T = false by rw [← HT.out]; exact tags_bad hqd (by rw [htag]; exact he))
        obtain ⟨z, hz⟩ : ∃ z, x.1 = z := ⟨_, rfl⟩
        rw [hz] at g0 he
        have e2 : (z == 20) = false := by simpa using he
        have e3 : (z != 20) = true := by simpa using he
        clear hs hsn hqk hqd hxm htag he hB2 hz
        go_wp2_with fail
        go_quiet (fail)
        go_wp2_with fail
        go_ret
        exact ⟨by rw [HF.out]; rfl, belowN hBw _⟩
    · have hk9 : j = ks.length := by omega
      have HF := Lib.hid (show T = true by rw [← HT.out]; rwa [List.take_of_length_le (by rw [List.length_drop]; omega)] at hs)
      have i1 : ¬ (j : Int) < (ks.length : Int) := by omega
      have i2 : (ks.length : Int) ≤ (j : Int) := by omega
      clear hs hk9
      go_wp2
      go_ret
      exact ⟨by rw [HF.out]; rfl, hBw⟩

end Go.Proofs.Yteknfglfbkknaaa.Kinds
