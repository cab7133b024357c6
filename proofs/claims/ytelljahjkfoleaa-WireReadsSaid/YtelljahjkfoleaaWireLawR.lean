/-
  The law of layer 5 on who is wrong, walked.
-/
import Derived.Test.YtelljahjkfoleaaWireOps
import Derived.Test.YtelljahjkfoleaaWireWorks
import Derived.Deep.DrawnRows
namespace Go.Proofs.Ytelljahjkfoleaa.Wire
open Go.RowKit Leb Mem

attribute [local go_sem ↓] Go.wp_at_zero Go.wp_at_succ

/-- What is asked for, in memory. -/
def Ops (w : World) (B : Nat) (A : Option Addr) (os : List (Int × Int)) : Prop :=
  ∀ i x, os[i]? = some x → ∃ ad, A = some ad ∧ ad.block < B ∧ x.2 ≤ 9223372036854775807 ∧ w.cell? (ad.add (i * 2)) = some (.int .i64 x.1) ∧ w.cell? ⟨(ad.add (i * 2)).block, (ad.add (i * 2)).off + 1, none⟩ = some (.int .i64 x.2)
theorem Ops.below {w w' : World} {B : Nat} {A : Option Addr} {os : List (Int × Int)} (h : Ops w B A os) (hb : Below B w w') : Ops w' B A os := by
  intro i x hx
  obtain ⟨ad, e, hlt, ok, h0, h1⟩ := h i x hx
  have hc : ∀ q : Addr, q.block = (ad.add (i * 2)).block → w'.cell? q = w.cell? q := fun q e => World.cell?_of_block (hb.block _ (by rw [e, add_block]; exact hlt))
  exact ⟨ad, e, hlt, ok, (hc (ad.add (i * 2)) rfl).trans h0, (hc ⟨(ad.add (i * 2)).block, (ad.add (i * 2)).off + 1, none⟩ rfl).trans h1⟩

theorem endOf_was {S : ByteArray} {p er : Int} (h0 : endOf S p er ≠ 0) (h5 : endOf S p er ≠ 5) : er ≠ 0 ∧ endOf S p er = er := by
  unfold endOf at *
  by_cases h : er ≠ 0
  · rw [if_pos h]; exact ⟨h, rfl⟩
  · rw [if_neg h] at h0 h5
    split at h5
    · exact absurd rfl h5
    · rename_i c; rw [if_neg c] at h0; exact absurd rfl h0

set_option maxRecDepth 100000 in
set_option maxHeartbeats 2000000 in
theorem wireWrong_walk (S : ByteArray) (hS : S.size ≤ maxLen) (A : Option Addr) (cap : Nat) (os : List (Int × Int)) (hlen : os.length ≤ maxLen) (k n : Int) (hn : n ≤ 9223372036854775807) (w : World) (hx : Ops w w.heap.size A os) :
    Calls Try.prog 6 #[.string S, .slice A os.length cap, .agg #[.int .i64 k, .int .i64 n]] w fun e w' => e = .returned (.bool true) ∧ Below w.heap.size w w' := by
  unfold maxLen at hlen hS
  have HX := Lib.hid hx
  clear hx
  have bP := Blk.new w 34 #[.int .i64 k, .int .i64 n]
  have hb0 : Below w.heap.size w (w.alloc (.cells #[.int .i64 k, .int .i64 n] 34)) := (Below.refl _ _).alloc (Nat.le_refl _) _
  by_cases h1000 : 1000 < S.size
  · go_enter Try.func6, Try.ntmps6
    go_wp2_with (go_at_call 8; refine (works_any _).mono ?_; rintro e w1 ⟨rfl, hb1⟩)
    go_ret
    exact ⟨rfl, hb0.trans (hb1.mono hb0.size)⟩
  · by_cases h60 : 60 < os.length
    · go_enter Try.func6, Try.ntmps6
      go_wp2_with (go_at_call 8; refine (works_any _).mono ?_; rintro e w1 ⟨rfl, hb1⟩)
      go_ret
      exact ⟨rfl, hb0.trans (hb1.mono hb0.size)⟩
    · go_enter Try.func6, Try.ntmps6
      go_wp2_with (go_at_call 8; refine (works_any _).mono ?_; rintro e w1 ⟨rfl, hb1⟩)
      have hB1 := hb0.trans (hb1.mono hb0.size)
      have bP1 := bP.below hb1 bP.lt
      clear hb0 hb1 bP
      refine (Of_any S _).mono ?_
      rintro e w2 ⟨rfl, hR2, hb2⟩
      have hB2 := hB1.trans (hb2.mono hB1.size)
      have bP2 := bP1.below hb2 bP1.lt
      have hr0 : w.heap.size < w1.heap.size := bP1.lt
      obtain ⟨r, hr⟩ : ∃ r, w1.heap.size = r := ⟨_, rfl⟩
      rw [hr] at hR2 hr0 ⊢
      clear hr bP1 hB1 hb2
      go_wp2_with fail
      go_loopw [9] (fun i wr => ∃ j : Nat, j ≤ os.length ∧ i = .int .i64 j ∧ Below w.heap.size w wr ∧ Blk wr w.heap.size 34 #[.int .i64 k, .int .i64 n] ∧ ∃ (p : Nat) (er : Int), p ≤ S.size ∧ Rd wr r S p er) (fun i _ => os.length - (intOf i).toNat)
      case atStart => exact ⟨0, by omega, rfl, hB2, bP2, 0, 0, by omega, hR2⟩
      case round =>
        clear hB2 bP2 hR2
        obtain ⟨j, hj, rfl, hB, bP, p, er, hp, hR⟩ := hrel
        by_cases hlt : j < os.length
        · obtain ⟨x, hxk⟩ : ∃ x, os[j]? = some x := ⟨_, List.getElem?_eq_getElem hlt⟩
          obtain ⟨ad, rfl, hb, ok, h0, h1⟩ := (HX.out.below hB) j x hxk
          have HD := Lib.hid (do_any r S p er x.1 x.2 ok wr (by omega) hp hR)
          have hfr := fin_range S p er x.1 x.2 hp
          clear hxk ok
          go_wp2_with fail
          refine (HD.out).mono ?_
          intro e w3 hq
          generalize (outOf S p x.1 x.2).fin er p = f at hq hfr
          obtain ⟨he, hR3, hk3⟩ := hq
          subst he
          obtain ⟨q, hqq⟩ := Int.eq_ofNat_of_zero_le hfr.1
          have HQ := Lib.hid hqq
          rw [hqq] at hR3 hfr
          clear hqq
          have hB3 := Kept.fresh hB hk3 hB.size (by rintro i rfl; omega)
          have bP3 := bP.kept hk3 (show ¬ w.heap.size = r by omega)
          go_wp2_with fail
          go_roundw
          case rel => exact ⟨j + 1, by omega, by go_num, hB3, bP3, q, f.er, by omega, hR3⟩
          case measure => simp [intOf]; omega
        · have hk9 : j = os.length := by omega
          subst hk9
          obtain ⟨c0, c1, c2⟩ := hR.three
          go_wp2_with fail
          refine (At_any S p _).mono ?_
          rintro e w3 ⟨rfl, hb3⟩
          have hR3 : Rd w3 r S p er := Blk.below hR hb3 hR.lt
          have hB3 := hB.trans (hb3.mono hB.size)
          have bP3 := bP.below hb3 bP.lt
          clear c0 c1 c2 hb3 hR hB bP
          go_wp2_with fail
          refine (End_any r S p er _ (by omega) hp hR3).mono ?_
          rintro e w4 ⟨rfl, hb4⟩
          have hR4 : Rd w4 r S p er := Blk.below hR3 hb4 hR3.lt
          have hB4 := hB3.trans (hb4.mono hB3.size)
          have bP4 := bP3.below hb4 bP3.lt
          clear hb4 hR3 hB3 bP3
          obtain ⟨g0, g1⟩ := bP4.two
          have HD := Lib.hid (do_any r S p er k n hn w4 (by omega) hp hR4)
          have hfr := fin_range S p er k n hp
          by_cases hfine : endOf S p er = 0 ∨ endOf S p er = 5
          · obtain ⟨f, hf⟩ : ∃ f, (outOf S p k n).fin er p = f := ⟨_, rfl⟩
            rw [hf] at HD hfr
            obtain ⟨z, hz⟩ : ∃ z, endOf S p er = z := ⟨_, rfl⟩
            rw [hz] at hfine ⊢
            clear hz hf
            obtain ⟨fn, fi, ft, fto, fer⟩ := f
            simp only at hfr
            obtain ⟨q, rfl⟩ := Int.eq_ofNat_of_zero_le hfr.1
            have q1 : p ≤ q := by omega
            have q2 : q ≤ S.size := by omega
            clear hfr
            rcases hfine with rfl | rfl
            all_goals
              go_wp2_with fail
              refine (HD.out).mono ?_
              intro e w5 hq
              obtain ⟨he, hR5, hk5⟩ := hq
              subst he
              have hB5 := Kept.fresh hB4 hk5 hB4.size (by rintro i rfl; omega)
              clear g0 g1 hR4 hB4 bP4 hk5
              go_wp2_with fail
              go_ret
              exact ⟨rfl, hB5.alloc hB5.size _⟩
          · obtain ⟨hne, he⟩ := endOf_was (fun h => hfine (.inl h)) (fun h => hfine (.inr h))
            rw [fin_no (by rw [fst0_n hne]; exact hne), fst0_n hne] at HD
            rw [he] at hfine ⊢
            have z0 : (er == 0) = false := by simpa using hne
            have z5' : (er == 5) = false := by simpa using fun h => hfine (.inr h)
            have HE := Lib.hid he
            clear hfine hfr hne he
            go_wp2_with fail
            refine (HD.out).mono ?_
            intro e w5 hq
            obtain ⟨he, hR5, hk5⟩ := hq
            rw [HE.out] at he
            have he : e = .returned (.agg #[.int .u64 0, .int .i64 0, .string ⟨#[]⟩, .int .i64 p, .int .i64 er]) := he
            subst he
            have hB5 := Kept.fresh hB4 hk5 hB4.size (by rintro i rfl; omega)
            clear g0 g1 hR4 hB4 bP4 hk5
            go_wp2_with fail
            go_ret
            exact ⟨rfl, hB5.alloc hB5.size _⟩

end Go.Proofs.Ytelljahjkfoleaa.Wire
