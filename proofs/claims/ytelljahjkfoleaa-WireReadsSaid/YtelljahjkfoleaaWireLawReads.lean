/-
  The law of layer 5 on what is read, walked.
-/
import Derived.Test.YtelljahjkfoleaaWireRefR
namespace Go.Proofs.Ytelljahjkfoleaa.Wire
open Go.RowKit Leb Mem

attribute [local go_sem ↓] Go.wp_at_zero Go.wp_at_succ

/-- Reading k's cells in the row of all. -/
theorem row_cells {w : World} {B g n cap : Nat} {S : ByteArray} {os : List (Int × Int)} {k : Nat} (h : w.ownsRow B 31 5 (.slice (some ⟨g, 0, none⟩) n cap) n (gots S os n)) (hk : k < n) :
    w.cell? ⟨g, k * 5, none⟩ = some (.int .u64 (st S os (k + 1)).num) ∧ w.cell? ⟨g, k * 5 + 1, none⟩ = some (.int .i64 (st S os (k + 1)).int) ∧ w.cell? ⟨g, k * 5 + 2, none⟩ = some (.string (strB (st S os (k + 1)).text)) ∧
    w.cell? ⟨g, k * 5 + 3, none⟩ = some (.int .i64 (st S os (k + 1)).to) ∧ w.cell? ⟨g, k * 5 + 4, none⟩ = some (.int .i64 (endOf S (st S os (k + 1)).to (st S os (k + 1)).er)) := by
  have hc : ∀ j, j < 5 → ∀ u, (gcell S (st S os (k + 1)))[j]? = some u → w.cell? ⟨g, k * 5 + j, none⟩ = some u := fun j hj u hu => by
    have := h.cells (g := g) rfl (k * 5 + j) u (by rw [gots_at S os n k j hk hj]; exact hu)
    unfold Addr.add at this
    split at this
    · rename_i e; rw [e]; exact this
    · simpa using this
  exact ⟨hc 0 (by omega) _ rfl, hc 1 (by omega) _ rfl, hc 2 (by omega) _ rfl, hc 3 (by omega) _ rfl, hc 4 (by omega) _ rfl⟩

set_option maxRecDepth 100000 in
set_option maxHeartbeats 2000000 in
theorem wireReads_walk (S : ByteArray) (hS : S.size ≤ maxLen) (A : Option Addr) (cap : Nat) (os : List (Int × Int)) (hlen : os.length ≤ maxLen) (w : World) (hx : Ops w w.heap.size A os) :
    Calls Try.prog 3 #[.string S, .slice A os.length cap] w fun e w' => e = .returned (.bool true) ∧ Below w.heap.size w w' := by
  unfold maxLen at hlen hS
  have HX := Lib.hid hx
  clear hx
  by_cases h1000 : 1000 < S.size
  · go_enter Try.func3, Try.ntmps3
    go_wp2_with (go_at_call 8; refine (works_any _).mono ?_; rintro e w1 ⟨rfl, hb1⟩)
    go_ret
    exact ⟨rfl, hb1⟩
  · by_cases h60 : 60 < os.length
    · go_enter Try.func3, Try.ntmps3
      go_wp2_with (go_at_call 8; refine (works_any _).mono ?_; rintro e w1 ⟨rfl, hb1⟩)
      go_ret
      exact ⟨rfl, hb1⟩
    · go_enter Try.func3, Try.ntmps3
      go_wp2_with (go_at_call 8; refine (works_any _).mono ?_; rintro e w1 ⟨rfl, hB1⟩)
      refine (Of_any S _).mono ?_
      rintro e w2 ⟨rfl, hR2, hb2⟩
      have hB2 := hB1.trans (hb2.mono hB1.size)
      have hr0 : w.heap.size ≤ w1.heap.size := hB1.size
      obtain ⟨r, hr⟩ : ∃ r, w1.heap.size = r := ⟨_, rfl⟩
      rw [hr] at hR2 hr0 ⊢
      clear hr hB1 hb2
      go_wp2_with fail
      refine (ref_Run_any S (by omega) A cap os (by omega) w2 (by
        intro i x hx
        obtain ⟨ad, e, hlt, rr⟩ := (HX.out.below hB2) i x hx
        exact ⟨ad, e, Nat.lt_of_lt_of_le hlt hB2.size, rr⟩)).mono ?_
      rintro e w3 ⟨v, rfl, hO3, hb3⟩
      obtain ⟨A3, c3, e3⟩ := owns_form hO3
      subst e3
      have hR3 : Rd w3 r S 0 0 := Blk.below hR2 hb3 hR2.lt
      have hB3 := hB2.trans (hb3.mono hB2.size)
      have hrow : ∀ i, (Value.slice A3 os.length c3).ownBlock = some i → i ≠ r := fun i hi e => by
        have := (hO3.lt i hi).1
        have := hR2.lt
        omega
      have HRW := Lib.hid hrow
      obtain ⟨b2, hb2⟩ : ∃ b, w2.heap.size = b := ⟨_, rfl⟩
      rw [hb2] at hO3
      clear hR2 hB2 hb3 hrow hb2
      go_wp2_with fail
      go_loopw [8] (fun i wr => ∃ k : Nat, k ≤ os.length ∧ i = .int .i64 k ∧ Below w.heap.size w wr ∧ Rd wr r S (st S os k).to (st S os k).er ∧ wr.ownsRow b2 31 5 (.slice A3 os.length c3) os.length (gots S os os.length)) (fun i _ => os.length - (intOf i).toNat)
      case atStart => exact ⟨0, by omega, rfl, hB3, hR3, hO3⟩
      case round =>
        clear hB3 hR3 hO3
        obtain ⟨k, hk, rfl, hB, hR, hO⟩ := hrel
        by_cases hlt : k < os.length
        · obtain ⟨x, hxk⟩ : ∃ x, os[k]? = some x := ⟨_, List.getElem?_eq_getElem hlt⟩
          obtain ⟨ad, rfl, hb, ok, h0, h1⟩ := (HX.out.below hB) k x hxk
          have HS := Lib.hid (st_succ S os k x hxk)
          obtain ⟨r0, r1⟩ := st_range S os k
          obtain ⟨q, hq⟩ := Int.eq_ofNat_of_zero_le r0
          have hd := do_any r S q (st S os k).er x.1 x.2 ok wr (by omega) (by omega) (by rw [hq] at hR; exact hR)
          have hfe : (outOf S q x.1 x.2).fin (st S os k).er q = st S os (k + 1) := by
            rw [HS.out]; unfold stepO; rw [hq]; rfl
          rw [hfe] at hd
          have HD := Lib.hid hd
          have hg : ∃ g, A3 = some ⟨g, 0, none⟩ := by
            rcases hO.2 with ⟨e, h0⟩ | ⟨g, _, _, e, _⟩
            · omega
            · injection e with e; exact ⟨g, e⟩
          obtain ⟨g, rfl⟩ := hg
          clear hxk ok hq hfe hd r0 r1
          obtain ⟨xk, xn⟩ := x
          simp only at h0 h1
          have i0 : (0 : Int) ≤ (k : Int) := by omega
          have i1 : (k : Int) < (os.length : Int) := by omega
          obtain ⟨f, hf⟩ : ∃ f, st S os (k + 1) = f := ⟨_, rfl⟩
          rw [hf] at HD
          have HF := Lib.hid hf
          clear hf
          go_wp2_with fail
          refine (HD.out).mono ?_
          intro e w4 hq
          obtain ⟨he, hR4, hk4⟩ := hq
          subst he
          have hO4 : w4.ownsRow b2 31 5 (.slice (some ⟨g, 0, none⟩) os.length c3) os.length (gots S os os.length) := ownsRow_of_block hO (fun i hi => hk4.block i (hO.lt i hi).2 (HRW.out i hi))
          have hB4 := Kept.fresh hB hk4 hB.size (by rintro i rfl; exact hr0)
          obtain ⟨y0, y1, y2, y3, y4⟩ := row_cells hO4 hlt
          have hgl : g < w4.heap.size := (hO4.lt g rfl).2
          have hgn : g ≠ w4.heap.size := Nat.ne_of_lt hgl
          have hgn2 : w4.heap.size ≠ g := Nat.ne_of_gt hgl
          rw [HF.out] at y0 y1 y2 y3 y4
          obtain ⟨ee, he⟩ : ∃ ee, endOf S f.to f.er = ee := ⟨_, rfl⟩
          rw [he] at y4 ⊢
          have HEE := Lib.hid he
          clear he h0 h1 hB hR hO hk4
          go_wp2_with fail
          go_quiet (fail)
          clear y0 y1 y2 y3 y4 hgn hgn2
          go_wp2_with fail
          go_roundw
          case rel => exact ⟨k + 1, by omega, by go_num, belowN (hB4.alloc hB4.size _) _, by rw [HF.out]; exact (Blk.alloc hR4 _).drewN _, (hO4.alloc _)⟩
          case measure => simp [intOf]; omega
        · have hk9 : k = os.length := by omega
          subst hk9
          go_wp2_with fail
          go_ret
          exact ⟨rfl, hB⟩

end Go.Proofs.Ytelljahjkfoleaa.Wire
