/-
  The document's own text for what is read, walked: a number that is taken as it is, or with its sign.
-/
import Derived.Test.YtlecofghifjmcaaWireRefD
import Derived.Deep.RegionWith
import Derived.Deep.RegionHeld3
namespace Go.Proofs.Ytlecofghifjmcaa.Wire
open Go.RowKit Leb Mem

set_option maxRecDepth 100000 in
set_option maxHeartbeats 1000000 in
theorem ref_Do_2 (S : ByteArray) (p : Nat) (m : Nat) (b : Int) (hs : S.size ≤ 1073741824) (hl : lget S.data.toList p = (m, b, 0)) (n : Int) (w : World) (h0 : 0 ≤ n) (h1 : n ≤ 9223372036854775807) (h : (m : Int) ≤ n) :
    Calls Try.prog 51 #[.agg #[.string S, .int .i64 p, .int .i64 0], .agg #[.int .i64 2, .int .i64 n]] w (TwoEnds S ⟨m, 0, [], b, 0⟩ w) := by
  have hF := DoFr.new w S p 0 2 n
  have HG := Lib.hid (fun W => ref_get_any S p hs W)
  have HL := Lib.hid hl
  clear hl
  have hu := wrap_u64_of (n := n) (by omega) h1
  go_enter Try.func51, Try.ntmps51
  go_wp2_with fail
  refine (HG.out (w0 w S p 0 2 n)).mono ?_
  intro e w1 hq
  obtain ⟨rfl, hb1⟩ := hq.to HL.out
  have hF := hF.below hb1
  obtain ⟨r0, r1, r2⟩ := hF.R.three
  obtain ⟨o0, o1⟩ := hF.O.two
  obtain ⟨⟨x0, x1, x2⟩, ⟨y0, y1, y2, y3, y4⟩, f6, f7⟩ := hF.Z.facts
  have fR := hF.R.frozen
  have hB := hF.B
  clear hb1 hq HG
  go_wp2_with fail
  refine bodyPost_ret (v := .tuple #[.agg #[.string S, .int .i64 b, .int .i64 0], .agg #[.int .u64 m, .int .i64 0, .string ⟨#[]⟩, .int .i64 0, .int .i64 0]]) (by simp [results, Try.results51, go_sem, x0, x1, x2, y0, y1, y2, y3, y4]) rfl ?_
  exact TwoEnds.mk rfl rfl (below_sets (hB.setCell (p := ⟨w.heap.size, 1, none⟩) (Nat.le_refl _) _) (by omega) (by omega) _ _ _ _ _ _ _ _)

set_option maxRecDepth 100000 in
set_option maxHeartbeats 1000000 in
theorem ref_Do_else (S : ByteArray) (p : Nat) (k : Int) (m : Nat) (b : Int) (hs : S.size ≤ 1073741824) (k0 : k ≠ 0) (k2 : k ≠ 2) (k3 : k ≠ 3) (k4 : k ≠ 4) (k5 : k ≠ 5) (hl : lget S.data.toList p = (m, b, 0)) (n : Int) (w : World) :
    Calls Try.prog 51 #[.agg #[.string S, .int .i64 p, .int .i64 0], .agg #[.int .i64 k, .int .i64 n]] w (TwoEnds S ⟨m, 0, [], b, 0⟩ w) := by
  have hF := DoFr.new w S p 0 k n
  have HG := Lib.hid (fun W => ref_get_any S p hs W)
  have HL := Lib.hid hl
  clear hl
  have i0 : (k == 0) = false := by simpa using k0
  have i2 : (k == 2) = false := by simpa using k2
  have i3 : (k == 3) = false := by simpa using k3
  have i4 : (k == 4) = false := by simpa using k4
  have i5 : (k == 5) = false := by simpa using k5
  clear k0 k2 k3 k4 k5
  go_enter Try.func51, Try.ntmps51
  go_wp2_with fail
  refine (HG.out (w0 w S p 0 k n)).mono ?_
  intro e w1 hq
  obtain ⟨rfl, hb1⟩ := hq.to HL.out
  have hF := hF.below hb1
  obtain ⟨r0, r1, r2⟩ := hF.R.three
  obtain ⟨o0, o1⟩ := hF.O.two
  obtain ⟨⟨x0, x1, x2⟩, ⟨y0, y1, y2, y3, y4⟩, f6, f7⟩ := hF.Z.facts
  have fR := hF.R.frozen
  have hB := hF.B
  clear hb1 hq HG
  go_wp2_with fail
  refine bodyPost_ret (v := .tuple #[.agg #[.string S, .int .i64 b, .int .i64 0], .agg #[.int .u64 m, .int .i64 0, .string ⟨#[]⟩, .int .i64 0, .int .i64 0]]) (by simp [results, Try.results51, go_sem, x0, x1, x2, y0, y1, y2, y3, y4]) rfl ?_
  exact TwoEnds.mk rfl rfl (below_sets (hB.setCell (p := ⟨w.heap.size, 1, none⟩) (Nat.le_refl _) _) (by omega) (by omega) _ _ _ _ _ _ _ _)

set_option maxRecDepth 100000 in
set_option maxHeartbeats 1000000 in
theorem ref_Do_3 (S : ByteArray) (p : Nat) (m : Nat) (b : Int) (hs : S.size ≤ 1073741824) (hl : lget S.data.toList p = (m, b, 0)) (n : Int) (w : World) :
    Calls Try.prog 51 #[.agg #[.string S, .int .i64 p, .int .i64 0], .agg #[.int .i64 3, .int .i64 n]] w (TwoEnds S ⟨0, Zig.zag m, [], b, 0⟩ w) := by
  have hF := DoFr.new w S p 0 3 n
  have HG := Lib.hid (fun W => ref_get_any S p hs W)
  have HL := Lib.hid hl
  clear hl
  have hm := lget_fst_le S.data.toList p
  rw [HL.out] at hm
  have HZ := Lib.hid (fun W => Zig.ref_Zag_any (m : Int) (by omega) (by omega) W)
  go_enter Try.func51, Try.ntmps51
  go_wp2_with fail
  refine (HG.out (w0 w S p 0 3 n)).mono ?_
  intro e w1 hq
  obtain ⟨rfl, hb1⟩ := hq.to HL.out
  have hF := hF.below hb1
  obtain ⟨r0, r1, r2⟩ := hF.R.three
  obtain ⟨o0, o1⟩ := hF.O.two
  obtain ⟨⟨x0, x1, x2⟩, ⟨y0, y1, y2, y3, y4⟩, f6, f7⟩ := hF.Z.facts
  have fR := hF.R.frozen
  have hB := hF.B
  clear hb1 hq HG
  go_wp2_with fail
  go_region_with (go_at_call 60; refine (HZ.out _).mono ?_; rintro e w2 ⟨rfl, rfl⟩)
  all_goals go_wp2
  all_goals refine bodyPost_ret (v := .tuple #[.agg #[.string S, .int .i64 b, .int .i64 0], .agg #[.int .u64 0, .int .i64 (Zig.zag m), .string ⟨#[]⟩, .int .i64 0, .int .i64 0]]) (by simp [results, Try.results51, go_sem, x0, x1, x2, y0, y1, y2, y3, y4]) rfl ?_
  all_goals exact TwoEnds.mk rfl rfl (below_sets (hB.setCell (p := ⟨w.heap.size, 1, none⟩) (Nat.le_refl _) _) (by omega) (by omega) _ _ _ _ _ _ _ _).drew

theorem fin0_ok {p : Int} {o : Out} (h : o.er = 0) : o.fin 0 p = ⟨o.num, o.int, o.text, o.to, 0⟩ := fin_go (by rw [fst0_0]; exact h)
theorem fin0_no {p : Int} {o : Out} (h : o.er ≠ 0) : o.fin 0 p = ⟨0, 0, [], p, o.er⟩ := by rw [fin_no (by rw [fst0_0]; exact h), fst0_0]

theorem outOf_0a {S : ByteArray} {p : Nat} {n : Int} (h : p < S.size) : outOf S p 0 n = ⟨S[p].toNat, 0, [], (p : Int) + 1, 0⟩ := by unfold outOf; rw [if_pos rfl, dif_pos h]
theorem outOf_0b {S : ByteArray} {p : Nat} {n : Int} (h : ¬ p < S.size) : outOf S p 0 n = ⟨0, 0, [], p, 2⟩ := by unfold outOf; rw [if_pos rfl, dif_neg h]
theorem outOf_2 {S : ByteArray} {p : Nat} {n : Int} : outOf S p 2 n = ⟨(lcount S.data.toList p n).1, 0, [], (lcount S.data.toList p n).2.1, (lcount S.data.toList p n).2.2⟩ := by unfold outOf; rw [if_neg (by decide), if_pos rfl]
theorem outOf_3 {S : ByteArray} {p : Nat} {n : Int} : outOf S p 3 n = ⟨0, Zig.zag ((lget S.data.toList p).1 : Nat), [], (lget S.data.toList p).2.1, (lget S.data.toList p).2.2⟩ := by unfold outOf; rw [if_neg (by decide), if_neg (by decide), if_pos rfl]
theorem outOf_4 {S : ByteArray} {p : Nat} {n : Int} : outOf S p 4 n = ⟨0, 0, (ltext S.data.toList p n).1, (ltext S.data.toList p n).2.1, (ltext S.data.toList p n).2.2⟩ := by unfold outOf; rw [if_neg (by decide), if_neg (by decide), if_neg (by decide), if_pos rfl]
theorem outOf_5 {S : ByteArray} {p : Nat} {n : Int} : outOf S p 5 n = ⟨0, 0, (lraw S.data.toList p n).1, (lraw S.data.toList p n).2.1, (lraw S.data.toList p n).2.2⟩ := by unfold outOf; rw [if_neg (by decide), if_neg (by decide), if_neg (by decide), if_neg (by decide), if_pos rfl]
theorem outOf_e {S : ByteArray} {p : Nat} {k n : Int} (k0 : k ≠ 0) (k2 : k ≠ 2) (k3 : k ≠ 3) (k4 : k ≠ 4) (k5 : k ≠ 5) : outOf S p k n = ⟨(lget S.data.toList p).1, 0, [], (lget S.data.toList p).2.1, (lget S.data.toList p).2.2⟩ := by unfold outOf; rw [if_neg k0, if_neg k2, if_neg k3, if_neg k4, if_neg k5]
/-- What is wrong with the number is wrong with what hangs on it. -/
theorem outOf_err {S : ByteArray} {p : Nat} {k n : Int} (k0 : k ≠ 0) (k5 : k ≠ 5) (h : (lget S.data.toList p).2.2 ≠ 0) : (outOf S p k n).er = (lget S.data.toList p).2.2 := by
  have hc := lcount_err (m := n) h
  by_cases k2 : k = 2
  · subst k2; rw [outOf_2, hc]
  · by_cases k3 : k = 3
    · subst k3; rw [outOf_3]
    · by_cases k4 : k = 4
      · subst k4; rw [outOf_4]; unfold ltext; rw [hc]; simp only; rw [if_pos h]
      · rw [outOf_e k0 k2 k3 k4 k5]

/-- The text at a place, the document's way. -/
theorem ref_text_any (S : ByteArray) (p : Int) (b n : Nat) (hs : S.size ≤ 1073741824) (hb : b ≤ S.size) (w : World) :
    Calls Try.prog 58 #[.agg #[.string S, .int .i64 p, .int .i64 0], .int .i64 b, .int .u64 n] w (TwoEnds S ((⟨0, 0, (lraw S.data.toList b n).1, (lraw S.data.toList b n).2.1, (lraw S.data.toList b n).2.2⟩ : Out).fin 0 p) w) := by
  have hl : S.data.toList.length = S.size := by simp
  by_cases h : (S.size : Int) - b < n
  · have e : lraw S.data.toList b n = ([], (b : Int), 2) := by unfold lraw; rw [if_neg (by omega), if_pos (by rw [hl]; exact h)]
    rw [e, fin0_no (by simp)]
    exact ref_text_no S p 0 b n hs hb h w
  · have e : lraw S.data.toList b n = ((S.data.toList.drop b).take n, (b : Int) + n, 0) := by unfold lraw; rw [if_neg (by omega), if_neg (by rw [hl]; exact h)]; simp
    rw [e, fin0_ok rfl]
    exact ref_text_ok S p 0 b n hs hb (by omega) w

/-- One reading, the document's way. -/
theorem ref_Do_any (S : ByteArray) (p : Nat) (er0 k n : Int) (hn : n ≤ 9223372036854775807) (w : World) (hs : S.size ≤ 1073741824) (hp : p ≤ S.size) :
    Calls Try.prog 51 #[.agg #[.string S, .int .i64 p, .int .i64 er0], .agg #[.int .i64 k, .int .i64 n]] w (TwoEnds S ((outOf S p k n).fin er0 p) w) := by
  by_cases hz : er0 = 0
  · subst hz
    by_cases k0 : k = 0
    · subst k0
      by_cases h1 : p < S.size
      · rw [outOf_0a h1, fin0_ok rfl]
        exact ref_Do_0ok S p hs h1 n w
      · obtain rfl : p = S.size := by omega
        rw [outOf_0b h1, fin0_no (by simp)]
        exact ref_Do_0no S n w
    · by_cases k5 : k = 5
      · subst k5
        rw [outOf_5]
        by_cases h0 : n < 0
        · have e : lraw S.data.toList p n = ([], (p : Int), 1) := by unfold lraw; rw [if_pos h0]
          rw [e, fin0_no (by simp)]
          exact ref_Do_5arg S p n w h0
        · obtain ⟨m, rfl⟩ := Int.eq_ofNat_of_zero_le (show 0 ≤ n by omega)
          exact ref_Do_5 S p _ m w (by omega) hn (fun W => ref_text_any S p p m hs hp W)
      · by_cases he : (lget S.data.toList p).2.2 = 0
        · obtain ⟨g1, g2, g3, -⟩ := lget_only S.data.toList p he
          have hl0 : S.data.toList.length = S.size := by simp
          by_cases k2 : k = 2
          · subst k2
            rw [outOf_2]
            by_cases hg : n < 0 ∨ n < (lget S.data.toList p).1
            · rw [lcount_large he hg, fin0_no (by simp)]
              obtain ⟨⟨m, b, c⟩, hl⟩ : ∃ t, lget S.data.toList p = t := ⟨_, rfl⟩
              rw [hl] at he hg; simp only at he hg; subst he
              exact ref_Do_large2 S p m b hs hl n w hn hg
            · rw [lcount_ok he (by omega) (by omega)]
              obtain ⟨⟨m, b, c⟩, hl⟩ : ∃ t, lget S.data.toList p = t := ⟨_, rfl⟩
              rw [hl] at he hg ⊢; simp only at he hg; subst he
              rw [fin0_ok rfl]
              exact ref_Do_2 S p m b hs hl n w (by omega) hn (by omega)
          · by_cases k3 : k = 3
            · subst k3
              rw [outOf_3]
              obtain ⟨⟨m, b, c⟩, hl⟩ : ∃ t, lget S.data.toList p = t := ⟨_, rfl⟩
              rw [hl] at he ⊢; simp only at he; subst he
              rw [fin0_ok rfl]
              exact ref_Do_3 S p m b hs hl n w
            · by_cases k4 : k = 4
              · subst k4
                rw [outOf_4]
                by_cases hg : n < 0 ∨ n < (lget S.data.toList p).1
                · have e : ltext S.data.toList p n = ([], (p : Int), 4) := by unfold ltext; rw [lcount_large he hg]; simp
                  rw [e, fin0_no (by simp)]
                  obtain ⟨⟨m, b, c⟩, hl⟩ : ∃ t, lget S.data.toList p = t := ⟨_, rfl⟩
                  rw [hl] at he hg; simp only at he hg; subst he
                  exact ref_Do_large4 S p m b hs hl n w hn hg
                · have e : ltext S.data.toList p n = lraw S.data.toList (lget S.data.toList p).2.1 (lget S.data.toList p).1 := by
                    unfold ltext; rw [lcount_ok he (by omega) (by omega), if_neg (by omega)]
                  rw [e]
                  obtain ⟨⟨m, b, c⟩, hl⟩ : ∃ t, lget S.data.toList p = t := ⟨_, rfl⟩
                  rw [hl] at he hg g2 g3 ⊢; simp only at he hg g2 g3 ⊢; subst he
                  obtain ⟨b, rfl⟩ := Int.eq_ofNat_of_zero_le (show 0 ≤ b by omega)
                  exact ref_Do_4 S p _ m b hs hl n w (by omega) hn (by omega) (fun W => ref_text_any S p b m hs (by omega) W)
              · rw [outOf_e k0 k2 k3 k4 k5]
                obtain ⟨⟨m, b, c⟩, hl⟩ : ∃ t, lget S.data.toList p = t := ⟨_, rfl⟩
                rw [hl] at he ⊢; simp only at he; subst he
                rw [fin0_ok rfl]
                exact ref_Do_else S p k m b hs k0 k2 k3 k4 k5 hl n w
        · have e := outOf_err (n := n) k0 k5 he
          rw [fin0_no (by rw [e]; exact he), e]
          obtain ⟨⟨m, b, c⟩, hl⟩ : ∃ t, lget S.data.toList p = t := ⟨_, rfl⟩
          rw [hl] at he ⊢
          exact ref_Do_err S p k m b c hs k0 k5 hl he n w
  · rw [fin_no (by rw [fst0_n hz]; exact hz), fst0_n hz]
    exact ref_Do_was S p er0 k n hz w

end Go.Proofs.Ytlecofghifjmcaa.Wire
