/-
  The reference of code, walked: one thing that is read.
-/
import Derived.Test.YtlecofghifjmcaaCodeG
import Derived.Test.YtlecofghifjmcaaWireRefE
import Derived.Deep.RegionHeld3
import Derived.Deep.DrawnRows
import Derived.Handy
namespace Go.Proofs.Ytlecofghifjmcaa.Code
open Go.RowKit Leb Mem Wire _root_.Go.Proofs.Ytlecofghifjmcaa.Arena _root_.Go.Proofs.Ytlecofghifjmcaa.Kinds
set_option linter.unusedVariables false
attribute [local go_sem ↓] Go.wp_at_zero Go.wp_at_succ

theorem ask_byte_rng (S : ByteArray) (s : Int × Int) : -1 ≤ (ask S s 0).2 ∧ (ask S s 0).2 ≤ 255 := by
  unfold ask
  simp only
  split
  · omega
  · rw [if_neg (by decide)]
    rcases fin_num_or (outOf S s.1.toNat 0 1000000) s.2 s.1.toNat with q | q
    · rw [q]
      unfold outOf
      rw [if_pos rfl]
      split
      · have := byte_le S[s.1.toNat]; simp only; omega
      · simp
    · rw [q]; omega
theorem ask_range {S : ByteArray} {s : Int × Int} {k : Int} (h0 : 0 ≤ s.1) (h : s.1 ≤ S.size) : 0 ≤ (ask S s k).1.1 ∧ (ask S s k).1.1 ≤ S.size := by
  have := fin_range S s.1.toNat s.2 k 1000000 (by omega)
  exact ⟨this.1, this.2.1⟩
theorem fin_num_rng (S : ByteArray) (p : Nat) (er k : Int) (hk : k = 0 ∨ k = 2) : 0 ≤ ((outOf S p k 1000000).fin er p).num ∧ ((outOf S p k 1000000).fin er p).num ≤ 9223372036854775807 := by
  rcases fin_num_or (outOf S p k 1000000) er p with q | q
  · rw [q]
    rcases hk with rfl | rfl
    · unfold outOf
      rw [if_pos rfl]
      split
      · have := byte_le S[p]; simp only; omega
      · simp
    · rw [outOf_2]
      have := lcount_le S.data.toList p 1000000 (by omega)
      simp only
      omega
  · rw [q]; omega

set_option maxRecDepth 100000 in
set_option maxHeartbeats 2000000 in
theorem ref_Ask_any (S : ByteArray) (s : Int × Int) (k : Int) (hk : k = 0 ∨ k = 2 ∨ k = 3) (h0 : 0 ≤ s.1) (h1 : s.1 ≤ S.size) (hs : S.size ≤ 1000000) (w : World) :
    Calls Try.prog 40 #[.agg #[.string S, .int .i64 s.1, .int .i64 s.2], .int .i64 k] w fun e w' => e = .returned (.tuple #[.agg #[.string S, .int .i64 (ask S s k).1.1, .int .i64 (ask S s k).1.2], .int .i64 (ask S s k).2]) ∧ Below w.heap.size w w' := by
  obtain ⟨p, er⟩ := s
  simp only at h0 h1
  obtain ⟨q, rfl⟩ := Int.eq_ofNat_of_zero_le h0
  have hDo := fun W => ref_Do_any S q er k 1000000 (by omega) W (by omega) (by omega)
  have hnum : k = 0 ∨ k = 2 → IntKind.i64.wrap ((outOf S q k 1000000).fin er q).num = ((outOf S q k 1000000).fin er q).num := fun hh => by
    have := fin_num_rng S q er k hh
    exact IntWalk.i64_in _ (by omega)
  have hA : ask S ((q : Int), er) k = ((((outOf S q k 1000000).fin er q).to, ((outOf S q k 1000000).fin er q).er), if ((outOf S q k 1000000).fin er q).er ≠ 0 then -1 else if k = 3 then ((outOf S q k 1000000).fin er q).int else ((outOf S q k 1000000).fin er q).num) := rfl
  rw [hA]
  generalize (outOf S q k 1000000).fin er q = f at *
  obtain ⟨num, int, text, to, er2⟩ := f
  simp only at hnum hDo ⊢
  have HD := Lib.hid (fun W => (hDo W).mono (fun e w' h => h.to))
  simp only at HD
  have hb1 : Below w.heap.size w (w.alloc (.cells #[.string S, .int .i64 q, .int .i64 er] 58)) := (Below.refl _ _).alloc (Nat.le_refl _) _
  have hb2 := hb1.alloc hb1.size (.cells #[.string ⟨#[]⟩, .int .i64 0, .int .i64 0] 58)
  have bR := Blk.new (w.alloc (.cells #[.string S, .int .i64 q, .int .i64 er] 58)) 58 #[.string ⟨#[]⟩, .int .i64 0, .int .i64 0]
  rw [World.size_alloc] at bR
  obtain ⟨w2, hw2⟩ : ∃ w2, (w.alloc (.cells #[.string S, .int .i64 q, .int .i64 er] 58)).alloc (.cells #[.string ⟨#[]⟩, .int .i64 0, .int .i64 0] 58) = w2 := ⟨_, rfl⟩
  rw [hw2] at hb2 bR
  have hlR := bR.lt
  have HW := Lib.hid hw2
  clear hDo hA h0 h1 hb1 hw2
  by_cases he : er2 = 0
  · subst he
    rw [if_neg (by simp)]
    by_cases h3 : k = 3
    · subst h3
      rw [if_pos rfl]
      go_enter Try.func40, Try.ntmps40
      go_wp2_with fail
      rw [HW.out]
      refine (HD.out _).mono ?_
      rintro e w3 ⟨rfl, hb3⟩
      have bR3 := bR.below hb3 hlR
      have hB3 := hb2.trans (hb3.mono hb2.size)
      have bR5 := (bR3.alloc (.cells #[.string S, .int .i64 to, .int .i64 0] 58)).alloc (.cells #[.int .u64 num, .int .i64 int, .string (strB text), .int .i64 0, .int .i64 0] 80)
      have bX5 := (Blk.new w3 58 #[.string S, .int .i64 to, .int .i64 0]).alloc (.cells #[.int .u64 num, .int .i64 int, .string (strB text), .int .i64 0, .int .i64 0] 80)
      have bG5 := Blk.new (w3.alloc (.cells #[.string S, .int .i64 to, .int .i64 0] 58)) 80 #[.int .u64 num, .int .i64 int, .string (strB text), .int .i64 0, .int .i64 0]
      rw [World.size_alloc] at bG5
      have hB5 := (hB3.alloc hB3.size (.cells #[.string S, .int .i64 to, .int .i64 0] 58)).alloc (Nat.le_trans hB3.size (by simp)) (.cells #[.int .u64 num, .int .i64 int, .string (strB text), .int .i64 0, .int .i64 0] 80)
      have hl5 : w.heap.size + 1 < w3.heap.size := bR3.lt
      obtain ⟨r0, r1, r2⟩ := bR5.three
      have rf := bR5.frozen
      obtain ⟨x0, x1, x2⟩ := bX5.three
      obtain ⟨g0, g1, -, -, -⟩ := five bG5
      have hE := Lib.hid (fun v0 v1 v2 => ((((hB5.drew).setCell (p := ⟨w.heap.size + 1, 0, none⟩) (by simp) v0).setCell (p := ⟨w.heap.size + 1, 1, none⟩) (by simp) v1).setCell (p := ⟨w.heap.size + 1, 2, none⟩) (by simp) v2))
      have hE' := Lib.hid (fun v0 v1 v2 => (((hB5.setCell (p := ⟨w.heap.size + 1, 0, none⟩) (by simp) v0).setCell (p := ⟨w.heap.size + 1, 1, none⟩) (by simp) v1).setCell (p := ⟨w.heap.size + 1, 2, none⟩) (by simp) v2))
      clear bR3 bR5 bX5 bG5 hB3 hB5 hb3
      go_wp2_with fail
      go_region
      all_goals go_wp2_with fail
      refine bodyPost_ret (v := .tuple #[.agg #[.string S, .int .i64 to, .int .i64 0], .int .i64 int]) (by simp [results, Try.results40, go_sem, r0, r1, r2]) rfl ?_
      exact ⟨rfl, hE.out _ _ _⟩
    · have hw := hnum (by omega)
      rw [if_neg h3]
      have e3 : (k == 3) = false := by simpa using h3
      clear hnum hk h3
      go_enter Try.func40, Try.ntmps40
      go_wp2_with fail
      rw [HW.out]
      refine (HD.out _).mono ?_
      rintro e w3 ⟨rfl, hb3⟩
      have bR3 := bR.below hb3 hlR
      have hB3 := hb2.trans (hb3.mono hb2.size)
      have bR5 := (bR3.alloc (.cells #[.string S, .int .i64 to, .int .i64 0] 58)).alloc (.cells #[.int .u64 num, .int .i64 int, .string (strB text), .int .i64 0, .int .i64 0] 80)
      have bX5 := (Blk.new w3 58 #[.string S, .int .i64 to, .int .i64 0]).alloc (.cells #[.int .u64 num, .int .i64 int, .string (strB text), .int .i64 0, .int .i64 0] 80)
      have bG5 := Blk.new (w3.alloc (.cells #[.string S, .int .i64 to, .int .i64 0] 58)) 80 #[.int .u64 num, .int .i64 int, .string (strB text), .int .i64 0, .int .i64 0]
      rw [World.size_alloc] at bG5
      have hB5 := (hB3.alloc hB3.size (.cells #[.string S, .int .i64 to, .int .i64 0] 58)).alloc (Nat.le_trans hB3.size (by simp)) (.cells #[.int .u64 num, .int .i64 int, .string (strB text), .int .i64 0, .int .i64 0] 80)
      have hl5 : w.heap.size + 1 < w3.heap.size := bR3.lt
      obtain ⟨r0, r1, r2⟩ := bR5.three
      have rf := bR5.frozen
      obtain ⟨x0, x1, x2⟩ := bX5.three
      obtain ⟨g0, g1, -, -, -⟩ := five bG5
      have hE := Lib.hid (fun v0 v1 v2 => ((((hB5.drew).setCell (p := ⟨w.heap.size + 1, 0, none⟩) (by simp) v0).setCell (p := ⟨w.heap.size + 1, 1, none⟩) (by simp) v1).setCell (p := ⟨w.heap.size + 1, 2, none⟩) (by simp) v2))
      have hE' := Lib.hid (fun v0 v1 v2 => (((hB5.setCell (p := ⟨w.heap.size + 1, 0, none⟩) (by simp) v0).setCell (p := ⟨w.heap.size + 1, 1, none⟩) (by simp) v1).setCell (p := ⟨w.heap.size + 1, 2, none⟩) (by simp) v2))
      clear bR3 bR5 bX5 bG5 hB3 hB5 hb3
      go_wp2_with fail
      go_region
      all_goals go_wp2_with fail
      refine bodyPost_ret (v := .tuple #[.agg #[.string S, .int .i64 to, .int .i64 0], .int .i64 num]) (by simp [results, Try.results40, go_sem, r0, r1, r2]) rfl ?_
      exact ⟨rfl, hE.out _ _ _⟩
  · rw [if_pos (by simpa using he)]
    have e1 : (er2 == 0) = false := by simpa using he
    have e2 : (er2 != 0) = true := by simpa using he
    clear hnum hk he
    go_enter Try.func40, Try.ntmps40
    go_wp2_with fail
    rw [HW.out]
    refine (HD.out _).mono ?_
    rintro e w3 ⟨rfl, hb3⟩
    have bR3 := bR.below hb3 hlR
    have hB3 := hb2.trans (hb3.mono hb2.size)
    have bR5 := (bR3.alloc (.cells #[.string S, .int .i64 to, .int .i64 er2] 58)).alloc (.cells #[.int .u64 num, .int .i64 int, .string (strB text), .int .i64 0, .int .i64 0] 80)
    have bX5 := (Blk.new w3 58 #[.string S, .int .i64 to, .int .i64 er2]).alloc (.cells #[.int .u64 num, .int .i64 int, .string (strB text), .int .i64 0, .int .i64 0] 80)
    have bG5 := Blk.new (w3.alloc (.cells #[.string S, .int .i64 to, .int .i64 er2] 58)) 80 #[.int .u64 num, .int .i64 int, .string (strB text), .int .i64 0, .int .i64 0]
    rw [World.size_alloc] at bG5
    have hB5 := (hB3.alloc hB3.size (.cells #[.string S, .int .i64 to, .int .i64 er2] 58)).alloc (Nat.le_trans hB3.size (by simp)) (.cells #[.int .u64 num, .int .i64 int, .string (strB text), .int .i64 0, .int .i64 0] 80)
    have hl5 : w.heap.size + 1 < w3.heap.size := bR3.lt
    obtain ⟨r0, r1, r2⟩ := bR5.three
    have rf := bR5.frozen
    obtain ⟨x0, x1, x2⟩ := bX5.three
    obtain ⟨g0, g1, -, -, -⟩ := five bG5
    have hE := Lib.hid (fun v0 v1 v2 => ((((hB5.drew).setCell (p := ⟨w.heap.size + 1, 0, none⟩) (by simp) v0).setCell (p := ⟨w.heap.size + 1, 1, none⟩) (by simp) v1).setCell (p := ⟨w.heap.size + 1, 2, none⟩) (by simp) v2))
    have hE' := Lib.hid (fun v0 v1 v2 => (((hB5.setCell (p := ⟨w.heap.size + 1, 0, none⟩) (by simp) v0).setCell (p := ⟨w.heap.size + 1, 1, none⟩) (by simp) v1).setCell (p := ⟨w.heap.size + 1, 2, none⟩) (by simp) v2))
    clear bR3 bR5 bX5 bG5 hB3 hB5 hb3
    go_wp2_with fail
    refine bodyPost_ret (v := .tuple #[.agg #[.string S, .int .i64 to, .int .i64 er2], .int .i64 (-1)]) (by simp [results, Try.results40, go_sem, r0, r1, r2]) rfl ?_
    exact ⟨rfl, hE'.out _ _ _⟩

end Go.Proofs.Ytlecofghifjmcaa.Code
