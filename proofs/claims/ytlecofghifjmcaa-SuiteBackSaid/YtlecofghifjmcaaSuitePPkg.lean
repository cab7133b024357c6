/-
  Package suite, walked: the tests of bytes; all that it has.
-/
import Derived.Test.YtlecofghifjmcaaSuitePGet
set_option linter.unusedVariables false
namespace Go.Proofs.Ytlecofghifjmcaa.Suite
open Go.RowKit Leb Mem Wire Zig _root_.Go.Proofs.Ytlecofghifjmcaa.Arena _root_.Go.Proofs.Ytlecofghifjmcaa.Delta _root_.Go.Proofs.Ytlecofghifjmcaa.Path _root_.Go.Proofs.Ytlecofghifjmcaa.Cat _root_.Go.Proofs.Ytlecofghifjmcaa.Code
attribute [local go_sem ↓] Go.wp_at_zero Go.wp_at_succ

set_option maxRecDepth 100000 in
set_option maxHeartbeats 4000000 in
theorem PSGet_any (S : ByteArray) (w : World) (hS : S.size ≤ 1000000) : Calls Try.prog 15 #[.string S] w (SEnds S w) := by
  have HOf := Lib.hid (Of_any S w)
  have n1 := askP_count (S := S) (s := (0, 0)) (N := 10000) (by omega) (by omega)
  have n2 := askP_count (S := S) (s := (u1 S).1) (N := 20) (by omega) (by omega)
  have n3 := askP_count (S := S) (s := (u2 S).1) (N := 12) (by omega) (by omega)
  have HU1 := Lib.hid (show askP S (0, 0) 2 10000 = u1 S from rfl)
  have HU2 := Lib.hid (show askP S (u1 S).1 2 20 = u2 S from rfl)
  have HU3 := Lib.hid (show askP S (u2 S).1 2 12 = u3 S from rfl)
  have HU4 := Lib.hid (show rT S (u3 S).1 (u3 S).2.toNat (u2 S).2.toNat = u4 S from rfl)
  have HC := Lib.hid (fun (g : Nat) (W w : World) (s : Int × Int) (h : Rs g S W s w) (N : Int) (hN : N ≤ 9223372036854775807) => h.count N hN)
  rw [HU1.out] at n1
  rw [HU2.out] at n2
  rw [HU3.out] at n3
  have HF := Lib.hid (fits_u S)
  have HQ := Lib.hid (@same_u S)
  have H64 := Lib.hid (u4_64 S)
  have hTl : (u4 S).1.length ≤ 1000000 := by
    rw [← HU4.out, rrows_len]
    omega
  obtain ⟨n, hn⟩ := Int.eq_ofNat_of_zero_le n2.1
  obtain ⟨m, hm⟩ := Int.eq_ofNat_of_zero_le n3.1
  rw [hn, hm, Int.toNat_natCast, Int.toNat_natCast] at HU4
  have HN := Lib.hid hn
  have HM := Lib.hid hm
  have hn20 : n ≤ 20 := by omega
  have hm12 : m ≤ 12 := by omega
  clear n1 n2 n3 hn hm
  have HPut := Lib.hid (fun A c w' (h : TRow w' A (u4 S).1) => SPut_any A c (u4 S).1 (u1 S).2 w' h hTl H64.out)
  have HSZ := serr_zero (ts := (u4 S).1) (f := (u1 S).2)
  have HSE : serr (u4 S).1 (u1 S).2 = 0 → (⟨(sputE (u4 S).1 (u1 S).2).toArray⟩ : ByteArray).data.toList = sput (u4 S).1 (u1 S).2 := fun h => by
    show sputE (u4 S).1 (u1 S).2 = _
    unfold sputE
    rw [if_pos h]
  generalize (⟨(sputE (u4 S).1 (u1 S).2).toArray⟩ : ByteArray) = Z at *
  generalize serr (u4 S).1 (u1 S).2 = E at *
  have key : (sfits S ∧ E = 0 ∧ S = Z) ∨ (¬ sfits S ∧ (E != 0) = true) ∨ (¬ sfits S ∧ E = 0 ∧ (Z.toList == S.toList) = false) := by
    by_cases hE : E = 0
    · by_cases hZ : Z = S
      · exact .inl ⟨HF.out.1 ⟨HSZ.1 hE, by rw [← HSE hE, hZ]⟩, hE, hZ.symm⟩
      · refine .inr (.inr ⟨fun q => hZ ?_, hE, ?_⟩)
        · have := (HF.out.2 q).2
          rw [← HSE hE] at this
          exact ByteArray.ext (Array.toList_inj.1 this)
        · rw [beq_eq_false_iff_ne]
          intro q
          rw [ByteArray.toList_eq, ByteArray.toList_eq] at q
          exact hZ (ByteArray.ext (Array.toList_inj.1 q))
    · exact .inr (.inl ⟨fun q => hE (HSZ.2 (HF.out.2 q).1), by simpa using hE⟩)
  clear HSZ HSE HF
  have HLQ : Hid (sfits S → (u4 S).1 = (t4 S).1 ∧ (u1 S).2 = (t1 S).2) := Lib.hid HQ.out
  clear HQ
  rcases key with ⟨hf, hE, hZ⟩ | ⟨hf, hE⟩ | ⟨hf, hE, hZ⟩
  all_goals (try subst hE)
  all_goals (try subst hZ)
  all_goals have HFF := Lib.hid hf
  all_goals clear hf
  all_goals go_enter Try.func15, Try.ntmps15
  all_goals go_wp2_with (first
    | (go_at_call 34; (with_reducible refine HOf.out.mono ?_); rintro e w1 ⟨rfl, hrd, hb1⟩
       have bD := Blk.new w1 50 #[.pointer (some ⟨w.heap.size, 0, none⟩)]
       have hbD : Below w1.heap.size w1 (w1.alloc (.cells #[.pointer (some ⟨w.heap.size, 0, none⟩)] 50)) := (Below.refl _ _).alloc (Nat.le_refl _) _
       have hgl : w.heap.size < w1.heap.size := hrd.lt
       have hrd2 := hrd.below hbD hgl
       have hR0 : Rs w.heap.size S (w1.alloc (.cells #[.pointer (some ⟨w.heap.size, 0, none⟩)] 50)) (0, 0) (w1.alloc (.cells #[.pointer (some ⟨w.heap.size, 0, none⟩)] 50)) := ⟨hrd2, Kept.refl _ _, Int.le_refl _, by simp, by omega⟩
       have hbW := hb1.trans (hbD.mono hb1.size)
       have K1 := Lib.hid (HC.out _ _ _ _ hR0 10000 (by omega))
       rw [HU1.out] at K1
       have hDg : w1.heap.size ≠ w.heap.size := by omega)
    | (go_at_call 35; first
        | ((with_reducible refine K1.out.mono ?_); rintro e w2 ⟨rfl, hR1⟩
           have d0 := (hR1.blk bD hDg).cell 0
           have K2 := Lib.hid (HC.out _ _ _ _ hR1 20 (by omega))
           rw [HU2.out, HN.out] at K2)
        | ((with_reducible refine K2.out.mono ?_); rintro e w3 ⟨rfl, hR2⟩
           have d0 := (hR2.blk bD hDg).cell 0
           have K3 := Lib.hid (HC.out _ _ _ _ hR2 12 (by omega))
           rw [HU3.out, HM.out] at K3)
        | ((with_reducible refine K3.out.mono ?_); rintro e w4 ⟨rfl, hR3⟩
           have d0 := (hR3.blk bD hDg).cell 0
           have bD4 := hR3.blk bD hDg
           have hb4 : Below w.heap.size w w4 := hbW.trans (hR3.kept.to_below hbW.size (fun k e => by omega))
           have hlt4 := bD4.lt
           have bM := Blk.new w4 3 #[.int .i64 (m : Int)]
           have hbM : Below w4.heap.size w4 (w4.alloc (.cells #[.int .i64 (m : Int)] 3)) := (Below.refl _ _).alloc (Nat.le_refl _) _
           have bD5 := bD4.below hbM hlt4
           have hR5 := hR3.again hbM
           have hb5 := hb4.trans (hbM.mono hb4.size)
           have KF := Lib.hid (filledT_any w4.heap.size w1.heap.size w.heap.size S (u3 S).1 _ hR5 n m hn20 hm12 bM bD5 (by omega) hDg)
           rw [HU4.out] at KF)
        | fail)
    | (go_at_call 36; (with_reducible refine KF.out.mono ?_); rintro e w6 ⟨hR6, v, rfl, hT⟩
       obtain ⟨A, c, rfl, hc, hA, hTR⟩ := hT.trow
       have hb6 : Below w.heap.size w w6 := hb5.trans (hR6.kept.to_below hb5.size (fun k e => by omega))
       have HP := Lib.hid (HPut.out A c w6 hTR))
    | (go_at_call 13; (with_reducible refine HP.out.mono ?_); rintro e w7 ⟨rfl, hb7⟩
       have hb8 := hb6.trans (hb7.mono hb6.size)
       have hTR7 := hTR.at hb7)
    | fail)
  all_goals go_returns
  · exact ⟨hb8, .inl ⟨HFF.out, A, c, by rw [← (HLQ.out HFF.out).1, ← (HLQ.out HFF.out).2]; exact ⟨rfl, hc, hA, hTR7⟩⟩⟩
  · exact ⟨hb8, .inr ⟨HFF.out, none, 0, rfl⟩⟩
  · exact ⟨hb8, .inr ⟨HFF.out, none, 0, rfl⟩⟩

/-- All that the package's functions come to. -/
theorem supkg : SuPkg :=
  ⟨fun n A c ts f w h => PCheck_any n A c ts f w h.row h.n,
   fun A c ts A' c' us w h h' => PSame_any A c ts A' c' us w h.row h'.row h.n h.m,
   fun A c ts f w h h64 hf => SPut_any A c ts f w h.row h.n h64,
   fun S w hS => PSGet_any S w hS⟩

end Go.Proofs.Ytlecofghifjmcaa.Suite
