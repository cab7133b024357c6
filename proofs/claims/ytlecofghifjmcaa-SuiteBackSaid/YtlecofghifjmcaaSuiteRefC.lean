/-
  The reference of tests, walked: the tests of bytes.
-/
import Derived.Test.YtlecofghifjmcaaSuiteRefB
import Derived.Test.YtlecofghifjmcaaCodeRefC
import Derived.Deep.CutBlock
import Derived.Deep.CutRange
set_option linter.unusedVariables false
namespace Go.Proofs.Ytlecofghifjmcaa.Suite
open Go.RowKit Leb Mem Wire Zig _root_.Go.Proofs.Ytlecofghifjmcaa.Arena _root_.Go.Proofs.Ytlecofghifjmcaa.Delta _root_.Go.Proofs.Ytlecofghifjmcaa.Path _root_.Go.Proofs.Ytlecofghifjmcaa.Cat _root_.Go.Proofs.Ytlecofghifjmcaa.Code
attribute [local go_sem ↓] Go.wp_at_zero Go.wp_at_succ

/-- What Get comes to: tests and fuel, or none. -/
def SEnds (S : ByteArray) (w : World) (e : Ending) (w' : World) : Prop :=
  Below w.heap.size w w' ∧
  ((sfits S ∧ ∃ A c, e = .returned (.tuple #[.slice A (t4 S).1.length c, .int .i64 (t1 S).2, .int .i64 0]) ∧ (t4 S).1.length ≤ c ∧ (A = none → c = 0) ∧ TRow w' A (t4 S).1) ∨
   (¬ sfits S ∧ ∃ A c, e = .returned (.tuple #[.slice A 0 c, .int .i64 0, .int .i64 12])))

theorem rp3_range {S : ByteArray} {s : Int × Int} (h0 : 0 ≤ s.1) (h : s.1 ≤ S.size) : ∀ i, 0 ≤ (rp (fun s => Code.ask S s 3) s i).2.1 ∧ (rp (fun s => Code.ask S s 3) s i).2.1 ≤ S.size
  | 0 => ⟨h0, h⟩
  | i + 1 => by
    have ih := rp3_range h0 h i
    exact ask_range ih.1 ih.2
theorem rrows_range {S : ByteArray} {m : Nat} {s : Int × Int} (h0 : 0 ≤ s.1) (h : s.1 ≤ S.size) : ∀ i, 0 ≤ (rrows (fun s => Code.ask S s 3) m s i).2.1 ∧ (rrows (fun s => Code.ask S s 3) m s i).2.1 ≤ S.size
  | 0 => ⟨h0, h⟩
  | i + 1 => by
    have ih := rrows_range (m := m) h0 h i
    exact rp3_range ih.1 ih.2 m

theorem own_setC {w : World} {base : Nat} {e : TypeId} {size : Nat} {v : Value} {n : Nat} {xs : List Value} (h : w.ownsRow base e size v n xs) (a : Addr) (x : Value) (ha : a.block < base) : (w.setCell a x).ownsRow base e size v n xs :=
  own_of_block h (fun i hi => Below.heap_setCell _ _ _ _ (fun z => by have := (h.lt i hi).1; omega))
/-- What the reader's variable holds. -/
structure GM (w : World) (R : Nat) (S : ByteArray) (st : Int × Int) (W : World) : Prop where
  below : Below w.heap.size w W
  rq : Blk W R 58 #[.string S, .int .i64 st.1, .int .i64 st.2]
  lo : w.heap.size ≤ R
section
variable {w W W' : World} {R : Nat} {S : ByteArray} {st : Int × Int}
theorem GM.after (h : GM w R S st W) (hb : Below W.heap.size W W') : GM w R S st W' := ⟨h.below.trans (hb.mono h.below.size), h.rq.below hb h.rq.lt, h.lo⟩
theorem GM.grown {row : Option Nat} (h : GM w R S st W) (hg : W.grownBy W' row) (hr : ∀ k, row = some k → R < k) : GM w R S st W' :=
  ⟨h.below.grown hg h.below.size (fun i e => by have := hr i e; have := h.lo; omega), h.rq.grown hg (fun e => by have := hr _ e.symm; omega), h.lo⟩
theorem GM.setq (h : GM w R S st W) (t : Int × Int) : GM w R S t (((W.setCell ⟨R, 0, none⟩ (.string S)).setCell ⟨R, 1, none⟩ (.int .i64 t.1)).setCell ⟨R, 2, none⟩ (.int .i64 t.2)) := by
  have b := ((h.rq.set 0 (.string S)).set 1 (.int .i64 t.1)).set 2 (.int .i64 t.2)
  simp only [List.setIfInBounds_toArray, List.set_cons_zero, List.set_cons_succ] at b
  exact ⟨((h.below.setCell (p := ⟨R, 0, none⟩) h.lo _).setCell (p := ⟨R, 1, none⟩) h.lo _).setCell (p := ⟨R, 2, none⟩) h.lo _, b, h.lo⟩
end

set_option maxRecDepth 100000 in
set_option maxHeartbeats 4000000 in
theorem ref_SGet_any (S : ByteArray) (w : World) (hS : S.size ≤ 1000000) : Calls Try.prog 16 #[.string S] w (SEnds S w) := by
  have HA := Lib.hid (fun s k hk h0 h1 W => ref_Ask_any S s k hk h0 h1 (by omega) W)
  have hb0 : Below w.heap.size w (w.alloc (.cells #[.string S, .int .i64 0, .int .i64 0] 58)) := (Below.refl _ _).alloc (Nat.le_refl _) _
  have b0 := Blk.new w 58 #[.string S, .int .i64 0, .int .i64 0]
  obtain ⟨w0, hw0⟩ : ∃ w0, w.alloc (.cells #[.string S, .int .i64 0, .int .i64 0] 58) = w0 := ⟨_, rfl⟩
  rw [hw0] at hb0 b0
  have HW0 := Lib.hid hw0
  have hG0 : GM w w.heap.size S (0, 0) w0 := ⟨hb0, b0, Nat.le_refl _⟩
  have a1r := ask_range (S := S) (s := (0, 0)) (k := 2) (by simp) (by simp)
  have HT1 : Hid (t1 S = Code.ask S (0, 0) 2) := Lib.hid rfl
  have HT2 : Hid (t2 S = Code.ask S (t1 S).1 2) := Lib.hid rfl
  have HT3 : Hid (t3 S = Code.ask S (t2 S).1 2) := Lib.hid rfl
  have HT4 : Hid (t4 S = rrows (fun s => Code.ask S s 3) (min (t3 S).2.toNat 13) (t3 S).1 (min (t2 S).2.toNat 21)) := Lib.hid rfl
  have HA1 := Lib.hid (fun W => HA.out (0, 0) 2 (by omega) (by simp) (by simp) W)
  rw [← HT1.out] at a1r HA1
  have a2r := ask_range (S := S) (s := (t1 S).1) (k := 2) a1r.1 a1r.2
  have HA2 := Lib.hid (fun W => HA.out (t1 S).1 2 (by omega) a1r.1 a1r.2 W)
  rw [← HT2.out] at a2r HA2
  have a3r := ask_range (S := S) (s := (t2 S).1) (k := 2) a2r.1 a2r.2
  have HA3 := Lib.hid (fun W => HA.out (t2 S).1 2 (by omega) a2r.1 a2r.2 W)
  rw [← HT3.out] at a3r HA3
  have HF : Hid (sfits S ↔ SRight (t4 S).1 (t1 S).2 ∧ sput (t4 S).1 (t1 S).2 = S.data.toList) := Lib.hid Iff.rfl
  have H64 := Lib.hid (t4_64 S)
  generalize hq1 : (t1 S).2 = f at *
  generalize hq2 : (t2 S).2 = n at *
  generalize hq3 : (t3 S).2 = wd at *
  generalize (t1 S).1 = s1 at *
  generalize (t2 S).1 = s2 at *
  generalize (t3 S).1 = s3 at *
  have HQ1 := Lib.hid hq1
  clear hq1 hq2 hq3
  have c0 := hG0.rq.cell 0
  have c1 := hG0.rq.cell 1
  have c2 := hG0.rq.cell 2
  clear hw0 hb0 b0 a1r a2r
  go_enter Try.func16, Try.ntmps16
  go_wp2_with fail
  rw [HW0.out]
  refine (HA1.out _).mono ?_
  rintro e w1 ⟨rfl, hb1⟩
  have hG1 := hG0.after hb1
  have f0 := hG1.rq.frozen 0
  have f1 := hG1.rq.frozen 1
  have f2 := hG1.rq.frozen 2
  have c0 := hG1.rq.cell 0
  have c1 := hG1.rq.cell 1
  have c2 := hG1.rq.cell 2
  have hG2 := hG1.setq s1
  have d0 := hG2.rq.cell 0
  have d1 := hG2.rq.cell 1
  have d2 := hG2.rq.cell 2
  have HB2 := Lib.hid hG2.below
  clear hG0 hG1 hb1
  go_wp2_with fail
  refine (HA2.out _).mono ?_
  rintro e w3 ⟨rfl, hb3⟩
  have hB3 := HB2.out.trans (hb3.mono HB2.out.size)
  have b4 := Blk.new w3 58 #[.string S, .int .i64 s2.1, .int .i64 s2.2]
  have hB4 := hB3.alloc hB3.size (.cells #[.string S, .int .i64 s2.1, .int .i64 s2.2] 58)
  have e0 := b4.cell 0
  have e1 := b4.cell 1
  have e2 := b4.cell 2
  have HB4 := Lib.hid hB4
  clear hb3 hB3 hB4 b4 c0 c1 c2 d0 d1 d2 f0 f1 f2 hG2
  go_wp2_with fail
  refine (HA3.out _).mono ?_
  rintro e w5 ⟨rfl, hb5⟩
  have hB5 := HB4.out.trans (hb5.mono HB4.out.size)
  have b6 := Blk.new w5 58 #[.string S, .int .i64 s3.1, .int .i64 s3.2]
  have hB6 := hB5.alloc hB5.size (.cells #[.string S, .int .i64 s3.1, .int .i64 s3.2] 58)
  have hG6 : GM w w5.heap.size S s3 (w5.alloc (.cells #[.string S, .int .i64 s3.1, .int .i64 s3.2] 58)) := ⟨hB6, b6, hB5.size⟩
  clear hb5 hB5 b6 hB6 e0 e1 e2
  go_wp2_with fail
  obtain ⟨w6, hw6⟩ : ∃ w6, w5.alloc (.cells #[.string S, .int .i64 s3.1, .int .i64 s3.2] 58) = w6 := ⟨_, rfl⟩
  rw [hw6] at hG6 ⊢
  clear hw6
  generalize w5.heap.size = R at *
  obtain ⟨M, hM⟩ : ∃ M, min n.toNat 21 = M := ⟨_, rfl⟩
  obtain ⟨m, hm⟩ : ∃ m, min wd.toNat 13 = m := ⟨_, rfl⟩
  rw [hM, hm] at HT4
  have HRR := Lib.hid (rrows_range (m := m) a3r.1 a3r.2)
  have hbR : R + 1 ≤ w6.heap.size := hG6.rq.lt
  go_loopw [11, 12] (fun v i wr => ∃ k : Nat, k ≤ M ∧ i = .int .i64 k ∧ GM w R S (rrows (fun s => Code.ask S s 3) m s3 k).2 wr ∧ TOwn wr (R + 1) v (rrows (fun s => Code.ask S s 3) m s3 k).1 ∧ R + 1 ≤ wr.heap.size) (fun _ i _ => 21 - (intOf i).toNat)
  case atStart => exact ⟨0, by omega, rfl, hG6, TOwn.nil _ _, hbR⟩
  case round =>
    clear hG6 hbR
    obtain ⟨k, hk, rfl, hG, hO, hbw⟩ := hrel
    have hlen := rrows_len (fun s => Code.ask S s 3) m s3 k
    by_cases hlt : k < M
    · have j1 : (k : Int) < n := by omega
      have j2 : (k : Int) < 21 := by omega
      have hst : rrows (fun s => Code.ask S s 3) m s3 (k + 1) = ((rrows (fun s => Code.ask S s 3) m s3 k).1 ++ [(rp (fun s => Code.ask S s 3) (rrows (fun s => Code.ask S s 3) m s3 k).2 m).1], (rp (fun s => Code.ask S s 3) (rrows (fun s => Code.ask S s 3) m s3 k).2 m).2) := rfl
      have hr0 := HRR.out k
      have HS := Lib.hid hst
      clear hst
      generalize (rrows (fun s => Code.ask S s 3) m s3 k).1 = T at *
      generalize (rrows (fun s => Code.ask S s 3) m s3 k).2 = st0 at *
      have HR2 := Lib.hid (rp3_range hr0.1 hr0.2)
      have HO := Lib.hid hO
      have hbs := hG.rq.lt
      clear hO
      obtain ⟨W0, hW0⟩ : ∃ W0, W0 = wr := ⟨_, rfl⟩
      subst hW0
      go_wp2_with fail
      go_loopw [13, 14] (fun l j W => ∃ q : Nat, q ≤ m ∧ j = .int .i64 q ∧ GM w R S (rp (fun s => Code.ask S s 3) st0 q).2 W ∧ W.ownsRow W0.heap.size 3 1 l (rp (fun s => Code.ask S s 3) st0 q).1.length (icells (rp (fun s => Code.ask S s 3) st0 q).1) ∧ Kept (· = R) W0 W) (fun _ j _ => 13 - (intOf j).toNat)
      case atStart => exact ⟨0, by omega, rfl, hG, World.ownsRow_nil _ _ _ _, Kept.refl _ _⟩
      case round =>
        obtain ⟨q, hq, rfl, hGi, hOi, hKi⟩ := hrel
        have hlen2 := rp_len (fun s => Code.ask S s 3) st0 q
        have g0 := hGi.rq.cell 0
        have g1 := hGi.rq.cell 1
        have g2 := hGi.rq.cell 2
        by_cases hlt2 : q < m
        · have j3 : (q : Int) < wd := by omega
          have j4 : (q : Int) < 13 := by omega
          have hst2 : rp (fun s => Code.ask S s 3) st0 (q + 1) = ((rp (fun s => Code.ask S s 3) st0 q).1 ++ [(Code.ask S (rp (fun s => Code.ask S s 3) st0 q).2 3).2], (Code.ask S (rp (fun s => Code.ask S s 3) st0 q).2 3).1) := rfl
          have hAA := HA.out (rp (fun s => Code.ask S s 3) st0 q).2 3 (by omega) (HR2.out q).1 (HR2.out q).2
          have har := ask_range (S := S) (s := (rp (fun s => Code.ask S s 3) st0 q).2) (k := 3) (HR2.out q).1 (HR2.out q).2
          generalize (Code.ask S (rp (fun s => Code.ask S s 3) st0 q).2 3).2 = t at *
          generalize (Code.ask S (rp (fun s => Code.ask S s 3) st0 q).2 3).1 = st at *
          have HS2 := Lib.hid hst2
          have HAA := Lib.hid hAA
          clear hst2 hAA
          generalize (rp (fun s => Code.ask S s 3) st0 q).1 = L at *
          generalize (rp (fun s => Code.ask S s 3) st0 q).2 = st1 at *
          have hll : L.length ≤ 13 := by omega
          clear hlen2
          go_wp2_with (first
            | (go_at_call 40; (with_reducible refine (HAA.out _).mono ?_); rintro e w8 ⟨rfl, hb8⟩
               have hG8 := hGi.after hb8
               have hK8 := hKi.below hb8
               have hO8 := own_of_block hOi (fun i hi => hb8.block i (hOi.lt i hi).2)
               have bX := (Blk.new w8 58 #[.string S, .int .i64 st.1, .int .i64 st.2]).alloc (.cells #[.int .i64 t] 3)
               have bT := Blk.new (w8.alloc (.cells #[.string S, .int .i64 st.1, .int .i64 st.2] 58)) 3 #[.int .i64 t]
               have hb10 : Below w8.heap.size w8 ((w8.alloc (.cells #[.string S, .int .i64 st.1, .int .i64 st.2] 58)).alloc (.cells #[.int .i64 t] 3)) := ((Below.refl _ _).alloc (Nat.le_refl _) _).alloc (by simp) _
               have hG10 := hG8.after hb10
               have hK10 := hK8.below hb10
               have hO10 := own_of_block hO8 (fun i hi => hb10.block i (hO8.lt i hi).2)
               rw [World.size_alloc] at bT
               have hN10 := IRow.of_blk (ks := [t]) bT bT.lt
               have hrow := fun i hi => hO8.lt i hi
               have hsz10 := hK10.size)
            | (at_builtin; (refine append_ints rfl _ _ rfl W0.heap.size hsz10 _ L rfl hO10 _ _ 1 [t] 1 rfl rfl (fun e => by cases e) hN10 (by simp only [List.length_singleton]; omega) ?_; intro v11 w11 hown hgr hat)
               have bX11 := bX.grown hgr (fun e => by have := hrow _ e.symm; omega)
               have x0 := bX11.cell 0
               have x1 := bX11.cell 1
               have x2 := bX11.cell 2
               have hG11 := hG10.grown hgr (fun i e => by have := hrow i e; omega)
               have f0 := hG11.rq.frozen 0
               have f1 := hG11.rq.frozen 1
               have f2 := hG11.rq.frozen 2
               have g0 := hG11.rq.cell 0
               have g1 := hG11.rq.cell 1
               have g2 := hG11.rq.cell 2
               have hG12 := hG11.setq st
               have hK11 : Kept (· = R) W0 w11 := hK10.grown hgr (fun i e => .inr (hrow i e).1)
               have hK12 := ((hK11.setCell (p := ⟨R, 0, none⟩) (.inl rfl) (.string S)).setCell (p := ⟨R, 1, none⟩) (.inl rfl) (.int .i64 st.1)).setCell (p := ⟨R, 2, none⟩) (.inl rfl) (.int .i64 st.2)
               have hO12 := own_setC (own_setC (own_setC hown ⟨R, 0, none⟩ (.string S) (by show R < _; omega)) ⟨R, 1, none⟩ (.int .i64 st.1) (by show R < _; omega)) ⟨R, 2, none⟩ (.int .i64 st.2) (by show R < _; omega))
            | fail)
          go_roundw
          case rel => exact ⟨q + 1, by omega, by go_num, by rw [HS2.out]; exact hG12, by rw [HS2.out]; exact hO12, hK12⟩
          case measure => simp [intOf]; omega
        · obtain rfl : q = m := by omega
          have hcc : ¬ (q : Int) < wd ∨ ((q : Int) < wd ∧ ¬ (q : Int) < 13) := by omega
          generalize (rp (fun s => Code.ask S s 3) st0 q).2 = st9 at *
          generalize (rp (fun s => Code.ask S s 3) st0 q).1 = L at *
          have hOT := HO.out.kept hKi (fun i h1 h2 h3 => by omega)
          obtain ⟨P, pc, rfl, q1, q2, q3, q4⟩ := own_ints2' hOi
          have hbA : Below wr.heap.size wr (wr.alloc (.cells #[.slice P L.length pc] 34)) := (Below.refl _ _).alloc (Nat.le_refl _) _
          have hOA := hOT.below hbA
          have bA := Blk.new wr 34 #[.slice P L.length pc]
          have hGA := hGi.after hbA
          have hok : TOk (wr.alloc (.cells #[.slice P L.length pc] 34)) P pc L := ⟨q3.at hbA, q1, q2⟩
          have hne : L ≠ [] → ∀ ad, P = some ad → R + 1 ≤ ad.block ∧ u11.ownBlock ≠ some ad.block := fun _ ad e => ⟨by have := q4 ad e; omega, fun z => by have := (HO.out.lt _ z).2; have := q4 ad e; omega⟩
          have hszA : R + 1 ≤ (wr.alloc (.cells #[.slice P L.length pc] 34)).heap.size := by have := hbA.size; have := hKi.size; omega
          have hlo := fun i hi => (hOT.lt i hi).1
          have hTl : T.length ≤ 21 := by omega
          clear hOi q3 hOT hKi hGi g0 g1 g2 hlen2 hlen
          rcases hcc with j3 | ⟨j3, j4⟩
          all_goals
            go_wp2_with (first
              | (at_builtin; (refine append_test rfl _ _ rfl (R + 1) hszA _ T rfl hOA wr.heap.size P pc L rfl bA (by omega) hok hne ?_; intro v9 w9 hO9 hgr hat))
              | fail)
            have hG9 := hGA.grown hgr (fun i e => by have := hlo i e; omega)
            go_roundw
            case rel => exact ⟨k + 1, by omega, by go_num, by rw [HS.out]; exact hG9, by rw [HS.out]; exact hO9, Nat.le_trans hszA hgr.size⟩
            case measure => simp [intOf]; omega
    · obtain rfl : k = M := by omega
      have hcc : ¬ (k : Int) < n ∨ ((k : Int) < n ∧ ¬ (k : Int) < 21) := by omega
      rw [← HT4] at hG hO hlen
      obtain ⟨A9, c9, rfl, hc9, hA9, hR9⟩ := hO.trow
      have HP := Lib.hid (ref_SPut_any A9 c9 (t4 S).1 f wr hR9 H64.out)
      have HR9 := Lib.hid hR9
      have HSE : Hid (sputE (t4 S).1 f = if serr (t4 S).1 f = 0 then sput (t4 S).1 f else []) := Lib.hid rfl
      have HSZ := Lib.hid (serr_zero (ts := (t4 S).1) (f := f))
      have HB := Lib.hid hG.below
      clear hG hO hR9 hlen HRR HA a3r
      generalize hTT : (t4 S).1 = T at *
      have HTT := Lib.hid hTT
      clear hTT
      generalize serr T f = E at *
      by_cases hE : E = 0
      · obtain ⟨Z, hZ⟩ : ∃ Z : ByteArray, (⟨(sputE T f).toArray⟩ : ByteArray) = Z := ⟨_, rfl⟩
        have hZl : Z.data.toList = sput T f := by rw [← hZ, HSE.out, if_pos hE]
        rw [hZ, hE] at HP
        by_cases hZS : Z = S
        · subst hZS
          have HFF := Lib.hid (HF.out.2 ⟨HSZ.out.1 hE, hZl.symm⟩)
          clear hZ hZl HF HSE hE
          rcases hcc with j1 | ⟨j1, j2⟩
          all_goals
            go_wp2_with (go_at_call 14; refine HP.out.mono ?_; rintro e w2 ⟨rfl, hb2⟩)
            go_returns
            refine ⟨HB.out.trans (hb2.mono HB.out.size), .inl ⟨HFF.out, A9, c9, ?_⟩⟩
            rw [HTT.out, HQ1.out]
            exact ⟨rfl, hc9, hA9, HR9.out.at hb2⟩
        · have hf : ¬ sfits S := fun q => hZS (by
            have := (HF.out.1 q).2
            rw [← hZl] at this
            exact ByteArray.ext (Array.toList_inj.1 this))
          have hbe : (Z.toList == S.toList) = false := by
            rw [beq_eq_false_iff_ne]
            intro q
            rw [ByteArray.toList_eq, ByteArray.toList_eq] at q
            exact hZS (ByteArray.ext (Array.toList_inj.1 q))
          have HFF := Lib.hid hf
          clear hZ hZl HF HSE hE hZS hf
          rcases hcc with j1 | ⟨j1, j2⟩
          all_goals
            go_wp2_with (go_at_call 14; refine HP.out.mono ?_; rintro e w2 ⟨rfl, hb2⟩)
            go_returns
            exact ⟨HB.out.trans (hb2.mono HB.out.size), .inr ⟨HFF.out, none, 0, rfl⟩⟩
      · have e0 : (E == 0) = false := by simpa using hE
        have e1 : (E != 0) = true := by simpa using hE
        have HFF := Lib.hid (fun q => hE (HSZ.out.2 (HF.out.1 q).1))
        clear HF HSE
        rcases hcc with j1 | ⟨j1, j2⟩
        all_goals
          go_wp2_with (go_at_call 14; refine HP.out.mono ?_; rintro e w2 ⟨rfl, hb2⟩)
          go_returns
          exact ⟨HB.out.trans (hb2.mono HB.out.size), .inr ⟨HFF.out, none, 0, rfl⟩⟩

end Go.Proofs.Ytlecofghifjmcaa.Suite
