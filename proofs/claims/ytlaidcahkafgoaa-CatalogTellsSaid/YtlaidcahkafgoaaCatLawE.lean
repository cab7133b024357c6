/-
  The laws of layer 13, walked: what changes a node's tag is a choice the other way round, too.
-/
import Derived.Test.YtlaidcahkafgoaaCatH
import Derived.Deep.RegionHeld3
import Derived.Deep.DrawnRows
set_option linter.unusedVariables false
namespace Go.Proofs.Ytlaidcahkafgoaa.Cat
open Go.RowKit Mem _root_.Go.Proofs.Ytlaidcahkafgoaa.Arena _root_.Go.Proofs.Ytlaidcahkafgoaa.Delta _root_.Go.Proofs.Ytlaidcahkafgoaa.Path
attribute [local go_sem ↓] Go.wp_at_zero Go.wp_at_succ

set_option maxRecDepth 100000 in
set_option maxHeartbeats 4000000 in
theorem catalogBack_of (C : Pkg) (D : DPkg) (A : Option Addr) (c : Nat) (l : List Nd) (hc : l.length ≤ c) (hA : A = none → c = 0) (at_ n : Int) (w : World) (hx : Nodes w w.heap.size A l) :
    Calls Try.prog 7 #[.slice A l.length c, .int .i64 at_, .int .i64 n] w fun e w' => e = .returned (.bool true) ∧ Below w.heap.size w w' := by
  have HW := Lib.hid (fun W => works_any C W)
  have HX := Lib.hid (fun W (h : Below w.heap.size w W) => Nodes.at hx h)
  by_cases h1 : 60 < l.length
  · have j1 : (60 : Int) < (l.length : Int) := by omega
    clear hx
    go_enter Try.func7, Try.ntmps7
    go_wp2_with (go_at_call 8; refine (HW.out _).mono ?_; rintro e w2 ⟨rfl, hb2⟩)
    go_ret
    exact ⟨rfl, hb2⟩
  have j1 : ¬ (60 : Int) < (l.length : Int) := by omega
  have KE := Lib.hid (fun W h => End_any A c l at_ W h (by omega))
  rcases aend_cases l at_ with he | ⟨k, m, rfl, hs, he, hm1, hm2⟩
  · rw [he] at KE
    clear hx h1 he
    go_enter Try.func7, Try.ntmps7
    go_wp2_with (first
      | (go_at_call 8; refine (HW.out _).mono ?_; rintro e w2 ⟨rfl, hb2⟩)
      | (go_at_call 15; refine (KE.out _ (HX.out _ hb2)).mono ?_; rintro e w3 ⟨rfl, hb3⟩; have hB3 := hb2.trans (hb3.mono hb2.size))
      | fail)
    go_ret
    exact ⟨rfl, hB3⟩
  rw [he] at KE
  have K1 := Lib.hid (fun W h => C.choices A c l k W h hc hA (by omega))
  unfold ChEnds at K1
  have hL5 := (chs_facts l k).2.1
  have j2 : ¬ (k : Int) + (m : Int) < 0 := by omega
  have j3 : ¬ (k : Int) < 0 := by omega
  have j4 : ¬ (l.length : Int) ≤ (k : Int) := by omega
  have j5 : (k : Int) < (l.length : Int) := by omega
  have j6 : (0 : Int) ≤ (k : Int) := by omega
  by_cases hn : n < 0
  · clear hx h1 he
    go_enter Try.func7, Try.ntmps7
    go_wp2_with (first
      | (go_at_call 8; refine (HW.out _).mono ?_; rintro e w2 ⟨rfl, hb2⟩)
      | (go_at_call 15; refine (KE.out _ (HX.out _ hb2)).mono ?_; rintro e w3 ⟨rfl, hb3⟩; have hB3 := hb2.trans (hb3.mono hb2.size))
      | (go_at_call 9; refine (K1.out _ (HX.out _ hB3)).mono ?_; rintro e w4 ⟨hb4, A4, c4, rfl, -, -, hD4⟩; have hB4 := hB3.trans (hb4.mono hB3.size))
      | fail)
    go_ret
    exact ⟨rfl, hB4⟩
  obtain ⟨q, rfl⟩ := Int.eq_ofNat_of_zero_le (show 0 ≤ n by omega)
  by_cases hq : (chs l k).length ≤ q
  · have j7 : ((chs l k).length : Int) ≤ (q : Int) := by omega
    have j8 : ¬ (q : Int) < 0 := by omega
    clear hx h1 he
    go_enter Try.func7, Try.ntmps7
    go_wp2_with (first
      | (go_at_call 8; refine (HW.out _).mono ?_; rintro e w2 ⟨rfl, hb2⟩)
      | (go_at_call 15; refine (KE.out _ (HX.out _ hb2)).mono ?_; rintro e w3 ⟨rfl, hb3⟩; have hB3 := hb2.trans (hb3.mono hb2.size))
      | (go_at_call 9; refine (K1.out _ (HX.out _ hB3)).mono ?_; rintro e w4 ⟨hb4, A4, c4, rfl, -, -, hD4⟩; have hB4 := hB3.trans (hb4.mono hB3.size))
      | fail)
    go_ret
    exact ⟨rfl, hB4⟩
  have j7 : ¬ ((chs l k).length : Int) ≤ (q : Int) := by omega
  have j8 : ¬ (q : Int) < 0 := by omega
  have j9 : (q : Int) < ((chs l k).length : Int) := by omega
  have j10 : (0 : Int) ≤ (q : Int) := by omega
  obtain ⟨⟨dop, dn⟩, hd⟩ : ∃ d, (chs l k)[q]? = some d := ⟨_, List.getElem?_eq_getElem (by omega)⟩
  have hmem : (dop, dn) ∈ chs l k := List.mem_of_getElem? hd
  obtain ⟨f1, f2, f3, f4⟩ := chs_apply hs hmem
  have hcis := chs_cis hs hmem
  by_cases ho : 3 < dop
  · clear hx h1 he f1 f2 f3 f4 hcis hmem
    generalize chs l k = L at *
    have HD := Lib.hid hd
    clear hd
    go_enter Try.func7, Try.ntmps7
    go_wp2_with (first
      | (go_at_call 8; refine (HW.out _).mono ?_; rintro e w2 ⟨rfl, hb2⟩)
      | (go_at_call 15; refine (KE.out _ (HX.out _ hb2)).mono ?_; rintro e w3 ⟨rfl, hb3⟩; have hB3 := hb2.trans (hb3.mono hb2.size))
      | (go_at_call 9; refine (K1.out _ (HX.out _ hB3)).mono ?_; rintro e w4 ⟨hb4, A4, c4, rfl, -, -, hD4⟩; have hB4 := hB3.trans (hb4.mono hB3.size); obtain ⟨ad, P, cp, rfl, bl, ok, ce⟩ := DRow.get hD4 HD.out; obtain ⟨a0, a1, a2⟩ := ce; simp only at a1 a2)
      | fail)
    go_ret
    exact ⟨rfl, hB4⟩
  obtain ⟨x', g1, g2, g3, g4⟩ := cis_back (z := behind (dch (apart l k) 0 dop dn) 0) (part_first hs) (by omega) hcis
  have hsR : scan 1 ((dch (apart l k) 0 dop dn).drop 0) = some (dch (apart l k) 0 dop dn).length := f4
  have gn : nodeAt (dch (apart l k) 0 dop dn) 0 = x' := by
    have := nodeAt_some (a := 0) hsR
    rw [g1, show ((0 : Nat) : Int) = 0 from rfl] at this
    exact (Option.some.inj this).symm
  have i1 : isv (dch (apart l k) 0 dop dn) 0 dop (nodeAt l k).1 = true := by
    have := isv_some (a := 0) hsR dop (nodeAt l k).1
    rw [show ((0 : Nat) : Int) = 0 from rfl, gn] at this
    rw [this]; exact g3
  have i2 : isv (dch (apart l k) 0 dop dn) 0 dop dn = false := by
    have := isv_some (a := 0) hsR dop dn
    rw [show ((0 : Nat) : Int) = 0 from rfl, gn] at this
    rw [this]; exact g4
  have hRl : (dch (apart l k) 0 dop dn).length ≤ 100 := by
    have := anew_len f1
    rw [f2, part_len hs] at this
    omega
  have hR0 : 0 < (dch (apart l k) 0 dop dn).length := (List.getElem?_eq_some_iff.1 g1).1
  have hpl : (apart l k).length ≤ 60 := by rw [part_len hs]; omega
  have KP := Lib.hid (fun W h => Part_any A c l k W h hA hc (by omega))
  unfold NodesEnds at KP
  have h0 := nodeAt_some hs
  obtain ⟨adl, rfl, -, -⟩ := hx k _ h0
  have HT := Lib.hid (fun W (h : Below w.heap.size w W) => show W.cell? (adl.add (k * 2)) = some (.int .i64 (nodeAt l k).1) ∧ W.cell? ⟨(adl.add (k * 2)).block, (adl.add (k * 2)).off + 1, none⟩ = some (.int .i64 (nodeAt l k).2) from by
    obtain ⟨ad', e, -, k0, k1⟩ := (hx.below h) k _ h0
    cases e
    exact ⟨k0, k1⟩)
  clear hx h1 he f3 f4 hcis hmem g3 g4 gn hsR h0
  have KA := Lib.hid (fun (B : Option Addr) (ce : Nat) (Q : Option Addr) (cq : Nat) W (h : Kinds.Prg.Ok ⟨0, none, 0, [], B, ce, apart l k⟩ W) (h' : Dlt.Ok ⟨Q, cq, [], dop, dn⟩ W) => show Calls Try.prog 17 #[.agg #[.int .i64 0, .slice none 0 0, .slice B (apart l k).length ce], .agg #[.slice Q 0 cq, .int .i64 dop, .int .i64 dn]] W (fun e w' => Below W.heap.size W w' ∧ ∃ A c B' ce', e = .returned (.tuple #[.agg #[.int .i64 0, .slice A 0 c, .slice B' (dch (apart l k) 0 dop dn).length ce'], .int .i64 0]) ∧ Kinds.Prg.Ok ⟨0, A, c, [], B', ce', dch (apart l k) 0 dop dn⟩ w') from
    ((D.apply ⟨0, none, 0, [], B, ce, apart l k⟩ ⟨Q, cq, [], dop, dn⟩ W h h' (by simp only; omega)).mono (fun e w' q => by have r := q.ok f1; simp only [f2] at r; exact r)))
  have KI := Lib.hid (fun B ce op n W h h1 h2 => C.is B ce (dch (apart l k) 0 dop dn) 0 op n W h h1 h2 (by omega))
  have I1 := Lib.hid i1
  have I2 := Lib.hid i2
  generalize chs l k = L at *
  generalize dch (apart l k) 0 dop dn = R at *
  generalize apart l k = P at *
  generalize nodeAt l k = x at *
  obtain ⟨t, v⟩ := x
  obtain ⟨t', v'⟩ := x'
  simp only at g2 HT i1 I1
  have g2 := g2.symm
  subst g2
  have HD := Lib.hid hd
  have HG := Lib.hid g1
  clear hd f1 f2 g1 i1 i2
  go_enter Try.func7, Try.ntmps7
  go_wp2_with (first
      | (go_at_call 8; refine (HW.out _).mono ?_; rintro e w2 ⟨rfl, hb2⟩)
      | (go_at_call 15; refine (KE.out _ (HX.out _ hb2)).mono ?_; rintro e w3 ⟨rfl, hb3⟩; have hB3 := hb2.trans (hb3.mono hb2.size))
      | (go_at_call 9; refine (K1.out _ (HX.out _ hB3)).mono ?_; rintro e w4 ⟨hb4, A4, c4, rfl, -, -, hD4⟩; have hB4 := hB3.trans (hb4.mono hB3.size); obtain ⟨ad, Q, cq, rfl, bl, ok, ce⟩ := DRow.get hD4 HD.out; simp only at ok ce; have HOK := Lib.hid (fun W (h : Below w4.heap.size w4 W) => And.intro (ok.at h) (ce.keep bl h)); clear ok; obtain ⟨a0, a1, a2⟩ := ce)
      | fail)
  have hS := (HOK.out _ (Below.refl _ _)).2
  unfold Cel at hS
  have hBq : Below w4.heap.size w4 w4.drew := (Below.refl _ _).drew
  clear a0 a1 a2 hD4
  have AL : ∀ W : World, Below W.heap.size W (W.alloc (.cells #[.int .i64 0, .slice none 0 0, .slice none 0 0] 34)) := fun W => (Below.refl _ _).alloc (Nat.le_refl _) _
  go_region_held3 (fun w' => w'.cell? (ad.add (q * 3)) = some (.slice Q 0 cq) ∧ w'.cell? ⟨(ad.add (q * 3)).block, (ad.add (q * 3)).off + 1, none⟩ = some (.int .i64 dop) ∧ w'.cell? ⟨(ad.add (q * 3)).block, (ad.add (q * 3)).off + 2, none⟩ = some (.int .i64 dn)) (first | exact hS | exact (HOK.out _ (hBq.alloc hBq.size _)).2 | exact ⟨by (repeat rw [World.cell?_setCell_other _ _ _ _ (nb _)]); exact hS.1, by (repeat rw [World.cell?_setCell_other _ _ _ _ (nb1 _ _)]); exact hS.2.1, by (repeat rw [World.cell?_setCell_other _ _ _ _ (nb1 _ _)]); exact hS.2.2⟩ | fail) (first
    | (go_at_call 16; first
      | ((with_reducible refine (KP.out w4.drew (HX.out _ hB4.drew)).mono ?_); rintro e w5 ⟨hb5, A5, c5, rfl, hc5, hA5, hN5⟩; have hBq := hBq.trans (hb5.mono hBq.size); have hS := (HOK.out _ hBq).2; unfold Cel at hS)
      | ((with_reducible refine (KP.out _ (HX.out _ (hB4.trans ((AL w4).mono hB4.size)).drew)).mono ?_); rintro e w5 ⟨hb5, A5, c5, rfl, hc5, hA5, hN5⟩; have bX := Blk.below (Blk.drew (Blk.new w4 34 #[.int .i64 0, .slice none 0 0, .slice none 0 0])) hb5 (by simp); have hBq := (AL w4).drew.trans (hb5.mono (AL w4).size); have hS := (HOK.out _ hBq).2; unfold Cel at hS)
      | fail)
    | (go_at_call 17; first
      | ((with_reducible refine (KA.out A5 c5 Q cq w5 (prg_of hN5 hc5 hA5 hpl) (HOK.out _ hBq).1).mono ?_); rintro e w6 ⟨hb6, A6, c6, B6, ce6, rfl, ok6⟩; have bX := bX.below hb6 bX.lt; have hBq := hBq.trans (hb6.mono hBq.size); have nb : ∀ i, (⟨w4.heap.size, i, none⟩ : Addr) ≠ ad.add (q * 3) := fun i => ne_blk (by rw [add_blockN]; omega); have nb1 : ∀ i o, (⟨w4.heap.size, i, none⟩ : Addr) ≠ ⟨(ad.add (q * 3)).block, o, none⟩ := fun i o => ne_blk (by show (ad.add (q * 3)).block ≠ _; rw [add_blockN]; omega); have zf := bX.frozen; obtain ⟨z0, z1, z2⟩ := bX.three; have hS := (HOK.out _ hBq).2; unfold Cel at hS)
      | ((with_reducible refine (KA.out A5 c5 Q cq w5 (prg_of hN5 hc5 hA5 hpl) (HOK.out _ hBq).1).mono ?_); rintro e w6 ⟨hb6, A6, c6, B6, ce6, rfl, ok6⟩; have hBq := hBq.trans (hb6.mono hBq.size); have hS := (HOK.out _ hBq).2; unfold Cel at hS)
      | ((with_reducible refine (KA.out A5 c5 Q cq _ (prg_of (Nodes.at hN5 (AL _)) hc5 hA5 hpl) (HOK.out _ (hBq.trans ((AL _).mono hBq.size))).1).mono ?_); rintro e w6 ⟨hb6, A6, c6, B6, ce6, rfl, ok6⟩; have bX := Blk.below (Blk.new w5 34 #[.int .i64 0, .slice none 0 0, .slice none 0 0]) hb6 (by simp); have hz5 : w4.heap.size ≤ w5.heap.size := hBq.size; have hBq := (hBq.trans ((AL _).mono hBq.size)).trans (hb6.mono (Nat.le_trans hBq.size (AL _).size)); have nb : ∀ i, (⟨w5.heap.size, i, none⟩ : Addr) ≠ ad.add (q * 3) := fun i => ne_blk (by rw [add_blockN]; omega); have nb1 : ∀ i o, (⟨w5.heap.size, i, none⟩ : Addr) ≠ ⟨(ad.add (q * 3)).block, o, none⟩ := fun i o => ne_blk (by show (ad.add (q * 3)).block ≠ _; rw [add_blockN]; omega); have zf := bX.frozen; obtain ⟨z0, z1, z2⟩ := bX.three; have hS := (HOK.out _ hBq).2; unfold Cel at hS)
      | fail)
    | fail)
  all_goals first
    | (have hF := fin_set hBq ok6 bX hz5
       generalize ((w6.setCell ⟨w5.heap.size, 0, none⟩ (.int .i64 0)).setCell ⟨w5.heap.size, 1, none⟩ (.slice A6 0 c6)).setCell ⟨w5.heap.size, 2, none⟩ (.slice B6 R.length ce6) = w7 at hF ⊢
       generalize w5.heap.size = g7 at hF ⊢)
    | (have hF := fin_set hBq ok6 bX (Nat.le_refl _)
       generalize ((w6.setCell ⟨w4.heap.size, 0, none⟩ (.int .i64 0)).setCell ⟨w4.heap.size, 1, none⟩ (.slice A6 0 c6)).setCell ⟨w4.heap.size, 2, none⟩ (.slice B6 R.length ce6) = w7 at hF ⊢
       obtain ⟨g7, hg7⟩ : ∃ g7, w4.heap.size = g7 := ⟨_, rfl⟩
       have hF2 := hF.2
       have hF1 := hF.1
       rw [hg7] at hF2
       clear hF
       have hF : Below w4.heap.size w4 w7 ∧ _ := ⟨hF1, hF2⟩
       rw [hg7])
    | (have hF := fin_new hBq ok6
       generalize w6.alloc (.cells #[.int .i64 0, .slice A6 0 c6, .slice B6 R.length ce6] 34) = w7 at hF ⊢
       generalize w6.heap.size = g7 at hF ⊢)
  all_goals (
    obtain ⟨hB7, bF, nF, hcF, hAF⟩ := hF
    obtain ⟨adR, rfl, hRb, hR0, -⟩ := nF 0 _ HG.out
    have HNF := Lib.hid nF
    rw [Nat.zero_mul, add_zero'] at hR0
    have HS7 := Lib.hid (fun W (h : Below w7.heap.size w7 W) => And.intro (bF.below h bF.lt).three (And.intro (cell_keep h hRb hR0) (And.intro (HOK.out _ (hB7.trans (h.mono hB7.size))).2 (HT.out _ (hB4.trans ((hB7.trans (h.mono hB7.size)).mono hB4.size))))))
    have hS7 := HS7.out _ (Below.refl _ _)
    unfold Cel at hS7
    have hR1 : (0 : Int) < (R.length : Int) := by omega
    have hR2 : ((R.length : Int) == 0) = false := by rw [beq_eq_false_iff_ne]; omega
    clear hBq ok6 hS bF nF hRb hR0
    clear hb6
    have hI1 := I1.out
    have hI2 := I2.out
    have hbq : Below w7.heap.size w7 w7.drew := (Below.refl _ _).drew
    clear hb5 hN5 hBq hS
    go_wp2_with fail
    go_region_held3 (fun w' => (w'.cell? ⟨g7, 0, none⟩ = some (.int .i64 0) ∧ w'.cell? ⟨g7, 1, none⟩ = some (.slice A6 0 c6) ∧ w'.cell? ⟨g7, 2, none⟩ = some (.slice (some adR) R.length ce6)) ∧ w'.cell? adR = some (.int .i64 dn) ∧ (w'.cell? (ad.add (q * 3)) = some (.slice Q 0 cq) ∧ w'.cell? ⟨(ad.add (q * 3)).block, (ad.add (q * 3)).off + 1, none⟩ = some (.int .i64 dop) ∧ w'.cell? ⟨(ad.add (q * 3)).block, (ad.add (q * 3)).off + 2, none⟩ = some (.int .i64 dn)) ∧ w'.cell? (adl.add (k * 2)) = some (.int .i64 t) ∧ w'.cell? ⟨(adl.add (k * 2)).block, (adl.add (k * 2)).off + 1, none⟩ = some (.int .i64 v)) (exact hS7) (first
      | (go_at_call 12; (with_reducible refine (KI.out _ _ _ _ _ (HNF.out.at hbq) hcF hAF).mono ?_); rintro e w8 ⟨rfl, hb8⟩; have hbq := hbq.trans (hb8.mono hbq.size); have hS7 := HS7.out _ hbq; unfold Cel at hS7)
      | fail)
    go_wp2_with fail
    go_ret
    exact ⟨rfl, (hB4.trans ((hB7.trans (hbq.mono hB7.size)).mono hB4.size))⟩)

end Go.Proofs.Ytlaidcahkafgoaa.Cat
