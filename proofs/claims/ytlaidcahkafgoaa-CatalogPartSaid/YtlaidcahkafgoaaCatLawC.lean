/-
  The laws of layer 13, walked: each choice can be applied, and makes another program.
-/
import Derived.Test.YtlaidcahkafgoaaCatH
import Derived.Test.YtlaidcahkafgoaaArenaH
import Derived.Deep.RegionHeld3
import Derived.Deep.DrawnRows
import Derived.Deep.CutBlock
set_option linter.unusedVariables false
namespace Go.Proofs.Ytlaidcahkafgoaa.Cat
open Go.RowKit Mem _root_.Go.Proofs.Ytlaidcahkafgoaa.Arena _root_.Go.Proofs.Ytlaidcahkafgoaa.Delta _root_.Go.Proofs.Ytlaidcahkafgoaa.Path
attribute [local go_sem ↓] Go.wp_at_zero Go.wp_at_succ

set_option maxRecDepth 100000 in
set_option maxHeartbeats 4000000 in
theorem catalogApplies_of (C : Pkg) (D : DPkg) (A : Option Addr) (c : Nat) (l : List Nd) (hc : l.length ≤ c) (hA : A = none → c = 0) (hl : l.length ≤ 10000000000000) (at_ n : Int) (w : World) (hx : Nodes w w.heap.size A l) :
    Calls Try.prog 5 #[.slice A l.length c, .int .i64 at_, .int .i64 n] w fun e w' => e = .returned (.bool true) ∧ Below w.heap.size w w' := by
  have HW := Lib.hid (fun W => works_any C W)
  have HX := Lib.hid (fun W (h : Below w.heap.size w W) => Nodes.at hx h)
  have K1 := Lib.hid (fun W h => C.choices A c l at_ W h hc hA hl)
  unfold ChEnds at K1
  by_cases h1 : 60 < l.length
  · have j1 : (60 : Int) < (l.length : Int) := by omega
    generalize chs l at_ = L at *
    clear hx
    go_enter Try.func5, Try.ntmps5
    by_cases hL : L.length = 0
    · have e0 : ((L.length : Int) == 0) = true := by simpa using hL
      clear hL
      go_wp2_with (first
        | (go_at_call 8; refine (HW.out _).mono ?_; rintro e w2 ⟨rfl, hb2⟩)
        | (go_at_call 9; refine (K1.out _ (HX.out _ hb2)).mono ?_; rintro e w4 ⟨hb4, A4, c4, rfl, -, -, hD4⟩; have hB4 := hb2.trans (hb4.mono hb2.size))
        | fail)
      go_ret
      exact ⟨rfl, hB4⟩
    · have e0 : ((L.length : Int) == 0) = false := by rw [beq_eq_false_iff_ne]; omega
      clear hL
      go_wp2_with (first
        | (go_at_call 8; refine (HW.out _).mono ?_; rintro e w2 ⟨rfl, hb2⟩)
        | (go_at_call 9; refine (K1.out _ (HX.out _ hb2)).mono ?_; rintro e w4 ⟨hb4, A4, c4, rfl, -, -, hD4⟩; have hB4 := hb2.trans (hb4.mono hb2.size))
        | fail)
      go_ret
      exact ⟨rfl, hB4⟩
  have j1 : ¬ (60 : Int) < (l.length : Int) := by omega
  have KE := Lib.hid (fun W h => End_any A c l at_ W h (by omega))
  rcases aend_cases l at_ with he | ⟨k, m, rfl, hs, he, hm1, hm2⟩
  · rw [he] at KE
    rw [show chs l at_ = [] from if_pos (by rw [he]; decide)] at K1
    clear hx h1 he
    go_enter Try.func5, Try.ntmps5
    go_wp2_with (first
      | (go_at_call 8; refine (HW.out _).mono ?_; rintro e w2 ⟨rfl, hb2⟩)
      | (go_at_call 15; refine (KE.out _ (HX.out _ hb2)).mono ?_; rintro e w3 ⟨rfl, hb3⟩; have hB3 := hb2.trans (hb3.mono hb2.size))
      | (go_at_call 9; refine (K1.out _ (HX.out _ hB3)).mono ?_; rintro e w4 ⟨hb4, A4, c4, rfl, -, -, hD4⟩; have hB4 := hB3.trans (hb4.mono hB3.size))
      | fail)
    go_ret
    exact ⟨rfl, hB4⟩
  rw [he] at KE
  have j2 : ¬ (k : Int) + (m : Int) < 0 := by omega
  have j5 : (k : Int) < (l.length : Int) := by omega
  have j6 : (0 : Int) ≤ (k : Int) := by omega
  by_cases hn : n < 0
  · clear hx h1 he
    generalize chs l k = L at *
    go_enter Try.func5, Try.ntmps5
    go_wp2_with (first
      | (go_at_call 8; refine (HW.out _).mono ?_; rintro e w2 ⟨rfl, hb2⟩)
      | (go_at_call 15; refine (KE.out _ (HX.out _ hb2)).mono ?_; rintro e w3 ⟨rfl, hb3⟩; have hB3 := hb2.trans (hb3.mono hb2.size))
      | (go_at_call 9; refine (K1.out _ (HX.out _ hB3)).mono ?_; rintro e w4 ⟨hb4, A4, c4, rfl, -, -, hD4⟩; have hB4 := hB3.trans (hb4.mono hB3.size))
      | fail)
    go_ret
    exact ⟨rfl, hB4⟩
  obtain ⟨q, rfl⟩ := Int.eq_ofNat_of_zero_le (show 0 ≤ n by omega)
  have hL5 := (chs_facts l k).2.1
  by_cases hq : (chs l k).length ≤ q
  · have j7 : ((chs l k).length : Int) ≤ (q : Int) := by omega
    have j8 : ¬ (q : Int) < 0 := by omega
    clear hx h1 he
    generalize chs l k = L at *
    go_enter Try.func5, Try.ntmps5
    go_wp2_with (first
      | (go_at_call 8; refine (HW.out _).mono ?_; rintro e w2 ⟨rfl, hb2⟩)
      | (go_at_call 15; refine (KE.out _ (HX.out _ hb2)).mono ?_; rintro e w3 ⟨rfl, hb3⟩; have hB3 := hb2.trans (hb3.mono hb2.size))
      | (go_at_call 9; refine (K1.out _ (HX.out _ hB3)).mono ?_; rintro e w4 ⟨hb4, A4, c4, rfl, -, -, hD4⟩; have hB4 := hB3.trans (hb4.mono hB3.size))
      | fail)
    go_ret
    exact ⟨rfl, hB4⟩
  have j7 : ¬ ((chs l k).length : Int) ≤ (q : Int) := by omega
  have j8 : ¬ (q : Int) < 0 := by omega
  have j9 : (q : Int) < ((chs l k).length : Int) := by omega
  have j10 : (0 : Int) ≤ (q : Int) := by omega
  obtain ⟨⟨dop, dn⟩, hd⟩ : ∃ d, (chs l k)[q]? = some d := ⟨_, List.getElem?_eq_getElem (by omega)⟩
  have hmem : (dop, dn) ∈ chs l k := List.mem_of_getElem? hd
  obtain ⟨f1, f2, f3, f4⟩ := chs_apply hs hmem
  have hRl : (dch (apart l k) 0 dop dn).length ≤ 100 := by
    have := anew_len f1
    rw [f2, part_len hs] at this
    omega
  have hpl : (apart l k).length ≤ 60 := by rw [part_len hs]; omega
  have hRe : aend (dch (apart l k) 0 dop dn) 0 = (dch (apart l k) 0 dop dn).length := by
    have := aend_some (l := dch (apart l k) 0 dop dn) (a := 0) f4
    rw [show ((0 : Nat) : Int) = 0 from rfl] at this
    rw [this]; omega
  have KP := Lib.hid (fun W h => Part_any A c l k W h hA hc (by omega))
  unfold NodesEnds at KP
  clear hx h1 he hmem
  have KA := Lib.hid (fun (B : Option Addr) (ce : Nat) (Q : Option Addr) (cq : Nat) W (h : Kinds.Prg.Ok ⟨0, none, 0, [], B, ce, apart l k⟩ W) (h' : Dlt.Ok ⟨Q, cq, [], dop, dn⟩ W) => show Calls Try.prog 17 #[.agg #[.int .i64 0, .slice none 0 0, .slice B (apart l k).length ce], .agg #[.slice Q 0 cq, .int .i64 dop, .int .i64 dn]] W (fun e w' => Below W.heap.size W w' ∧ ∃ A c B' ce', e = .returned (.tuple #[.agg #[.int .i64 0, .slice A 0 c, .slice B' (dch (apart l k) 0 dop dn).length ce'], .int .i64 0]) ∧ Kinds.Prg.Ok ⟨0, A, c, [], B', ce', dch (apart l k) 0 dop dn⟩ w') from
    ((D.apply ⟨0, none, 0, [], B, ce, apart l k⟩ ⟨Q, cq, [], dop, dn⟩ W h h' (by simp only; omega)).mono (fun e w' q => by have r := q.ok f1; simp only [f2] at r; exact r)))
  have KR := Lib.hid (fun B ce W h => End_any B ce (dch (apart l k) 0 dop dn) 0 W h (by omega))
  rw [hRe] at KR
  have KS := Lib.hid (fun B ce B' ce' W h h' => Same_any B ce (apart l k) B' ce' (dch (apart l k) 0 dop dn) W h h' (by omega))
  have hne : decide (apart l k = dch (apart l k) 0 dop dn) = false := decide_eq_false (fun e => f3 e.symm)
  rw [hne] at KS
  clear f1 f2 f3 f4 hRe hne
  generalize chs l k = L at *
  generalize dch (apart l k) 0 dop dn = R at *
  generalize apart l k = P at *
  have HD := Lib.hid hd
  clear hd
  go_enter Try.func5, Try.ntmps5
  go_upto_region 10 with (first
      | (go_at_call 8; refine (HW.out _).mono ?_; rintro e w2 ⟨rfl, hb2⟩)
      | (go_at_call 15; refine (KE.out _ (HX.out _ hb2)).mono ?_; rintro e w3 ⟨rfl, hb3⟩; have hB3 := hb2.trans (hb3.mono hb2.size))
      | (go_at_call 9; refine (K1.out _ (HX.out _ hB3)).mono ?_; rintro e w4 ⟨hb4, A4, c4, rfl, -, -, hD4⟩; have hB4 := hB3.trans (hb4.mono hB3.size); obtain ⟨ad, Q, cq, rfl, bl, ok, ce⟩ := DRow.get hD4 HD.out; simp only at ok ce; have HOK := Lib.hid (fun W (h : Below w4.heap.size w4 W) => And.intro (ok.at h) (ce.keep bl h)); clear ok; obtain ⟨a0, a1, a2⟩ := ce)
      | (go_at_call 16; refine (KP.out _ (HX.out _ hB4)).mono ?_; rintro e w5 ⟨hb5, A5, c5, rfl, hc5, hA5, hN5⟩)
      | fail)
  have bP := Blk.new w5 34 #[.int .i64 0, .slice none 0 0, .slice A5 P.length c5]
  have hB5 : Below w4.heap.size w4 (w5.alloc (.cells #[.int .i64 0, .slice none 0 0, .slice A5 P.length c5] 34)) := hb5.alloc hb5.size _
  have hN6 := hN5.at ((Below.refl w5.heap.size w5).alloc (Nat.le_refl _) (.cells #[.int .i64 0, .slice none 0 0, .slice A5 P.length c5] 34))
  generalize w5.alloc (.cells #[.int .i64 0, .slice none 0 0, .slice A5 P.length c5] 34) = w6 at *
  generalize w5.heap.size = gp at *
  have HS6 := Lib.hid (fun W (h : Below w6.heap.size w6 W) => And.intro (bP.below h bP.lt).three (HOK.out _ (hB5.trans (h.mono hB5.size))).2)
  have HOK6 := Lib.hid (fun W (h : Below w6.heap.size w6 W) => And.intro (prg_of (hN6.at h) hc5 hA5 hpl) (HOK.out _ (hB5.trans (h.mono hB5.size))).1)
  have hS := HS6.out _ (Below.refl _ _)
  unfold Cel at hS
  have AL : Below w6.heap.size w6 (w6.alloc (.cells #[.int .i64 0, .slice none 0 0, .slice none 0 0] 34)) := (Below.refl _ _).alloc (Nat.le_refl _) _
  clear a0 a1 a2 hD4 hb5 hN5
  have hbd : Below w6.heap.size w6 w6.drew := (Below.refl _ _).drew
  have nb : ∀ i, (⟨w6.heap.size, i, none⟩ : Addr) ≠ ad.add (q * 3) := fun i => ne_blk (by rw [add_blockN]; have := hB5.size; omega)
  have nb1 : ∀ i o, (⟨w6.heap.size, i, none⟩ : Addr) ≠ ⟨(ad.add (q * 3)).block, o, none⟩ := fun i o => ne_blk (by show (ad.add (q * 3)).block ≠ _; rw [add_blockN]; have := hB5.size; omega)
  have nb2 : ∀ i o, (⟨w6.heap.size, i, none⟩ : Addr) ≠ ⟨gp, o, none⟩ := fun i o => ne_blk (by show gp ≠ _; have := bP.lt; omega)
  go_region_held3 (fun w' => ((w'.cell? ⟨gp, 0, none⟩ = some (.int .i64 0) ∧ w'.cell? ⟨gp, 1, none⟩ = some (.slice none 0 0) ∧ w'.cell? ⟨gp, 2, none⟩ = some (.slice A5 P.length c5)) ∧ (w'.cell? (ad.add (q * 3)) = some (.slice Q 0 cq) ∧ w'.cell? ⟨(ad.add (q * 3)).block, (ad.add (q * 3)).off + 1, none⟩ = some (.int .i64 dop) ∧ w'.cell? ⟨(ad.add (q * 3)).block, (ad.add (q * 3)).off + 2, none⟩ = some (.int .i64 dn)))) (first | exact hS | exact HS6.out _ AL.drew | exact HS6.out _ AL | exact HS6.out _ (hBq.alloc hBq.size _) | exact ⟨⟨by (repeat rw [World.cell?_setCell_other _ _ _ _ (nb2 _ _)]); exact hS.1.1, by (repeat rw [World.cell?_setCell_other _ _ _ _ (nb2 _ _)]); exact hS.1.2.1, by (repeat rw [World.cell?_setCell_other _ _ _ _ (nb2 _ _)]); exact hS.1.2.2⟩, by (repeat rw [World.cell?_setCell_other _ _ _ _ (nb _)]); exact hS.2.1, by (repeat rw [World.cell?_setCell_other _ _ _ _ (nb1 _ _)]); exact hS.2.2.1, by (repeat rw [World.cell?_setCell_other _ _ _ _ (nb1 _ _)]); exact hS.2.2.2⟩ | fail) (first
    | (go_at_call 17; first
      | ((with_reducible refine (KA.out A5 c5 Q cq w6.drew (HOK6.out _ hbd).1 (HOK6.out _ hbd).2).mono ?_); rintro e w7 ⟨hb7, A6, c6, B6, ce6, rfl, ok7⟩; have hBq : Below w6.heap.size w6 w7 := hbd.trans hb7; have hS := HS6.out _ hBq; unfold Cel at hS)
      | ((with_reducible refine (KA.out A5 c5 Q cq _ (HOK6.out _ AL.drew).1 (HOK6.out _ AL.drew).2).mono ?_); rintro e w7 ⟨hb7, A6, c6, B6, ce6, rfl, ok7⟩; have bX0 := (Blk.new w6 34 #[.int .i64 0, .slice none 0 0, .slice none 0 0]).drew; have bX := bX0.below hb7 bX0.lt; have hBq : Below w6.heap.size w6 w7 := AL.drew.trans (hb7.mono AL.drew.size); have zf := bX.frozen; obtain ⟨z0, z1, z2⟩ := bX.three; have hS := HS6.out _ hBq; unfold Cel at hS)
      | fail)
    | fail)
  all_goals first
    | (have hF := fin_set hBq ok7 bX (Nat.le_refl _)
       generalize ((w7.setCell ⟨w6.heap.size, 0, none⟩ (.int .i64 0)).setCell ⟨w6.heap.size, 1, none⟩ (.slice A6 0 c6)).setCell ⟨w6.heap.size, 2, none⟩ (.slice B6 R.length ce6) = w8 at hF ⊢
       obtain ⟨g7, hg7⟩ : ∃ g7, w6.heap.size = g7 := ⟨_, rfl⟩
       have hF2 := hF.2
       have hF1 := hF.1
       rw [hg7] at hF2
       clear hF
       have hF : Below w6.heap.size w6 w8 ∧ _ := ⟨hF1, hF2⟩
       rw [hg7])
    | (have hF := fin_new hBq ok7
       generalize w7.alloc (.cells #[.int .i64 0, .slice A6 0 c6, .slice B6 R.length ce6] 34) = w8 at hF ⊢
       generalize w7.heap.size = g7 at hF ⊢)
  all_goals (
    obtain ⟨hB8, bF, nF, hcF, hAF⟩ := hF
    have HN8 := Lib.hid (fun W (h : Below w8.heap.size w8 W) => And.intro (hN6.at (hB8.trans (h.mono hB8.size))) (nF.at h))
    have HS8 := Lib.hid (fun W (h : Below w8.heap.size w8 W) => And.intro ((bP.below hB8 bP.lt).below h (Nat.lt_of_lt_of_le bP.lt hB8.size)).three (bF.below h bF.lt).three)
    have hS8 := HS8.out _ (Below.refl _ _)
    have hbq : Below w8.heap.size w8 w8.drew := (Below.refl _ _).drew
    clear hBq ok7 hS bF nF hb7
    go_wp2_with fail
    go_region_held3 (fun w' => (w'.cell? ⟨gp, 0, none⟩ = some (.int .i64 0) ∧ w'.cell? ⟨gp, 1, none⟩ = some (.slice none 0 0) ∧ w'.cell? ⟨gp, 2, none⟩ = some (.slice A5 P.length c5)) ∧ (w'.cell? ⟨g7, 0, none⟩ = some (.int .i64 0) ∧ w'.cell? ⟨g7, 1, none⟩ = some (.slice A6 0 c6) ∧ w'.cell? ⟨g7, 2, none⟩ = some (.slice B6 R.length ce6))) (exact hS8) (first
      | (go_at_call 18; (with_reducible refine (KS.out _ _ _ _ _ (HN8.out _ hbq).1 (HN8.out _ hbq).2).mono ?_); rintro e w9 ⟨rfl, hb9⟩; have hbq := hbq.trans (hb9.mono hbq.size); have hS8 := HS8.out _ hbq)
      | (go_at_call 15; (with_reducible refine (KR.out _ _ _ (HN8.out _ hbq).2).mono ?_); rintro e w9 ⟨rfl, hb9⟩; have hbq := hbq.trans (hb9.mono hbq.size); have hS8 := HS8.out _ hbq)
      | fail)
    go_wp2_with fail
    go_ret
    exact ⟨rfl, (hB4.trans ((hB5.trans ((hB8.trans (hbq.mono hB8.size)).mono hB5.size)).mono hB4.size))⟩)

end Go.Proofs.Ytlaidcahkafgoaa.Cat
