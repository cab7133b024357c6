/-
  The laws of layer 14, walked: each mutant is another program, and typed, unless it is too deep. (Written by tools/gen_sitestyped.py.)
-/
import Derived.Test.YtofhgaioidfdmaaGreatSitesLawB
import Derived.Test.YtofhgaioidfdmaaGreatSitesBox
import Derived.Test.YtofhgaioidfdmaaGreatKindsP
import Derived.Deep.RegionHeld3
import Derived.Deep.DrawnRows
import Derived.Deep.CutBlock
set_option linter.unusedVariables false
namespace Go.Proofs.YtofhgaioidfdmaaGreat.Sites
open Go.RowKit Mem _root_.Go.Proofs.YtofhgaioidfdmaaGreat.Arena _root_.Go.Proofs.YtofhgaioidfdmaaGreat.Delta _root_.Go.Proofs.YtofhgaioidfdmaaGreat.Path _root_.Go.Proofs.YtofhgaioidfdmaaGreat.Cat _root_.Go.Proofs.YtofhgaioidfdmaaGreat.Kinds
attribute [local go_sem ↓] Go.wp_at_zero Go.wp_at_succ

theorem merr_in {ps : Int} {vs : List Int} {l : List Nd} (hc : pcheck ps vs l = 0) {q : List Int} {op n : Int} (h : (q, op, n) ∈ msites l) : merr ps vs l q op n = 0 := by
  obtain ⟨h0, h1⟩ := (sites_mem (pcheck_whole hc).1).1 h
  unfold merr
  rw [if_neg (fun z => z hc), if_pos (by unfold mlet; rw [decide_eq_true h0, h1]; rfl)]
/-- What comes of one of all: typed, unless too deep; another program. -/
theorem typed_in {ps : Int} {vs : List Int} {l : List Nd} (hc : pcheck ps vs l = 0) (hl : l.length ≤ 199) {q : List Int} {op n : Int} (h : (q, op, n) ∈ msites l) :
    okind vs (anew l q op n) 0 = 2 ∧ (pcheck ps vs (anew l q op n) = 0 ∨ pcheck ps vs (anew l q op n) = 13) ∧ anew l q op n ≠ l ∧ (anew l q op n).length ≤ l.length + 1 := by
  obtain ⟨a, m, h1, hs, -, -, ha, hn, hm, hd⟩ := sites_apply (pcheck_whole hc).1 h
  obtain ⟨t1, -, t2⟩ := dch_typed hc hl (nodeAt_some hs) hm
  have hln := anew_len ha
  rw [hn] at hln ⊢
  exact ⟨t1, t2.imp_right (fun z => z.1), hd, hln⟩
/-- One of all, applied. -/
theorem mutant_in (C : SPkg) (p : Prg) (hc : pcheck p.ps p.vs p.xs = 0) {m : Mt} (hm : m ∈ msites p.xs) (P : Option Addr) (cp : Nat) (W : World) (h : p.Ok W) (h' : (dl P cp m).Ok W) :
    Calls Tryz.prog 16 #[.agg #[.int .i64 p.ps, .slice p.A p.vs.length p.c, .slice p.B p.xs.length p.e], .agg #[.slice P m.1.length cp, .int .i64 m.2.1, .int .i64 m.2.2]] W fun e w' => Below W.heap.size W w' ∧ ∃ A c B ce, e = .returned (.tuple #[.agg #[.int .i64 p.ps, .slice A p.vs.length c, .slice B (anew p.xs m.1 m.2.1 m.2.2).length ce], .int .i64 0]) ∧ Prg.Ok ⟨p.ps, A, c, p.vs, B, ce, anew p.xs m.1 m.2.1 m.2.2⟩ w' ∧ ∀ ad, A = some ad → p.A = some ad ∨ W.heap.size ≤ ad.block :=
  (C.mutant p (dl P cp m) W h h').mono (fun e w' q => MEndsE.ok q (merr_in hc hm))
theorem vars_lt {p : Prg} {W : World} (h : p.Ok W) (hv : p.vs ≠ []) (ad : Addr) (e : p.A = some ad) : ad.block < W.heap.size := by
  obtain ⟨x, r, hx⟩ := ne_cons hv
  obtain ⟨ad', e', hb, -⟩ := h.vars 0 x (by rw [hx]; rfl)
  rw [e] at e'
  cases e'
  exact hb

set_option maxRecDepth 100000 in
set_option maxHeartbeats 8000000 in
theorem sitesTyped_of (C : SPkg) (K : Works) (p : Prg) (n : Int) (w : World) (hp : p.In w) :
    Calls Tryz.prog 6 #[.agg #[.int .i64 p.ps, .slice p.A p.vs.length p.c, .slice p.B p.xs.length p.e], .int .i64 n] w fun e w' => e = .returned (.bool true) ∧ Below w.heap.size w w' := by
  have hB0 : Below w.heap.size w (w.alloc (.cells #[.int .i64 p.ps, .slice p.A p.vs.length p.c, .slice p.B p.xs.length p.e] 25)) := (Below.refl _ _).alloc (Nat.le_refl _) _
  have bX := Blk.new w 25 #[.int .i64 p.ps, .slice p.A p.vs.length p.c, .slice p.B p.xs.length p.e]
  have hi := hp.at hB0
  obtain ⟨wQ, hwQ⟩ : ∃ wQ, w.alloc (.cells #[.int .i64 p.ps, .slice p.A p.vs.length p.c, .slice p.B p.xs.length p.e] 25) = wQ := ⟨_, rfl⟩
  rw [hwQ] at hB0 bX hi
  have hgl := bX.lt
  have HBX := Lib.hid (fun W (h : Below wQ.heap.size wQ W) => (bX.below h hgl).three)
  have HP := Lib.hid hi
  have HWQ := Lib.hid hwQ
  have HW := Lib.hid K
  have HF := Lib.hid (fun W => ref_Few_any p W)
  have HFP := Lib.hid (fun W (h : p.In W) => few_prg (p := p) (w := W) h)
  have HA := Lib.hid (fun W h => C.all p W h)
  have HTY := Lib.hid (fun (hc : pcheck p.ps p.vs p.xs = 0) (hl : p.xs.length ≤ 199) (m : Mt) (hm : m ∈ msites p.xs) => typed_in hc hl (q := m.1) (op := m.2.1) (n := m.2.2) hm)
  have HMU := Lib.hid (fun (hc : pcheck p.ps p.vs p.xs = 0) (m : Mt) (hm : m ∈ msites p.xs) P cp W h h' => mutant_in C p hc hm P cp W h h')
  clear hp bX hwQ hi
  generalize hc : pcheck p.ps p.vs p.xs = e9 at *
  generalize hf : (decide (p.xs.length ≤ 60) && decide (p.vs.length ≤ 20)) = f at *
  cases f with
  | false =>
    go_enter Tryz.func6, Tryz.ntmps6
    go_wp2_with (first
      | (go_at_call 10; rw [HWQ.out]; refine (HW.out _).mono ?_; rintro e w2 ⟨rfl, hb2⟩; obtain ⟨b0, b1, b2⟩ := HBX.out _ hb2)
      | (go_at_call 11; refine (HF.out _).mono ?_; rintro e w3 ⟨rfl, hb⟩; have hb3 := hb2.trans (hb.mono hb2.size); obtain ⟨b0, b1, b2⟩ := HBX.out _ hb3)
      | fail)
    go_ret
    exact ⟨rfl, hB0.trans (hb3.mono hB0.size)⟩
  | true =>
  have hl60 := (HFP.out _ HP.out rfl).2
  have HOK := Lib.hid (fun W (h : Below wQ.heap.size wQ W) => (HFP.out _ (HP.out.at h) rfl).1)
  by_cases h9 : e9 = 0
  case neg =>
    have HA2 := Lib.hid (fun W h => (HA.out W h).mono (fun e w' q => q.no h9))
    have e0 : (e9 == 0) = false := by simpa using h9
    have e1 : (e9 != 0) = true := by simpa using h9
    clear HA h9 hf hc
    go_enter Tryz.func6, Tryz.ntmps6
    go_wp2_with (first
      | (go_at_call 10; rw [HWQ.out]; refine (HW.out _).mono ?_; rintro e w2 ⟨rfl, hb2⟩; obtain ⟨b0, b1, b2⟩ := HBX.out _ hb2)
      | (go_at_call 11; refine (HF.out _).mono ?_; rintro e w3 ⟨rfl, hb⟩; have hb3 := hb2.trans (hb.mono hb2.size); obtain ⟨b0, b1, b2⟩ := HBX.out _ hb3)
      | (go_at_call 12; refine (HA2.out _ (HOK.out _ hb3)).mono ?_; rintro e w4 ⟨hb, A4, c4, rfl⟩; have hb4 := hb3.trans (hb.mono hb3.size))
      | fail)
    go_ret
    exact ⟨rfl, hB0.trans (hb4.mono hB0.size)⟩
  subst h9
  have HA2 := Lib.hid (fun W h => (HA.out W h).mono (fun e w' q => q.ok rfl))
  clear HA hf
  by_cases hn : n < 0
  case pos =>
    clear hc HTY HMU
    generalize msites p.xs = M at *
    go_enter Tryz.func6, Tryz.ntmps6
    go_wp2_with (first
      | (go_at_call 10; rw [HWQ.out]; refine (HW.out _).mono ?_; rintro e w2 ⟨rfl, hb2⟩; obtain ⟨b0, b1, b2⟩ := HBX.out _ hb2)
      | (go_at_call 11; refine (HF.out _).mono ?_; rintro e w3 ⟨rfl, hb⟩; have hb3 := hb2.trans (hb.mono hb2.size); obtain ⟨b0, b1, b2⟩ := HBX.out _ hb3)
      | (go_at_call 12; refine (HA2.out _ (HOK.out _ hb3)).mono ?_; rintro e w4 ⟨hb, A4, c4, rfl, -, -, hm4⟩; have hb4 := hb3.trans (hb.mono hb3.size))
      | fail)
    go_ret
    exact ⟨rfl, hB0.trans (hb4.mono hB0.size)⟩
  obtain ⟨q, rfl⟩ := Int.eq_ofNat_of_zero_le (show 0 ≤ n by omega)
  by_cases hq : (msites p.xs).length ≤ q
  case pos =>
    have j1 : ((msites p.xs).length : Int) ≤ (q : Int) := by omega
    clear hc HTY HMU
    generalize msites p.xs = M at *
    go_enter Tryz.func6, Tryz.ntmps6
    go_wp2_with (first
      | (go_at_call 10; rw [HWQ.out]; refine (HW.out _).mono ?_; rintro e w2 ⟨rfl, hb2⟩; obtain ⟨b0, b1, b2⟩ := HBX.out _ hb2)
      | (go_at_call 11; refine (HF.out _).mono ?_; rintro e w3 ⟨rfl, hb⟩; have hb3 := hb2.trans (hb.mono hb2.size); obtain ⟨b0, b1, b2⟩ := HBX.out _ hb3)
      | (go_at_call 12; refine (HA2.out _ (HOK.out _ hb3)).mono ?_; rintro e w4 ⟨hb, A4, c4, rfl, -, -, hm4⟩; have hb4 := hb3.trans (hb.mono hb3.size))
      | fail)
    go_ret
    exact ⟨rfl, hB0.trans (hb4.mono hB0.size)⟩
  have j1 : ¬ ((msites p.xs).length : Int) ≤ (q : Int) := by omega
  have j2 : (q : Int) < ((msites p.xs).length : Int) := by omega
  have j3 : (0 : Int) ≤ (q : Int) := by omega
  obtain ⟨m, hm⟩ : ∃ m, (msites p.xs)[q]? = some m := ⟨_, List.getElem?_eq_getElem (by omega)⟩
  have hmem : m ∈ msites p.xs := List.mem_of_getElem? hm
  obtain ⟨t1, t2, t3, t4⟩ := HTY.out rfl (by omega) m hmem
  have KM := Lib.hid (fun P cp W h h' => HMU.out rfl m hmem P cp W h h')
  obtain ⟨mp, mo, mn⟩ := m
  simp only at t1 t2 t3 t4 KM
  generalize anew p.xs mp mo mn = R at *
  have KC := Lib.hid (fun A c B ce W (h : Prg.Ok ⟨p.ps, A, c, p.vs, B, ce, R⟩ W) => Kinds.PCheck_any ⟨p.ps, A, c, p.vs, B, ce, R⟩ W h)
  have KO := Lib.hid (fun A c B ce W (h : Prg.Ok ⟨p.ps, A, c, p.vs, B, ce, R⟩ W) => Kinds.Of_any ⟨p.ps, A, c, p.vs, B, ce, R⟩ 0 W h)
  have KS := Lib.hid (fun A c B ce W (h' : p.Ok W) (h : Prg.Ok ⟨p.ps, A, c, p.vs, B, ce, R⟩ W) => show Calls Tryz.prog 25 #[.agg #[.int .i64 p.ps, .slice p.A p.vs.length p.c, .slice p.B p.xs.length p.e], .agg #[.int .i64 p.ps, .slice A p.vs.length c, .slice B R.length ce]] W (fun e w' => e = .returned (.bool false) ∧ Below W.heap.size W w') from by
    have z := Kinds.PSame_any p ⟨p.ps, A, c, p.vs, B, ce, R⟩ W h' h
    rw [show decide (p.vs = p.vs ∧ p.xs = R ∧ p.ps = p.ps) = false from decide_eq_false (fun z => t3 z.2.1.symm)] at z
    exact z)
  simp only at KC KO
  rw [t1] at KO
  have HVL := Lib.hid (fun W (h : p.Ok W) hv ad e => vars_lt (p := p) (W := W) h hv ad e)
  clear hc HTY HMU t1 t3 hmem hq hn
  generalize pcheck p.ps p.vs R = g at *
  generalize msites p.xs = M at *
  go_enter Tryz.func6, Tryz.ntmps6
  go_wp2_with (first
    | (go_at_call 10; rw [HWQ.out]; refine (HW.out _).mono ?_; rintro e w2 ⟨rfl, hb2⟩; obtain ⟨b0, b1, b2⟩ := HBX.out _ hb2)
    | (go_at_call 11; refine (HF.out _).mono ?_; rintro e w3 ⟨rfl, hb⟩; have hb3 := hb2.trans (hb.mono hb2.size); obtain ⟨b0, b1, b2⟩ := HBX.out _ hb3)
    | (go_at_call 12; refine (HA2.out _ (HOK.out _ hb3)).mono ?_; rintro e w4 ⟨hb, A4, c4, rfl, -, -, hm4⟩; have hb4 := hb3.trans (hb.mono hb3.size))
    | fail)
  have HB4 := Lib.hid hb4
  obtain ⟨ad, P, cp, rfl, G⟩ := hm4.get hm
  have hadb : ad.block < w4.heap.size := by
    obtain ⟨ad', _, _, e, hlt, -, -⟩ := hm4 q _ hm
    cases e
    exact hlt
  have HS4 := Lib.hid (fun W (h : Below w4.heap.size w4 W) => And.intro (HBX.out _ (hb4.trans (h.mono hb4.size))) (G W h).2)
  have HOK4 := Lib.hid (fun W (h : Below w4.heap.size w4 W) => And.intro (HOK.out _ (hb4.trans (h.mono hb4.size))) (G W h).1)
  have hS := HS4.out _ (Below.refl _ _)
  unfold Cem at hS
  simp only at hS
  have AL : Below w4.heap.size w4 (w4.alloc (.cells #[.int .i64 0, .slice none 0 0, .slice none 0 0] 25)) := (Below.refl _ _).alloc (Nat.le_refl _) _
  have hbd : Below w4.heap.size w4 w4.drew := (Below.refl _ _).drew
  have hgp : w.heap.size < w4.heap.size := Nat.lt_of_lt_of_le hgl hb4.size
  have nb : ∀ i, (⟨w4.heap.size, i, none⟩ : Addr) ≠ ad.add (q * 3) := fun i => ne_blk (by rw [add_blockN]; omega)
  have nb1 : ∀ i o, (⟨w4.heap.size, i, none⟩ : Addr) ≠ ⟨(ad.add (q * 3)).block, o, none⟩ := fun i o => ne_blk (by show (ad.add (q * 3)).block ≠ _; rw [add_blockN]; omega)
  have nb2 : ∀ i o, (⟨w4.heap.size, i, none⟩ : Addr) ≠ ⟨w.heap.size, o, none⟩ := fun i o => ne_blk (by show w.heap.size ≠ _; omega)
  have hV4 := Lib.hid (HVL.out _ (HOK4.out _ (Below.refl _ _)).1)
  clear hm4 hm G hb hb2 hb3 b0 b1 b2
  go_region_held3 (fun w' => (w'.cell? ⟨w.heap.size, 0, none⟩ = some (.int .i64 p.ps) ∧ w'.cell? ⟨w.heap.size, 1, none⟩ = some (.slice p.A p.vs.length p.c) ∧ w'.cell? ⟨w.heap.size, 2, none⟩ = some (.slice p.B p.xs.length p.e)) ∧ (w'.cell? (ad.add (q * 3)) = some (.slice P mp.length cp) ∧ w'.cell? ⟨(ad.add (q * 3)).block, (ad.add (q * 3)).off + 1, none⟩ = some (.int .i64 mo) ∧ w'.cell? ⟨(ad.add (q * 3)).block, (ad.add (q * 3)).off + 2, none⟩ = some (.int .i64 mn))) (first | exact hS | exact HS4.out _ AL.drew | exact HS4.out _ AL | exact HS4.out _ (hBq.alloc hBq.size _) | exact ⟨⟨by (repeat rw [World.cell?_setCell_other _ _ _ _ (nb2 _ _)]); exact hS.1.1, by (repeat rw [World.cell?_setCell_other _ _ _ _ (nb2 _ _)]); exact hS.1.2.1, by (repeat rw [World.cell?_setCell_other _ _ _ _ (nb2 _ _)]); exact hS.1.2.2⟩, by (repeat rw [World.cell?_setCell_other _ _ _ _ (nb _)]); exact hS.2.1, by (repeat rw [World.cell?_setCell_other _ _ _ _ (nb1 _ _)]); exact hS.2.2.1, by (repeat rw [World.cell?_setCell_other _ _ _ _ (nb1 _ _)]); exact hS.2.2.2⟩ | fail) (first
    | (go_at_call 16; first
      | ((with_reducible refine (KM.out P cp w4.drew (HOK4.out _ hbd).1 (HOK4.out _ hbd).2).mono ?_); rintro e w7 ⟨hb7, A6, c6, B6, ce6, rfl, ok7, far7⟩; have hBq : Below w4.heap.size w4 w7 := hbd.trans hb7; have hS := HS4.out _ hBq; unfold Cem at hS; simp only at hS)
      | ((with_reducible refine (KM.out P cp _ (HOK4.out _ AL.drew).1 (HOK4.out _ AL.drew).2).mono ?_); rintro e w7 ⟨hb7, A6, c6, B6, ce6, rfl, ok7, far7⟩; have bX0 := (Blk.new w4 25 #[.int .i64 0, .slice none 0 0, .slice none 0 0]).drew; have bX := bX0.below hb7 bX0.lt; have hBq : Below w4.heap.size w4 w7 := AL.drew.trans (hb7.mono AL.drew.size); have zf := bX.frozen; obtain ⟨z0, z1, z2⟩ := bX.three; have hS := HS4.out _ hBq; unfold Cem at hS; simp only at hS)
      | fail)
    | fail)
  all_goals first
    | (have hF : FinP w4 (((w7.setCell ⟨w4.heap.size, 0, none⟩ (.int .i64 p.ps)).setCell ⟨w4.heap.size, 1, none⟩ (.slice A6 p.vs.length c6)).setCell ⟨w4.heap.size, 2, none⟩ (.slice B6 R.length ce6)) w4.heap.size p.ps A6 c6 p.vs B6 ce6 R := finp_set hBq ok7 bX (Nat.le_refl _) (fun hv ad' e => by
         rcases far7 ad' e with z | z
         · have := hV4.out hv ad' z
           omega
         · have z2 : w4.heap.size + 1 ≤ ad'.block := by simpa using z
           omega)
       generalize ((w7.setCell ⟨w4.heap.size, 0, none⟩ (.int .i64 p.ps)).setCell ⟨w4.heap.size, 1, none⟩ (.slice A6 p.vs.length c6)).setCell ⟨w4.heap.size, 2, none⟩ (.slice B6 R.length ce6) = w8 at hF ⊢
       obtain ⟨g7, hg7⟩ : ∃ g7, w4.heap.size = g7 := ⟨_, rfl⟩
       have hF2 := hF.2
       have hF1 := hF.1
       rw [hg7] at hF2
       clear hF
       have hF : Below w4.heap.size w4 w8 ∧ _ := ⟨hF1, hF2⟩
       rw [hg7])
    | (have hF : FinP w4 (w7.alloc (.cells #[.int .i64 p.ps, .slice A6 p.vs.length c6, .slice B6 R.length ce6] 25)) w7.heap.size p.ps A6 c6 p.vs B6 ce6 R := finp_new hBq ok7
       generalize w7.alloc (.cells #[.int .i64 p.ps, .slice A6 p.vs.length c6, .slice B6 R.length ce6] 25) = w8 at hF ⊢
       generalize w7.heap.size = g7 at hF ⊢)
  all_goals (
    obtain ⟨hB8, bF, okF⟩ := hF
    have HS8 := Lib.hid (fun W (h : Below w8.heap.size w8 W) => And.intro (HS4.out _ (hB8.trans (h.mono hB8.size))).1 (bF.below h bF.lt).three)
    have HK8 := Lib.hid (fun W (h : Below w8.heap.size w8 W) => And.intro (HOK4.out _ (hB8.trans (h.mono hB8.size))).1 (okF.at h))
    obtain ⟨⟨b0, b1, b2⟩, f0, f1, f2⟩ := HS8.out _ (Below.refl _ _)
    have HF8 := Lib.hid (HB4.out.trans (hB8.mono HB4.out.size))
    clear hBq ok7 hS bF okF hb7 far7 nb nb1 nb2 hbd AL
    rcases t2 with rfl | rfl <;> (
      go_wp2_with (first
        | (go_at_call 19; refine (KC.out _ _ _ _ _ (HK8.out _ (Below.refl _ _)).2).mono ?_; rintro e w9 ⟨rfl, hb9⟩; obtain ⟨⟨b0, b1, b2⟩, f0, f1, f2⟩ := HS8.out _ hb9)
        | (go_at_call 25; refine (KS.out _ _ _ _ _ (HK8.out _ hb9).1 (HK8.out _ hb9).2).mono ?_; rintro e w10 ⟨rfl, hb⟩; have hb10 := hb9.trans (hb.mono hb9.size); obtain ⟨⟨b0, b1, b2⟩, f0, f1, f2⟩ := HS8.out _ hb10)
        | (go_at_call 26; refine (KO.out _ _ _ _ _ (HK8.out _ hb10).2).mono ?_; rintro e w11 ⟨rfl, hb⟩; have hb11 := hb10.trans (hb.mono hb10.size))
        | fail)
      go_ret
      exact ⟨rfl, hB0.trans ((HF8.out.trans (hb11.mono HF8.out.size)).mono hB0.size)⟩))

end Go.Proofs.YtofhgaioidfdmaaGreat.Sites
