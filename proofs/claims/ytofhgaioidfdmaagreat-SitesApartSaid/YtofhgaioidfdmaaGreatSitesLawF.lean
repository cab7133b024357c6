/-
  The laws of layer 14, walked: two mutants by one operator, that changes a node alone, are unlike. (Written by tools/gen_sitesapart.py.)
-/
import Derived.Test.YtofhgaioidfdmaaGreatSitesLawE
import Derived.Deep.QuietTactic
import Derived.BigQuiet
set_option linter.unusedVariables false
namespace Go.Proofs.YtofhgaioidfdmaaGreat.Sites
open Go.RowKit Mem _root_.Go.Proofs.YtofhgaioidfdmaaGreat.Arena _root_.Go.Proofs.YtofhgaioidfdmaaGreat.Delta _root_.Go.Proofs.YtofhgaioidfdmaaGreat.Path _root_.Go.Proofs.YtofhgaioidfdmaaGreat.Cat _root_.Go.Proofs.YtofhgaioidfdmaaGreat.Kinds
attribute [local go_sem ↓] Go.wp_at_zero Go.wp_at_succ

theorem op_pos {l : List Nd} (hw : Whole l) {q : List Int} {op n : Int} (h : (q, op, n) ∈ msites l) : 1 ≤ op := by
  obtain ⟨a, m, -, -, -, hc, -⟩ := sites_apply hw h
  by_cases z : 1 ≤ op
  · exact z
  · unfold cis at hc
    rw [if_neg (by omega), if_neg (by omega), if_neg (by omega), if_neg (by omega), if_neg (by omega), if_neg (by omega), if_neg (by omega)] at hc
    cases hc

set_option maxRecDepth 100000 in
set_option maxHeartbeats 8000000 in
theorem sitesApart_of (C : SPkg) (K : Works) (p : Prg) (n m : Int) (w : World) (hp : p.In w) :
    Calls Tryz.prog 8 #[.agg #[.int .i64 p.ps, .slice p.A p.vs.length p.c, .slice p.B p.xs.length p.e], .int .i64 n, .int .i64 m] w fun e w' => e = .returned (.bool true) ∧ Below w.heap.size w w' := by
  have hB0 : Below w.heap.size w (w.alloc (.cells #[.int .i64 p.ps, .slice p.A p.vs.length p.c, .slice p.B p.xs.length p.e] 25)) := (Below.refl _ _).alloc (Nat.le_refl _) _
  have bX := Blk.new w 25 #[.int .i64 p.ps, .slice p.A p.vs.length p.c, .slice p.B p.xs.length p.e]
  have hi := hp.at hB0
  obtain ⟨wQ, hwQ⟩ : ∃ wQ, w.alloc (.cells #[.int .i64 p.ps, .slice p.A p.vs.length p.c, .slice p.B p.xs.length p.e] 25) = wQ := ⟨_, rfl⟩
  rw [hwQ] at hB0 bX hi
  have hgl := bX.lt
  have HBX := Lib.hid (fun W (h : Below wQ.heap.size wQ W) => (bX.below h hgl).three)
  have HP := Lib.hid hi
  have HWQ := Lib.hid hwQ
  have HW := Lib.hid K
  have HF := Lib.hid (fun W => ref_Few_any p W)
  have HFP := Lib.hid (fun W (h : p.In W) => few_prg (p := p) (w := W) h)
  have HA := Lib.hid (fun W h => C.all p W h)
  have HAP := Lib.hid (fun (hc : pcheck p.ps p.vs p.xs = 0) (a b : Mt) (ha : a ∈ msites p.xs) (hb : b ∈ msites p.xs) (ho : a.2.1 = b.2.1) (hne : a ≠ b) (h4 : a.2.1 ≤ 4) => show anew p.xs a.1 a.2.1 a.2.2 ≠ anew p.xs b.1 b.2.1 b.2.2 ∧ (anew p.xs a.1 a.2.1 a.2.2).length = p.xs.length from by
    obtain ⟨a1, a2, a3⟩ := a
    obtain ⟨b1, b2, b3⟩ := b
    simp only at ho h4 ⊢
    subst ho
    exact sites_apart (pcheck_whole hc).1 ha hb hne (op_pos (pcheck_whole hc).1 ha) h4)
  have HUP := Lib.hid (fun (hc : pcheck p.ps p.vs p.xs = 0) => sites_rise (pcheck_whole hc).1)
  have HMU := Lib.hid (fun (hc : pcheck p.ps p.vs p.xs = 0) (m : Mt) (hm : m ∈ msites p.xs) P cp W h h' => mutant_in C p hc hm P cp W h h')
  clear hp bX hwQ hi
  generalize hc : pcheck p.ps p.vs p.xs = e9 at *
  generalize hf : (decide (p.xs.length ≤ 60) && decide (p.vs.length ≤ 20)) = f at *
  cases f with
  | false =>
    go_enter Tryz.func8, Tryz.ntmps8
    go_wp2_with (first
      | (go_at_call 10; rw [HWQ.out]; refine (HW.out _).mono ?_; rintro e w2 ⟨rfl, hb2⟩; obtain ⟨b0, b1, b2⟩ := HBX.out _ hb2)
      | (go_at_call 11; refine (HF.out _).mono ?_; rintro e w3 ⟨rfl, hb⟩; have hb3 := hb2.trans (hb.mono hb2.size); obtain ⟨b0, b1, b2⟩ := HBX.out _ hb3)
      | fail)
    go_ret
    exact ⟨rfl, hB0.trans (hb3.mono hB0.size)⟩
  | true =>
  have hl60 := (HFP.out _ HP.out rfl).2
  have HOK := Lib.hid (fun W (h : Below wQ.heap.size wQ W) => (HFP.out _ (HP.out.at h) rfl).1)
  by_cases h9 : e9 = 0
  case neg =>
    have HA2 := Lib.hid (fun W h => (HA.out W h).mono (fun e w' q => q.no h9))
    have e0 : (e9 == 0) = false := by simpa using h9
    have e1 : (e9 != 0) = true := by simpa using h9
    clear HA h9 hf hc HAP HMU HUP
    go_enter Tryz.func8, Tryz.ntmps8
    go_wp2_with (first
      | (go_at_call 10; rw [HWQ.out]; refine (HW.out _).mono ?_; rintro e w2 ⟨rfl, hb2⟩; obtain ⟨b0, b1, b2⟩ := HBX.out _ hb2)
      | (go_at_call 11; refine (HF.out _).mono ?_; rintro e w3 ⟨rfl, hb⟩; have hb3 := hb2.trans (hb.mono hb2.size); obtain ⟨b0, b1, b2⟩ := HBX.out _ hb3)
      | (go_at_call 12; refine (HA2.out _ (HOK.out _ hb3)).mono ?_; rintro e w4 ⟨hb, A4, c4, rfl⟩; have hb4 := hb3.trans (hb.mono hb3.size))
      | fail)
    go_quiet (fail)
    go_wp2_with fail
    go_ret
    exact ⟨rfl, hB0.trans ((belowN hb4 _).mono hB0.size)⟩
  subst h9
  have HA2 := Lib.hid (fun W h => (HA.out W h).mono (fun e w' q => q.ok rfl))
  clear HA hf
  by_cases hn : n < 0
  case pos =>
    have y1 : decide (n < 0) = true := decide_eq_true hn
    clear hc HAP HMU HUP
    generalize msites p.xs = M at *
    go_enter Tryz.func8, Tryz.ntmps8
    go_wp2_with (first
      | (go_at_call 10; rw [HWQ.out]; refine (HW.out _).mono ?_; rintro e w2 ⟨rfl, hb2⟩; obtain ⟨b0, b1, b2⟩ := HBX.out _ hb2)
      | (go_at_call 11; refine (HF.out _).mono ?_; rintro e w3 ⟨rfl, hb⟩; have hb3 := hb2.trans (hb.mono hb2.size); obtain ⟨b0, b1, b2⟩ := HBX.out _ hb3)
      | (go_at_call 12; refine (HA2.out _ (HOK.out _ hb3)).mono ?_; rintro e w4 ⟨hb, A4, c4, rfl, -, -, hm4⟩; have hb4 := hb3.trans (hb.mono hb3.size))
      | fail)
    go_quiet (fail)
    go_wp2_with fail
    go_ret
    exact ⟨rfl, hB0.trans ((belowN hb4 _).mono hB0.size)⟩
  have y1 : decide (n < 0) = false := decide_eq_false hn
  by_cases hq : ((msites p.xs).length : Int) ≤ n
  case pos =>
    have y2 : decide (((msites p.xs).length : Int) ≤ n) = true := decide_eq_true hq
    clear hc HAP HMU HUP
    generalize msites p.xs = M at *
    go_enter Tryz.func8, Tryz.ntmps8
    go_wp2_with (first
      | (go_at_call 10; rw [HWQ.out]; refine (HW.out _).mono ?_; rintro e w2 ⟨rfl, hb2⟩; obtain ⟨b0, b1, b2⟩ := HBX.out _ hb2)
      | (go_at_call 11; refine (HF.out _).mono ?_; rintro e w3 ⟨rfl, hb⟩; have hb3 := hb2.trans (hb.mono hb2.size); obtain ⟨b0, b1, b2⟩ := HBX.out _ hb3)
      | (go_at_call 12; refine (HA2.out _ (HOK.out _ hb3)).mono ?_; rintro e w4 ⟨hb, A4, c4, rfl, -, -, hm4⟩; have hb4 := hb3.trans (hb.mono hb3.size))
      | fail)
    go_quiet (fail)
    go_wp2_with fail
    go_ret
    exact ⟨rfl, hB0.trans ((belowN hb4 _).mono hB0.size)⟩
  have y2 : decide (((msites p.xs).length : Int) ≤ n) = false := decide_eq_false hq
  by_cases hm0 : m < 0
  case pos =>
    have y3 : decide (m < 0) = true := decide_eq_true hm0
    clear hc HAP HMU HUP
    generalize msites p.xs = M at *
    go_enter Tryz.func8, Tryz.ntmps8
    go_wp2_with (first
      | (go_at_call 10; rw [HWQ.out]; refine (HW.out _).mono ?_; rintro e w2 ⟨rfl, hb2⟩; obtain ⟨b0, b1, b2⟩ := HBX.out _ hb2)
      | (go_at_call 11; refine (HF.out _).mono ?_; rintro e w3 ⟨rfl, hb⟩; have hb3 := hb2.trans (hb.mono hb2.size); obtain ⟨b0, b1, b2⟩ := HBX.out _ hb3)
      | (go_at_call 12; refine (HA2.out _ (HOK.out _ hb3)).mono ?_; rintro e w4 ⟨hb, A4, c4, rfl, -, -, hm4⟩; have hb4 := hb3.trans (hb.mono hb3.size))
      | fail)
    go_quiet (fail)
    go_wp2_with fail
    go_ret
    exact ⟨rfl, hB0.trans ((belowN hb4 _).mono hB0.size)⟩
  have y3 : decide (m < 0) = false := decide_eq_false hm0
  by_cases hr : ((msites p.xs).length : Int) ≤ m
  case pos =>
    have y4 : decide (((msites p.xs).length : Int) ≤ m) = true := decide_eq_true hr
    clear hc HAP HMU HUP
    generalize msites p.xs = M at *
    go_enter Tryz.func8, Tryz.ntmps8
    go_wp2_with (first
      | (go_at_call 10; rw [HWQ.out]; refine (HW.out _).mono ?_; rintro e w2 ⟨rfl, hb2⟩; obtain ⟨b0, b1, b2⟩ := HBX.out _ hb2)
      | (go_at_call 11; refine (HF.out _).mono ?_; rintro e w3 ⟨rfl, hb⟩; have hb3 := hb2.trans (hb.mono hb2.size); obtain ⟨b0, b1, b2⟩ := HBX.out _ hb3)
      | (go_at_call 12; refine (HA2.out _ (HOK.out _ hb3)).mono ?_; rintro e w4 ⟨hb, A4, c4, rfl, -, -, hm4⟩; have hb4 := hb3.trans (hb.mono hb3.size))
      | fail)
    go_quiet (fail)
    go_wp2_with fail
    go_ret
    exact ⟨rfl, hB0.trans ((belowN hb4 _).mono hB0.size)⟩
  have y4 : decide (((msites p.xs).length : Int) ≤ m) = false := decide_eq_false hr
  by_cases hnm : n = m
  case pos =>
    have y5 : (n == m) = true := by simpa using hnm
    clear hc HAP HMU HUP
    generalize msites p.xs = M at *
    go_enter Tryz.func8, Tryz.ntmps8
    go_wp2_with (first
      | (go_at_call 10; rw [HWQ.out]; refine (HW.out _).mono ?_; rintro e w2 ⟨rfl, hb2⟩; obtain ⟨b0, b1, b2⟩ := HBX.out _ hb2)
      | (go_at_call 11; refine (HF.out _).mono ?_; rintro e w3 ⟨rfl, hb⟩; have hb3 := hb2.trans (hb.mono hb2.size); obtain ⟨b0, b1, b2⟩ := HBX.out _ hb3)
      | (go_at_call 12; refine (HA2.out _ (HOK.out _ hb3)).mono ?_; rintro e w4 ⟨hb, A4, c4, rfl, -, -, hm4⟩; have hb4 := hb3.trans (hb.mono hb3.size))
      | fail)
    go_quiet (fail)
    go_wp2_with fail
    go_ret
    exact ⟨rfl, hB0.trans ((belowN hb4 _).mono hB0.size)⟩
  have y5 : (n == m) = false := by simpa using hnm
  obtain ⟨q, hqe⟩ := Int.eq_ofNat_of_zero_le (show 0 ≤ n by omega)
  obtain ⟨r, hre⟩ := Int.eq_ofNat_of_zero_le (show 0 ≤ m by omega)
  have j1 : n < ((msites p.xs).length : Int) := by omega
  have j2 : (0 : Int) ≤ n := by omega
  have j3 : m < ((msites p.xs).length : Int) := by omega
  have j4 : (0 : Int) ≤ m := by omega
  have t1 : n.toNat = q := by omega
  have t2 : m.toNat = r := by omega
  have hq2 : q < (msites p.xs).length := by omega
  have hr2 : r < (msites p.xs).length := by omega
  have hqr : q ≠ r := by omega
  clear hqe hre
  obtain ⟨ma, hma⟩ : ∃ ma, (msites p.xs)[q]? = some ma := ⟨_, List.getElem?_eq_getElem hq2⟩
  obtain ⟨mb, hmb⟩ : ∃ mb, (msites p.xs)[r]? = some mb := ⟨_, List.getElem?_eq_getElem hr2⟩
  have mema : ma ∈ msites p.xs := List.mem_of_getElem? hma
  have memb : mb ∈ msites p.xs := List.mem_of_getElem? hmb
  have hne : ma ≠ mb := by
    intro e
    subst e
    have hz : mcmp ma ma = 0 := mcmp_zero.2 rfl
    by_cases z : q < r
    · have := rise_all (HUP.out rfl) q r ma ma z hma hmb; omega
    · have := rise_all (HUP.out rfl) r q ma ma (by omega) hmb hma; omega
  have HX := Lib.hid (HAP.out rfl ma mb mema memb)
  have KA := Lib.hid (fun P cp W h h' => HMU.out rfl ma mema P cp W h h')
  have KB := Lib.hid (fun P cp W h h' => HMU.out rfl mb memb P cp W h h')
  clear hc HAP HMU HUP mema memb
  generalize msites p.xs = M at *
  obtain ⟨ap, ao, an⟩ := ma
  obtain ⟨bp, bo, bn⟩ := mb
  simp only at KA KB HX
  by_cases ho : ao = bo
  case neg =>
    have y6 : (ao != bo) = true := by simpa using ho
    have y7 : (ao == bo) = false := by simpa using ho
    clear KA KB HX
    go_enter Tryz.func8, Tryz.ntmps8
    go_wp2_with (first
      | (go_at_call 10; rw [HWQ.out]; refine (HW.out _).mono ?_; rintro e w2 ⟨rfl, hb2⟩; obtain ⟨b0, b1, b2⟩ := HBX.out _ hb2)
      | (go_at_call 11; refine (HF.out _).mono ?_; rintro e w3 ⟨rfl, hb⟩; have hb3 := hb2.trans (hb.mono hb2.size); obtain ⟨b0, b1, b2⟩ := HBX.out _ hb3)
      | (go_at_call 12; refine (HA2.out _ (HOK.out _ hb3)).mono ?_; rintro e w4 ⟨hb, A4, c4, rfl, -, -, hm4⟩; have hb4 := hb3.trans (hb.mono hb3.size))
      | fail)
    obtain ⟨ad, P, cp, e, G⟩ := hm4.get hma
    subst e
    obtain ⟨ad', P', cp', e, G'⟩ := hm4.get hmb
    cases e
    obtain ⟨-, ca0, ca1, ca2⟩ := G _ (Below.refl _ _)
    obtain ⟨-, cb0, cb1, cb2⟩ := G' _ (Below.refl _ _)
    simp only at ca0 ca1 ca2 cb0 cb1 cb2
    go_quiet (fail)
    go_wp2_with fail
    go_ret
    exact ⟨rfl, hB0.trans ((belowN hb4 _).mono hB0.size)⟩
  subst ho
  by_cases h4 : 4 < ao
  case pos =>
    have y6 : decide (4 < ao) = true := decide_eq_true h4
    have y7 : (ao != ao) = false := by simp
    clear KA KB HX
    go_enter Tryz.func8, Tryz.ntmps8
    go_wp2_with (first
      | (go_at_call 10; rw [HWQ.out]; refine (HW.out _).mono ?_; rintro e w2 ⟨rfl, hb2⟩; obtain ⟨b0, b1, b2⟩ := HBX.out _ hb2)
      | (go_at_call 11; refine (HF.out _).mono ?_; rintro e w3 ⟨rfl, hb⟩; have hb3 := hb2.trans (hb.mono hb2.size); obtain ⟨b0, b1, b2⟩ := HBX.out _ hb3)
      | (go_at_call 12; refine (HA2.out _ (HOK.out _ hb3)).mono ?_; rintro e w4 ⟨hb, A4, c4, rfl, -, -, hm4⟩; have hb4 := hb3.trans (hb.mono hb3.size))
      | fail)
    obtain ⟨ad, P, cp, e, G⟩ := hm4.get hma
    subst e
    obtain ⟨ad', P', cp', e, G'⟩ := hm4.get hmb
    cases e
    obtain ⟨-, ca0, ca1, ca2⟩ := G _ (Below.refl _ _)
    obtain ⟨-, cb0, cb1, cb2⟩ := G' _ (Below.refl _ _)
    simp only at ca0 ca1 ca2 cb0 cb1 cb2
    go_quiet (fail)
    go_wp2_with fail
    go_ret
    exact ⟨rfl, hB0.trans ((belowN hb4 _).mono hB0.size)⟩
  have y6 : decide (4 < ao) = false := decide_eq_false h4
  have y7 : (ao != ao) = false := by simp
  obtain ⟨x1, x2⟩ := HX.out rfl hne (by omega)
  generalize anew p.xs ap ao an = RA at *
  generalize anew p.xs bp ao bn = RB at *
  have KS := Lib.hid (fun A c B ce A' c' B' ce' W (h : Prg.Ok ⟨p.ps, A, c, p.vs, B, ce, RA⟩ W) (h' : Prg.Ok ⟨p.ps, A', c', p.vs, B', ce', RB⟩ W) => show Calls Tryz.prog 25 #[.agg #[.int .i64 p.ps, .slice A p.vs.length c, .slice B RA.length ce], .agg #[.int .i64 p.ps, .slice A' p.vs.length c', .slice B' RB.length ce']] W (fun e w' => e = .returned (.bool false) ∧ Below W.heap.size W w') from by
    have z := Kinds.PSame_any ⟨p.ps, A, c, p.vs, B, ce, RA⟩ ⟨p.ps, A', c', p.vs, B', ce', RB⟩ W h h'
    rw [show decide (p.vs = p.vs ∧ RA = RB ∧ p.ps = p.ps) = false from decide_eq_false (fun z => x1 z.2.1)] at z
    exact z)
  have HVL := Lib.hid (fun W (h : p.Ok W) hv ad e => vars_lt (p := p) (W := W) h hv ad e)
  have X2 := Lib.hid x2
  clear x1 x2 hne HX
  go_enter Tryz.func8, Tryz.ntmps8
  go_wp2_with (first
    | (go_at_call 10; rw [HWQ.out]; refine (HW.out _).mono ?_; rintro e w2 ⟨rfl, hb2⟩; obtain ⟨b0, b1, b2⟩ := HBX.out _ hb2)
    | (go_at_call 11; refine (HF.out _).mono ?_; rintro e w3 ⟨rfl, hb⟩; have hb3 := hb2.trans (hb.mono hb2.size); obtain ⟨b0, b1, b2⟩ := HBX.out _ hb3)
    | (go_at_call 12; refine (HA2.out _ (HOK.out _ hb3)).mono ?_; rintro e w4 ⟨hb, A4, c4, rfl, -, -, hm4⟩; have hb4 := hb3.trans (hb.mono hb3.size))
    | fail)
  obtain ⟨ad, P, cp, e, G⟩ := hm4.get hma
  subst e
  obtain ⟨ad', P', cp', e, G'⟩ := hm4.get hmb
  cases e
  obtain ⟨-, ca0, ca1, ca2⟩ := G _ (Below.refl _ _)
  obtain ⟨-, cb0, cb1, cb2⟩ := G' _ (Below.refl _ _)
  simp only at ca0 ca1 ca2 cb0 cb1 cb2
  have hadb : ad.block < w4.heap.size := by
    obtain ⟨ad', _, _, e, hlt, -, -⟩ := hm4 q _ hma
    cases e
    exact hlt
  have HG := Lib.hid G
  have HG' := Lib.hid G'
  have HB4 := Lib.hid hb4
  clear hm4 hma hmb hb hb2 hb3 b0 b1 b2 G G'
  go_quiet (fail)
  have HDW := Lib.hid (belowN (Below.refl w4.heap.size w4) nq)
  have HBW := Lib.hid (HB4.out.trans ((belowN (Below.refl w4.heap.size w4) nq).mono HB4.out.size))
  go_wp2_with fail
  generalize w4.drewN nq = W4 at *
  have HPXa := Lib.hid (fun X (h : Below W4.heap.size W4 X) => And.intro (HBX.out _ (HBW.out.trans (h.mono HBW.out.size))) (HOK.out _ (HBW.out.trans (h.mono HBW.out.size))))
  have GXa := Lib.hid (fun X (h : Below W4.heap.size W4 X) => HG.out X (HDW.out.trans (h.mono HDW.out.size)))
  have hgp : w.heap.size < W4.heap.size := Nat.lt_of_lt_of_le hgl HBW.out.size
  have hadw : ad.block < W4.heap.size := Nat.lt_of_lt_of_le hadb HDW.out.size
  have HSa := Lib.hid (fun X (h : Below W4.heap.size W4 X) => And.intro (HPXa.out X h).1 (GXa.out X h).2)
  have HOKa := Lib.hid (fun X (h : Below W4.heap.size W4 X) => And.intro (HPXa.out X h).2 (GXa.out X h).1)
  have hS := HSa.out _ (Below.refl _ _)
  unfold Cem at hS
  simp only at hS
  have ALa : Below W4.heap.size W4 (W4.alloc (.cells #[.int .i64 0, .slice none 0 0, .slice none 0 0] 25)) := (Below.refl _ _).alloc (Nat.le_refl _) _
  have hbda : Below W4.heap.size W4 W4.drew := (Below.refl _ _).drew
  have nb : ∀ i, (⟨W4.heap.size, i, none⟩ : Addr) ≠ ad.add (q * 3) := fun i => ne_blk (by rw [add_blockN]; omega)
  have nb1 : ∀ i o, (⟨W4.heap.size, i, none⟩ : Addr) ≠ ⟨(ad.add (q * 3)).block, o, none⟩ := fun i o => ne_blk (by show (ad.add (q * 3)).block ≠ _; rw [add_blockN]; omega)
  have nb2 : ∀ i o, (⟨W4.heap.size, i, none⟩ : Addr) ≠ ⟨w.heap.size, o, none⟩ := fun i o => ne_blk (by show w.heap.size ≠ _; omega)
  have hVa := Lib.hid (HVL.out _ (HOKa.out _ (Below.refl _ _)).1)
  go_region_held3 (fun w' => (w'.cell? ⟨w.heap.size, 0, none⟩ = some (.int .i64 p.ps) ∧ w'.cell? ⟨w.heap.size, 1, none⟩ = some (.slice p.A p.vs.length p.c) ∧ w'.cell? ⟨w.heap.size, 2, none⟩ = some (.slice p.B p.xs.length p.e)) ∧ (w'.cell? (ad.add (q * 3)) = some (.slice P ap.length cp) ∧ w'.cell? ⟨(ad.add (q * 3)).block, (ad.add (q * 3)).off + 1, none⟩ = some (.int .i64 ao) ∧ w'.cell? ⟨(ad.add (q * 3)).block, (ad.add (q * 3)).off + 2, none⟩ = some (.int .i64 an))) (first | exact hS | exact HSa.out _ ALa.drew | exact HSa.out _ ALa | exact HSa.out _ (hBq.alloc hBq.size _) | exact ⟨⟨by (repeat rw [World.cell?_setCell_other _ _ _ _ (nb2 _ _)]); exact hS.1.1, by (repeat rw [World.cell?_setCell_other _ _ _ _ (nb2 _ _)]); exact hS.1.2.1, by (repeat rw [World.cell?_setCell_other _ _ _ _ (nb2 _ _)]); exact hS.1.2.2⟩, by (repeat rw [World.cell?_setCell_other _ _ _ _ (nb _)]); exact hS.2.1, by (repeat rw [World.cell?_setCell_other _ _ _ _ (nb1 _ _)]); exact hS.2.2.1, by (repeat rw [World.cell?_setCell_other _ _ _ _ (nb1 _ _)]); exact hS.2.2.2⟩ | fail) (first
    | (go_at_call 16; first
      | ((with_reducible refine (KA.out P cp W4.drew (HOKa.out _ hbda).1 (HOKa.out _ hbda).2).mono ?_); rintro e w7a ⟨hb7, A6a, c6a, B6a, ce6a, rfl, ok7, far7⟩; have hBq : Below W4.heap.size W4 w7a := hbda.trans hb7; have hS := HSa.out _ hBq; unfold Cem at hS; simp only at hS)
      | ((with_reducible refine (KA.out P cp _ (HOKa.out _ ALa.drew).1 (HOKa.out _ ALa.drew).2).mono ?_); rintro e w7a ⟨hb7, A6a, c6a, B6a, ce6a, rfl, ok7, far7⟩; have bX0 := (Blk.new W4 25 #[.int .i64 0, .slice none 0 0, .slice none 0 0]).drew; have bX := bX0.below hb7 bX0.lt; have hBq : Below W4.heap.size W4 w7a := ALa.drew.trans (hb7.mono ALa.drew.size); have zf := bX.frozen; obtain ⟨z0, z1, z2⟩ := bX.three; have hS := HSa.out _ hBq; unfold Cem at hS; simp only at hS)
      | fail)
    | fail)
  all_goals first
    | (have hF : FinP W4 (((w7a.setCell ⟨W4.heap.size, 0, none⟩ (.int .i64 p.ps)).setCell ⟨W4.heap.size, 1, none⟩ (.slice A6a p.vs.length c6a)).setCell ⟨W4.heap.size, 2, none⟩ (.slice B6a RA.length ce6a)) W4.heap.size p.ps A6a c6a p.vs B6a ce6a RA := finp_set hBq ok7 bX (Nat.le_refl _) (fun hv ad' e => by
         rcases far7 ad' e with z | z
         · have := hVa.out hv ad' z
           omega
         · have z2 : W4.heap.size + 1 ≤ ad'.block := by simpa using z
           omega)
       generalize ((w7a.setCell ⟨W4.heap.size, 0, none⟩ (.int .i64 p.ps)).setCell ⟨W4.heap.size, 1, none⟩ (.slice A6a p.vs.length c6a)).setCell ⟨W4.heap.size, 2, none⟩ (.slice B6a RA.length ce6a) = w8a at hF ⊢
       obtain ⟨g7a, hg7⟩ : ∃ g7, W4.heap.size = g7 := ⟨_, rfl⟩
       have hF2 := hF.2
       have hF1 := hF.1
       rw [hg7] at hF2
       clear hF
       have hF : Below W4.heap.size W4 w8a ∧ _ := ⟨hF1, hF2⟩
       rw [hg7]
       clear hg7 hF1 hF2)
    | (have hF : FinP W4 (w7a.alloc (.cells #[.int .i64 p.ps, .slice A6a p.vs.length c6a, .slice B6a RA.length ce6a] 25)) w7a.heap.size p.ps A6a c6a p.vs B6a ce6a RA := finp_new hBq ok7
       generalize w7a.alloc (.cells #[.int .i64 p.ps, .slice A6a p.vs.length c6a, .slice B6a RA.length ce6a] 25) = w8a at hF ⊢
       generalize w7a.heap.size = g7a at hF ⊢)
  all_goals (
    obtain ⟨hB8, bFa, okFa⟩ := hF
    have HBa := Lib.hid (HBW.out.trans (hB8.mono HBW.out.size))
    have HDa := Lib.hid (HDW.out.trans (hB8.mono HDW.out.size))
    have HFa := Lib.hid (fun X (h : Below w8a.heap.size w8a X) => And.intro (bFa.below h bFa.lt).three (okFa.at h))
    have HPXb := Lib.hid (fun X (h : Below w8a.heap.size w8a X) => And.intro (HBX.out _ (HBa.out.trans (h.mono HBa.out.size))) (HOK.out _ (HBa.out.trans (h.mono HBa.out.size))))
    have GXb := Lib.hid (fun X (h : Below w8a.heap.size w8a X) => HG'.out X (HDa.out.trans (h.mono HDa.out.size)))
    have hgp : w.heap.size < w8a.heap.size := Nat.lt_of_lt_of_le hgl HBa.out.size
    have hadw : ad.block < w8a.heap.size := Nat.lt_of_lt_of_le hadb HDa.out.size
    clear hBq ok7 hS bFa okFa hb7 far7 nb nb1 nb2 hbda ALa
    go_wp2_with fail
    have HSb := Lib.hid (fun X (h : Below w8a.heap.size w8a X) => And.intro (HPXb.out X h).1 (GXb.out X h).2)
    have HOKb := Lib.hid (fun X (h : Below w8a.heap.size w8a X) => And.intro (HPXb.out X h).2 (GXb.out X h).1)
    have hS := HSb.out _ (Below.refl _ _)
    unfold Cem at hS
    simp only at hS
    have ALb : Below w8a.heap.size w8a (w8a.alloc (.cells #[.int .i64 0, .slice none 0 0, .slice none 0 0] 25)) := (Below.refl _ _).alloc (Nat.le_refl _) _
    have hbdb : Below w8a.heap.size w8a w8a.drew := (Below.refl _ _).drew
    have nb : ∀ i, (⟨w8a.heap.size, i, none⟩ : Addr) ≠ ad.add (r * 3) := fun i => ne_blk (by rw [add_blockN]; omega)
    have nb1 : ∀ i o, (⟨w8a.heap.size, i, none⟩ : Addr) ≠ ⟨(ad.add (r * 3)).block, o, none⟩ := fun i o => ne_blk (by show (ad.add (r * 3)).block ≠ _; rw [add_blockN]; omega)
    have nb2 : ∀ i o, (⟨w8a.heap.size, i, none⟩ : Addr) ≠ ⟨w.heap.size, o, none⟩ := fun i o => ne_blk (by show w.heap.size ≠ _; omega)
    have hVb := Lib.hid (HVL.out _ (HOKb.out _ (Below.refl _ _)).1)
    go_region_held3 (fun w' => (w'.cell? ⟨w.heap.size, 0, none⟩ = some (.int .i64 p.ps) ∧ w'.cell? ⟨w.heap.size, 1, none⟩ = some (.slice p.A p.vs.length p.c) ∧ w'.cell? ⟨w.heap.size, 2, none⟩ = some (.slice p.B p.xs.length p.e)) ∧ (w'.cell? (ad.add (r * 3)) = some (.slice P' bp.length cp') ∧ w'.cell? ⟨(ad.add (r * 3)).block, (ad.add (r * 3)).off + 1, none⟩ = some (.int .i64 ao) ∧ w'.cell? ⟨(ad.add (r * 3)).block, (ad.add (r * 3)).off + 2, none⟩ = some (.int .i64 bn))) (first | exact hS | exact HSb.out _ ALb.drew | exact HSb.out _ ALb | exact HSb.out _ (hBq.alloc hBq.size _) | exact ⟨⟨by (repeat rw [World.cell?_setCell_other _ _ _ _ (nb2 _ _)]); exact hS.1.1, by (repeat rw [World.cell?_setCell_other _ _ _ _ (nb2 _ _)]); exact hS.1.2.1, by (repeat rw [World.cell?_setCell_other _ _ _ _ (nb2 _ _)]); exact hS.1.2.2⟩, by (repeat rw [World.cell?_setCell_other _ _ _ _ (nb _)]); exact hS.2.1, by (repeat rw [World.cell?_setCell_other _ _ _ _ (nb1 _ _)]); exact hS.2.2.1, by (repeat rw [World.cell?_setCell_other _ _ _ _ (nb1 _ _)]); exact hS.2.2.2⟩ | fail) (first
      | (go_at_call 16; first
        | ((with_reducible refine (KB.out P' cp' w8a.drew (HOKb.out _ hbdb).1 (HOKb.out _ hbdb).2).mono ?_); rintro e w7b ⟨hb7, A6b, c6b, B6b, ce6b, rfl, ok7, far7⟩; have hBq : Below w8a.heap.size w8a w7b := hbdb.trans hb7; have hS := HSb.out _ hBq; unfold Cem at hS; simp only at hS)
        | ((with_reducible refine (KB.out P' cp' _ (HOKb.out _ ALb.drew).1 (HOKb.out _ ALb.drew).2).mono ?_); rintro e w7b ⟨hb7, A6b, c6b, B6b, ce6b, rfl, ok7, far7⟩; have bX0 := (Blk.new w8a 25 #[.int .i64 0, .slice none 0 0, .slice none 0 0]).drew; have bX := bX0.below hb7 bX0.lt; have hBq : Below w8a.heap.size w8a w7b := ALb.drew.trans (hb7.mono ALb.drew.size); have zf := bX.frozen; obtain ⟨z0, z1, z2⟩ := bX.three; have hS := HSb.out _ hBq; unfold Cem at hS; simp only at hS)
        | fail)
      | fail)
    all_goals first
      | (have hF : FinP w8a (((w7b.setCell ⟨w8a.heap.size, 0, none⟩ (.int .i64 p.ps)).setCell ⟨w8a.heap.size, 1, none⟩ (.slice A6b p.vs.length c6b)).setCell ⟨w8a.heap.size, 2, none⟩ (.slice B6b RB.length ce6b)) w8a.heap.size p.ps A6b c6b p.vs B6b ce6b RB := finp_set hBq ok7 bX (Nat.le_refl _) (fun hv ad' e => by
           rcases far7 ad' e with z | z
           · have := hVb.out hv ad' z
             omega
           · have z2 : w8a.heap.size + 1 ≤ ad'.block := by simpa using z
             omega)
         generalize ((w7b.setCell ⟨w8a.heap.size, 0, none⟩ (.int .i64 p.ps)).setCell ⟨w8a.heap.size, 1, none⟩ (.slice A6b p.vs.length c6b)).setCell ⟨w8a.heap.size, 2, none⟩ (.slice B6b RB.length ce6b) = w8b at hF ⊢
         obtain ⟨g7b, hg7⟩ : ∃ g7, w8a.heap.size = g7 := ⟨_, rfl⟩
         have hF2 := hF.2
         have hF1 := hF.1
         rw [hg7] at hF2
         clear hF
         have hF : Below w8a.heap.size w8a w8b ∧ _ := ⟨hF1, hF2⟩
         rw [hg7]
         clear hg7 hF1 hF2)
      | (have hF : FinP w8a (w7b.alloc (.cells #[.int .i64 p.ps, .slice A6b p.vs.length c6b, .slice B6b RB.length ce6b] 25)) w7b.heap.size p.ps A6b c6b p.vs B6b ce6b RB := finp_new hBq ok7
         generalize w7b.alloc (.cells #[.int .i64 p.ps, .slice A6b p.vs.length c6b, .slice B6b RB.length ce6b] 25) = w8b at hF ⊢
         generalize w7b.heap.size = g7b at hF ⊢)
    all_goals (
      obtain ⟨hB9, bFb, okFb⟩ := hF
      obtain ⟨⟨f0, f1, f2⟩, okA⟩ := HFa.out _ hB9
      obtain ⟨s0, s1, s2⟩ := bFb.three
      have HBb := Lib.hid (HBa.out.trans (hB9.mono HBa.out.size))
      have HPb := Lib.hid (fun X (h : Below w8b.heap.size w8b X) => And.intro (HBX.out _ (HBb.out.trans (h.mono HBb.out.size))) (And.intro (bFb.below h bFb.lt).three (HFa.out _ (hB9.trans (h.mono hB9.size))).1))
      have OKB := Lib.hid okFb
      have OKA := Lib.hid okA
      obtain ⟨⟨b0, b1, b2⟩, -⟩ := HPb.out _ (Below.refl _ _)
      clear hBq ok7 hS bFb okFb okA hb7 far7 nb nb1 nb2 hbdb ALb
      go_wp2_with (first
        | (go_at_call 25; refine (KS.out _ _ _ _ _ _ _ _ _ OKA.out OKB.out).mono ?_; rintro e w10 ⟨rfl, hb10⟩; obtain ⟨⟨b0, b1, b2⟩, ⟨s0, s1, s2⟩, f0, f1, f2⟩ := HPb.out _ hb10)
        | fail)
      go_ret
      exact ⟨ret_yes (by simp [X2.out]), hB0.trans ((HBb.out.trans (hb10.mono HBb.out.size)).mono hB0.size)⟩))

end Go.Proofs.YtofhgaioidfdmaaGreat.Sites
