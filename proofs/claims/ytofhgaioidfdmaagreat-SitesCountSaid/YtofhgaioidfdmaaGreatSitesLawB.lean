/-
  The laws of layer 14, walked: where a delta stands is found.
-/
import Derived.Test.YtofhgaioidfdmaaGreatSitesPkg
import Derived.Test.YtofhgaioidfdmaaGreatDeltaP
import Derived.Deep.RegionHeld3
import Derived.Deep.QuietTactic
import Derived.BigQuiet
import Derived.Deep.DrawnRows
set_option linter.unusedVariables false
namespace Go.Proofs.YtofhgaioidfdmaaGreat.Sites
open Go.RowKit Mem _root_.Go.Proofs.YtofhgaioidfdmaaGreat.Arena _root_.Go.Proofs.YtofhgaioidfdmaaGreat.Delta _root_.Go.Proofs.YtofhgaioidfdmaaGreat.Path _root_.Go.Proofs.YtofhgaioidfdmaaGreat.Cat _root_.Go.Proofs.YtofhgaioidfdmaaGreat.Kinds
attribute [local go_sem ↓] Go.wp_at_zero Go.wp_at_succ

theorem fewM_in {L : List Mt} (h : fewM L = true) : L.length ≤ 300 ∧ ∀ m ∈ L, m.1.length ≤ 60 := by
  unfold fewM at h
  rw [Bool.and_eq_true, List.all_eq_true] at h
  exact ⟨of_decide_eq_true h.1, fun m hm => of_decide_eq_true (h.2 m hm)⟩
/-- Same, on one of a row and the delta. -/
theorem same_mt {P : Option Addr} {c : Nat} {m : Mt} {d : Dlt} (W : World) (h : (dl P c m).Ok W) (h' : d.Ok W) :
    Calls Tryz.prog 24 #[.agg #[.slice P m.1.length c, .int .i64 m.2.1, .int .i64 m.2.2], .agg #[.slice d.A d.p.length d.c, .int .i64 d.op, .int .i64 d.n]] W fun e w' => e = .returned (.bool (decide (m = (d.p, d.op, d.n)))) ∧ Below W.heap.size W w' := by
  have q := DSame_any (dl P c m) d W h h'
  rw [show (dcmp (dl P c m).p (dl P c m).op (dl P c m).n d.p d.op d.n == 0) = decide (m = (d.p, d.op, d.n)) from by
    rw [Bool.eq_iff_iff, beq_iff_eq, decide_eq_true_eq]
    exact mcmp_zero (a := m) (b := (d.p, d.op, d.n))] at q
  exact q

set_option maxRecDepth 100000 in
set_option maxHeartbeats 4000000 in
theorem sitesFind_of (C : SPkg) (K : Works) (A : Option Addr) (c : Nat) (L : List Mt) (hc : L.length ≤ c) (hA : A = none → c = 0) (d : Dlt) (w : World) (hL : MIn w A L) (hd : d.In w) :
    Calls Tryz.prog 7 #[.slice A L.length c, .agg #[.slice d.A d.p.length d.c, .int .i64 d.op, .int .i64 d.n]] w fun e w' => e = .returned (.bool true) ∧ Below w.heap.size w w' := by
  have hB0 : Below w.heap.size w (w.alloc (.cells #[.slice d.A d.p.length d.c, .int .i64 d.op, .int .i64 d.n] 34)) := (Below.refl _ _).alloc (Nat.le_refl _) _
  have bD := Blk.new w 34 #[.slice d.A d.p.length d.c, .int .i64 d.op, .int .i64 d.n]
  have hi := hL.at hB0
  have hj := hd.at hB0
  obtain ⟨wQ, hwQ⟩ : ∃ wQ, w.alloc (.cells #[.slice d.A d.p.length d.c, .int .i64 d.op, .int .i64 d.n] 34) = wQ := ⟨_, rfl⟩
  rw [hwQ] at hB0 bD hi hj
  have hgd := bD.lt
  have HBX := Lib.hid (fun W (h : Below wQ.heap.size wQ W) => (bD.below h hgd).three)
  have HWQ := Lib.hid hwQ
  have HW := Lib.hid K
  have HFL := Lib.hid (fun W (h : Below wQ.heap.size wQ W) => few_any A c L W (hi.at h))
  have HFW := Lib.hid (fun W (h : Below wQ.heap.size wQ W) => few_one (d := d) (Blk.new W 34 #[.slice d.A d.p.length d.c, .int .i64 d.op, .int .i64 d.n]) (hj.at (h.alloc h.size _)))
  clear hL hd bD hwQ
  cases hf : fewM L with
  | false =>
    rw [hf] at HFL
    go_enter Tryz.func7, Tryz.ntmps7
    go_wp2_with (first
      | (go_at_call 10; rw [HWQ.out]; refine (HW.out _).mono ?_; rintro e w2 ⟨rfl, hb2⟩; obtain ⟨d0, d1, d2⟩ := HBX.out _ hb2)
      | (go_at_call 15; refine (HFL.out _ hb2).mono ?_; rintro e w3 ⟨rfl, rfl⟩)
      | fail)
    go_ret
    exact ⟨rfl, hB0.trans (hb2.mono hB0.size)⟩
  | true =>
  rw [hf] at HFL
  obtain ⟨hl3, hl6⟩ := fewM_in hf
  have HM := Lib.hid (fun W (h : Below wQ.heap.size wQ W) => (hi.at h).row hl6)
  clear hi hl6 hf
  by_cases h60 : d.p.length ≤ 60
  case neg =>
    rw [decide_eq_false h60] at HFW
    go_enter Tryz.func7, Tryz.ntmps7
    go_wp2_with (first
      | (go_at_call 10; rw [HWQ.out]; refine (HW.out _).mono ?_; rintro e w2 ⟨rfl, hb2⟩; obtain ⟨d0, d1, d2⟩ := HBX.out _ hb2)
      | (go_at_call 15; first
        | ((with_reducible refine (HFL.out _ hb2).mono ?_); rintro e w3 ⟨rfl, rfl⟩)
        | ((with_reducible refine (HFW.out _ hb2).mono ?_); rintro e w4 ⟨rfl, rfl⟩; have hb4 := hb2.alloc hb2.size (.cells #[.slice d.A d.p.length d.c, .int .i64 d.op, .int .i64 d.n] 34)))
      | fail)
    go_ret
    exact ⟨rfl, hB0.trans (hb4.mono hB0.size)⟩
  rw [decide_eq_true h60] at HFW
  have HDK := Lib.hid (fun W (h : Below wQ.heap.size wQ W) => (hj.at h).ok (by omega))
  have HFD := Lib.hid (fun W (h : Below wQ.heap.size wQ W) => C.find A c L d W (HM.out W h) hc hA (by omega) (HDK.out W h))
  have HRI := Lib.hid (fun W (h : Below wQ.heap.size wQ W) => Sites.ref_Rises_any A c L W (HM.out W h) (by omega))
  have HSM := Lib.hid (fun (P : Option Addr) (cp : Nat) (m : Mt) W h (hb : Below wQ.heap.size wQ W) => same_mt (P := P) (c := cp) (m := m) (d := d) W h (HDK.out W hb))
  clear hj h60
  go_enter Tryz.func7, Tryz.ntmps7
  go_wp2_with (first
    | (go_at_call 10; rw [HWQ.out]; refine (HW.out _).mono ?_; rintro e w2 ⟨rfl, hb2⟩; obtain ⟨d0, d1, d2⟩ := HBX.out _ hb2)
    | (go_at_call 15; first
      | ((with_reducible refine (HFL.out _ hb2).mono ?_); rintro e w3 ⟨rfl, rfl⟩)
      | ((with_reducible refine (HFW.out _ hb2).mono ?_); rintro e w4 ⟨rfl, rfl⟩; have hb4 := hb2.alloc hb2.size (.cells #[.slice d.A d.p.length d.c, .int .i64 d.op, .int .i64 d.n] 34); obtain ⟨d0, d1, d2⟩ := HBX.out _ hb4))
    | fail)
  refine (HFD.out _ hb4).mono ?_
  rintro e w5 ⟨hb, k, rfl, hk⟩
  have hb5 := hb4.trans (hb.mono hb4.size)
  obtain ⟨hk1, hk2, hk3, hk4⟩ := hk
  have hbd : Below wQ.heap.size wQ w5.drew := hb5.drew
  by_cases hneg : k = -1
  · have HK4 := Lib.hid (fun h => hk4 h hneg)
    have i1 : ¬ (L.length : Int) ≤ k := by omega
    have i2' : ¬ k < -1 := by omega
    have i3' : ¬ 0 ≤ k := by omega
    have y1 : decide ((L.length : Int) ≤ k) = false := decide_eq_false i1
    have y2 : decide (k < -1) = false := decide_eq_false i2'
    have y3 : decide (0 ≤ k) = false := decide_eq_false i3'
    clear hneg
    obtain ⟨d0, d1, d2⟩ := HBX.out _ hb5
    have hS := And.intro d0 (And.intro d1 d2)
    clear hk1 hk2 hk3 hk4 hb hb4 hb2
    go_wp2_with fail
    go_quiet (fail)
    go_wp2_with fail
    refine (HRI.out _ (belowN hb5 _)).mono ?_
    rintro e w6 ⟨⟨b, rfl, hbr⟩, hb⟩
    have hb6 := (belowN hb5 _).trans (hb.mono hb5.size)
    cases b
    · go_wp2_with fail
      go_ret
      exact ⟨rfl, hB0.trans (hb6.mono hB0.size)⟩
    · have HNO := Lib.hid (HK4.out (hbr.1 rfl))
      clear hbr hb hS d0 d1 d2
      go_wp2_with fail
      go_loopw [8] (fun i wr => ∃ j : Nat, j ≤ L.length ∧ i = .int .i64 j ∧ Below wQ.heap.size wQ wr) (fun i _ => L.length - (intOf i).toNat)
      case atStart => exact ⟨0, by omega, rfl, hb6⟩
      case round =>
        obtain ⟨j, hj, rfl, hb7⟩ := hrel
        by_cases hlt : j < L.length
        · have i2 : (j : Int) < (L.length : Int) := by omega
          have i3 : (0 : Int) ≤ (j : Int) := by omega
          obtain ⟨m, hm⟩ : ∃ m, L[j]? = some m := ⟨_, List.getElem?_eq_getElem hlt⟩
          have hne : decide (m = (d.p, d.op, d.n)) = false := decide_eq_false (fun e => HNO.out (by rw [← e]; exact List.mem_of_getElem? hm))
          obtain ⟨ad, P, cp, rfl, G⟩ := (HM.out _ hb7).get hm
          have HG := Lib.hid (fun W (h : Below wr.heap.size wr W) => And.intro (G W h).2 (HBX.out _ (hb7.trans (h.mono hb7.size))))
          have HGO := Lib.hid (fun W (h : Below wr.heap.size wr W) => (G W h).1)
          have HS2 := Lib.hid (fun W h hb => HSM.out P cp m W h hb)
          rw [hne] at HS2
          obtain ⟨mp, mo, mn⟩ := m
          simp only at HS2
          have hS := HG.out _ (Below.refl _ _)
          unfold Cem at hS
          have hbw : Below wr.heap.size wr wr.drew := (Below.refl _ _).drew
          clear hm hne G
          go_wp2_with fail
          go_region_held3 (fun w' => (w'.cell? (ad.add (j * 3)) = some (.slice P mp.length cp) ∧ w'.cell? ⟨(ad.add (j * 3)).block, (ad.add (j * 3)).off + 1, none⟩ = some (.int .i64 mo) ∧ w'.cell? ⟨(ad.add (j * 3)).block, (ad.add (j * 3)).off + 2, none⟩ = some (.int .i64 mn)) ∧ w'.cell? ⟨w.heap.size, 0, none⟩ = some (.slice d.A d.p.length d.c) ∧ w'.cell? ⟨w.heap.size, 1, none⟩ = some (.int .i64 d.op) ∧ w'.cell? ⟨w.heap.size, 2, none⟩ = some (.int .i64 d.n)) (exact hS) (first
            | (go_at_call 24; (with_reducible refine (HS2.out _ (HGO.out _ hbw) hb7.drew).mono ?_); rintro e w8 ⟨rfl, hb8⟩; have hb9 := hb7.drew.trans (hb8.mono hb7.size); have hS := HG.out _ (hbw.trans hb8); unfold Cem at hS)
            | fail)
          go_wp2_with fail
          go_roundw
          case rel => exact ⟨j + 1, by omega, by go_num, hb9⟩
          case measure => simp [intOf]; omega
        · have i2 : ¬ (j : Int) < (L.length : Int) := by omega
          go_wp2_with fail
          go_ret
          exact ⟨rfl, hB0.trans (hb7.mono hB0.size)⟩
  · obtain ⟨i, rfl⟩ := Int.eq_ofNat_of_zero_le (show 0 ≤ k by omega)
    have i1 : ¬ (L.length : Int) ≤ (i : Int) := by omega
    have i2 : ¬ (i : Int) < -1 := by omega
    have i3 : (0 : Int) ≤ (i : Int) := by omega
    have i4 : (i : Int) < (L.length : Int) := by omega
    have x1 : ¬ L.length ≤ i := by omega
    have y1 : decide (L.length ≤ i) = false := decide_eq_false x1
    have x4 : i < L.length := by omega
    have y2 : decide ((i : Int) < -1) = false := decide_eq_false i2
    have y3 : decide ((0 : Int) ≤ (i : Int)) = true := decide_eq_true i3
    have hm := hk3 i rfl
    obtain ⟨ad, P, cp, rfl, G⟩ := (HM.out _ hb5).get hm
    have HG := Lib.hid (fun W (h : Below w5.heap.size w5 W) => And.intro (G W h).2 (HBX.out _ (hb5.trans (h.mono hb5.size))))
    have HGO := Lib.hid (fun W (h : Below w5.heap.size w5 W) => (G W h).1)
    have HS2 := Lib.hid (fun W h hb => HSM.out P cp (d.p, d.op, d.n) W h hb)
    rw [decide_eq_true rfl] at HS2
    simp only at HS2
    have hS := HG.out _ (Below.refl _ _)
    unfold Cem at hS
    simp only at hS
    have hbw : Below w5.heap.size w5 w5.drew := (Below.refl _ _).drew
    clear hk1 hk2 hk3 hk4 hb hb4 hb2 hm G
    go_wp2_with fail
    go_region_held3 (fun w' => (w'.cell? (ad.add (i * 3)) = some (.slice P d.p.length cp) ∧ w'.cell? ⟨(ad.add (i * 3)).block, (ad.add (i * 3)).off + 1, none⟩ = some (.int .i64 d.op) ∧ w'.cell? ⟨(ad.add (i * 3)).block, (ad.add (i * 3)).off + 2, none⟩ = some (.int .i64 d.n)) ∧ w'.cell? ⟨w.heap.size, 0, none⟩ = some (.slice d.A d.p.length d.c) ∧ w'.cell? ⟨w.heap.size, 1, none⟩ = some (.int .i64 d.op) ∧ w'.cell? ⟨w.heap.size, 2, none⟩ = some (.int .i64 d.n)) (exact hS) (first
      | (go_at_call 24; (with_reducible refine (HS2.out _ (HGO.out _ hbw) hbd).mono ?_); rintro e w8 ⟨rfl, hb8⟩; have hb9 := hbd.trans (hb8.mono hbd.size); have hS := HG.out _ (hbw.trans hb8); unfold Cem at hS; simp only at hS)
      | fail)
    go_wp2_with fail
    refine (HRI.out _ hb9).mono ?_
    rintro e w6 ⟨⟨b, rfl, -⟩, hb⟩
    have hb6 := hb9.trans (hb.mono hb9.size)
    cases b
    · go_wp2_with fail
      go_ret
      exact ⟨rfl, hB0.trans (hb6.mono hB0.size)⟩
    · go_wp2_with fail
      go_ret
      exact ⟨rfl, hB0.trans (hb6.mono hB0.size)⟩

end Go.Proofs.YtofhgaioidfdmaaGreat.Sites
