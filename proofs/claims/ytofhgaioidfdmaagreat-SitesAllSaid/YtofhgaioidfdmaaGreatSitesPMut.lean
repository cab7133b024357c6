/-
  Package sites, walked: where a delta stands, by halving; a program that is changed by one of all.
-/
import Derived.Test.YtofhgaioidfdmaaGreatSitesRefC
import Derived.Test.YtofhgaioidfdmaaGreatCatN
import Derived.Test.YtofhgaioidfdmaaGreatPathH
import Derived.Test.YtofhgaioidfdmaaGreatDeltaP
import Derived.Test.YtofhgaioidfdmaaGreatKindsP
import Derived.Deep.RegionHeld3
import Derived.Deep.DrawnRows
set_option linter.unusedVariables false
namespace Go.Proofs.YtofhgaioidfdmaaGreat.Sites
open Go.RowKit Mem _root_.Go.Proofs.YtofhgaioidfdmaaGreat.Arena _root_.Go.Proofs.YtofhgaioidfdmaaGreat.Delta _root_.Go.Proofs.YtofhgaioidfdmaaGreat.Path _root_.Go.Proofs.YtofhgaioidfdmaaGreat.Cat _root_.Go.Proofs.YtofhgaioidfdmaaGreat.Kinds
attribute [local go_sem ↓] Go.wp_at_zero Go.wp_at_succ

theorem mlet_isv (xs : List Nd) (q : List Int) (op n : Int) : mlet xs q op n = isv xs (pfind xs q) op n := by
  unfold mlet
  rcases find_cases xs q with e | ⟨a, m, x, e, -⟩
  · rw [e]
    have : isv xs (-1) op n = false := if_pos (by rcases aend_cases xs (-1) with q | ⟨k, m, q, -⟩; rw [q]; decide; omega)
    rw [this]; simp
  · rw [e, decide_eq_true (by omega), Bool.true_and]

set_option maxRecDepth 100000 in
set_option maxHeartbeats 4000000 in
theorem PMutant_any (p : Prg) (d : Dlt) (w : World) (hp : p.Ok w) (hd : d.Ok w) :
    Calls Tryz.prog 16 #[.agg #[.int .i64 p.ps, .slice p.A p.vs.length p.c, .slice p.B p.xs.length p.e], .agg #[.slice d.A d.p.length d.c, .int .i64 d.op, .int .i64 d.n]] w (MEnds p d w) := by
  obtain ⟨ps, VA, vc, vs, B, cap, xs⟩ := p
  obtain ⟨DA, dc, dp, op, n⟩ := d
  have hX := Boxes.mk' ps VA vc vs B xs cap DA dc dp op n w
  have HW := Lib.hid (w3_is w ps VA vc vs B xs cap DA dc dp op n)
  generalize w3 w ps VA vc vs B xs cap DA dc dp op n = wz at *
  have HC := Lib.hid (PCheck_any ⟨ps, VA, vc, vs, B, cap, xs⟩ wz (hp.at hX.b))
  have hlx := hp.lx
  have hld := hd.len
  have HF := Lib.hid (fun W (h : Boxes ps VA vc vs B xs cap DA dc dp op n w W) => Path.Find_any B cap xs DA dc dp W (hp.at h.b).body hlx (hd.at h.b).path hld)
  have HI := Lib.hid (fun W (h : Boxes ps VA vc vs B xs cap DA dc dp op n w W) => Cat.Is_any B cap xs (pfind xs dp) op n W (hp.at h.b).body (by have := hlx; simp only at this; omega))
  rw [← mlet_isv] at HI
  have HAp := Lib.hid (fun (h9 : pcheck ps vs xs = 0) (h0 : mlet xs dp op n = true) W (h : Boxes ps VA vc vs B xs cap DA dc dp op n w W) =>
    have h1 : mis ps vs xs dp op n = true := by unfold mis; rw [decide_eq_true h9, h0]; rfl
    (Apply_anyF ⟨ps, VA, vc, vs, B, cap, xs⟩ ⟨DA, dc, dp, op, n⟩ W (hp.at h.b) (hd.at h.b) (by have := (mis_apply h1).2.1; show xs.length ≤ _; omega)).mono fun e w' q => q.ok (mis_apply h1).1)
  have HV := Lib.hid (fun (ad : Addr) (e : VA = some ad) (hv : vs ≠ []) => show ad.block < w.heap.size from by
    obtain ⟨x, r, hx⟩ := ne_cons hv
    obtain ⟨ad', e', hb, -⟩ := hp.vars 0 x (by simp only [hx]; rfl)
    simp only at e'
    rw [e] at e'
    cases e'
    exact hb)
  have HM : Hid (merr ps vs xs dp op n = if pcheck ps vs xs ≠ 0 then pcheck ps vs xs else if mlet xs dp op n = true then 0 else 17) := Lib.hid rfl
  have HX := Lib.hid hX
  unfold MEnds
  simp only at HC HF HI HAp ⊢
  obtain ⟨⟨p0, p1, p2⟩, ⟨d0, d1, d2⟩, ⟨r0, r1, r2⟩, f0, f1, f2⟩ := hX.cells
  rw [HW.out] at p0 p1 p2 d0 d1 d2 r0 r1 r2 f0 f1 f2
  generalize anew xs dp op n = R at *
  generalize merr ps vs xs dp op n = E at *
  generalize mlet xs dp op n = b at *
  generalize pfind xs dp = k at *
  generalize pcheck ps vs xs = e9 at *
  clear hp hd hX hlx hld
  by_cases h9 : e9 = 0
  · subst h9
    have HAp := Lib.hid (HAp.out rfl)
    cases b
    · have HE := Lib.hid (show E = 17 by rw [HM.out]; rfl)
      clear HAp
      go_enter Tryz.func16, Tryz.ntmps16
      go_wp2_with (first
        | (go_at_call 19; rw [← HW.out]; refine HC.out.mono ?_; rintro e w1 ⟨rfl, hb1⟩; have hX1 := HX.out.below hb1; have hS := hX1.cells)
        | fail)
      go_region_held3 (fun w' => (w'.cell? ⟨w.heap.size, 0, none⟩ = some (.int .i64 ps) ∧ w'.cell? ⟨w.heap.size, 1, none⟩ = some (.slice VA vs.length vc) ∧ w'.cell? ⟨w.heap.size, 2, none⟩ = some (.slice B xs.length cap)) ∧ (w'.cell? ⟨w.heap.size + 1, 0, none⟩ = some (.slice DA dp.length dc) ∧ w'.cell? ⟨w.heap.size + 1, 1, none⟩ = some (.int .i64 op) ∧ w'.cell? ⟨w.heap.size + 1, 2, none⟩ = some (.int .i64 n))) (first | exact ⟨hS.1, hS.2.1⟩ | exact ⟨hS2.1, hS2.2.1⟩ | exact ⟨hS3.1, hS3.2.1⟩) (first
        | (go_at_call 20; refine (HF.out _ hX1.drew).mono ?_; rintro e w2 ⟨rfl, hb2⟩; have hX2 := hX1.drew.below hb2; have hS2 := hX2.cells)
        | (go_at_call 21; refine (HI.out _ hX2).mono ?_; rintro e w3 ⟨rfl, hb3⟩; have hX3 := hX2.below hb3; have hS3 := hX3.cells))
      obtain ⟨-, -, ⟨r0, r1, r2⟩, f0, f1, f2⟩ := hS3
      go_wp2_with fail
      refine bodyPost_ret (v := .tuple #[.agg #[.int .i64 0, .slice none 0 0, .slice none 0 0], .int .i64 17]) (by simp [results, Tryz.results16, go_sem, r0, r1, r2]) rfl ?_
      exact ⟨hX3.stored _ _ _, .inr ⟨by rw [HE.out]; decide, none, 0, none, 0, by rw [HE.out], nothing_ok _⟩⟩
    · have HE := Lib.hid (show E = 0 by rw [HM.out]; rfl)
      have HA2 := Lib.hid (HAp.out rfl)
      clear HAp
      go_enter Tryz.func16, Tryz.ntmps16
      go_wp2_with (first
        | (go_at_call 19; rw [← HW.out]; refine HC.out.mono ?_; rintro e w1 ⟨rfl, hb1⟩; have hX1 := HX.out.below hb1; have hS := hX1.cells)
        | fail)
      go_region_held3 (fun w' => (w'.cell? ⟨w.heap.size, 0, none⟩ = some (.int .i64 ps) ∧ w'.cell? ⟨w.heap.size, 1, none⟩ = some (.slice VA vs.length vc) ∧ w'.cell? ⟨w.heap.size, 2, none⟩ = some (.slice B xs.length cap)) ∧ (w'.cell? ⟨w.heap.size + 1, 0, none⟩ = some (.slice DA dp.length dc) ∧ w'.cell? ⟨w.heap.size + 1, 1, none⟩ = some (.int .i64 op) ∧ w'.cell? ⟨w.heap.size + 1, 2, none⟩ = some (.int .i64 n))) (first | exact ⟨hS.1, hS.2.1⟩ | exact ⟨hS2.1, hS2.2.1⟩ | exact ⟨hS3.1, hS3.2.1⟩) (first
        | (go_at_call 20; refine (HF.out _ hX1.drew).mono ?_; rintro e w2 ⟨rfl, hb2⟩; have hX2 := hX1.drew.below hb2; have hS2 := hX2.cells)
        | (go_at_call 21; refine (HI.out _ hX2).mono ?_; rintro e w3 ⟨rfl, hb3⟩; have hX3 := hX2.below hb3; have hS3 := hX3.cells))
      obtain ⟨⟨p0, p1, p2⟩, ⟨d0, d1, d2⟩, ⟨r0, r1, r2⟩, f0, f1, f2⟩ := hS3
      go_wp2_with (first
        | (go_at_call 35; refine (HA2.out _ hX3).mono ?_; rintro e w4 ⟨hb4, A, c, B4, ce, rfl, hok, hfar⟩; have hX4 := hX3.below hb4; obtain ⟨⟨p0, p1, p2⟩, ⟨d0, d1, d2⟩, ⟨r0, r1, r2⟩, f0, f1, f2⟩ := hX4.cells)
        | fail)
      refine bodyPost_ret (v := .tuple #[.agg #[.int .i64 ps, .slice A vs.length c, .slice B4 R.length ce], .int .i64 0]) (by simp [results, Tryz.results16, go_sem, r0, r1, r2]) rfl ?_
      refine ⟨hX4.stored _ _ _, .inl ⟨HE.out, A, c, B4, ce, rfl, ?_, fun ad e => (hfar ad e).imp_right (Nat.le_trans hX3.b.size)⟩⟩
      have hvf : vs ≠ [] → ∀ ad, A = some ad → ad.block ≠ w.heap.size + 1 + 1 := by
        intro hv ad e
        rcases hfar ad e with q | q
        · have := HV.out ad q hv
          omega
        · have := hX3.r.lt
          omega
      exact stored_ok hX4 hok.vars hvf hok.body hok.lv hok.lx hok.cv hok.ce hok.nv hok.nb
  · have HE := Lib.hid (show E = e9 by rw [HM.out, if_pos h9])
    have e0 : (e9 == 0) = false := by simpa using h9
    have H9 := Lib.hid h9
    clear h9
    go_enter Tryz.func16, Tryz.ntmps16
    go_wp2_with (first
      | (go_at_call 19; rw [← HW.out]; refine HC.out.mono ?_; rintro e w1 ⟨rfl, hb1⟩; have hX1 := HX.out.below hb1; obtain ⟨⟨p0, p1, p2⟩, ⟨d0, d1, d2⟩, ⟨r0, r1, r2⟩, f0, f1, f2⟩ := hX1.cells)
      | fail)
    refine bodyPost_ret (v := .tuple #[.agg #[.int .i64 0, .slice none 0 0, .slice none 0 0], .int .i64 e9]) (by simp [results, Tryz.results16, go_sem, r0, r1, r2]) rfl ?_
    exact ⟨hX1.stored _ _ _, .inr ⟨by rw [HE.out]; exact H9.out, none, 0, none, 0, by rw [HE.out], nothing_ok _⟩⟩

theorem half_lt {f b : Nat} (h : f < b) : f ≤ f + (b - f) / 2 ∧ f + (b - f) / 2 < b := by omega
set_option maxRecDepth 100000 in
set_option maxHeartbeats 4000000 in
theorem PFind_any (A : Option Addr) (c : Nat) (L : List Mt) (d : Dlt) (w : World) (hR : MRow w A L) (hc : L.length ≤ c) (hA : A = none → c = 0) (hl : L.length ≤ 1000000) (hd : d.Ok w) :
    Calls Tryz.prog 23 #[.slice A L.length c, .agg #[.slice d.A d.p.length d.c, .int .i64 d.op, .int .i64 d.n]] w fun e w' => Below w.heap.size w w' ∧ ∃ k, e = .returned (.int .i64 k) ∧ FindOk L (d.p, d.op, d.n) k := by
  obtain ⟨DA, dc, q, op, v⟩ := d
  simp only at *
  have hB1 : Below w.heap.size w (w.alloc (.cells #[.slice DA q.length dc, .int .i64 op, .int .i64 v] 34)) := (Below.refl _ _).alloc (Nat.le_refl _) _
  have bD := Blk.new w 34 #[.slice DA q.length dc, .int .i64 op, .int .i64 v]
  obtain ⟨w1, hw1⟩ : ∃ w1, w.alloc (.cells #[.slice DA q.length dc, .int .i64 op, .int .i64 v] 34) = w1 := ⟨_, rfl⟩
  rw [hw1] at hB1 bD
  have HW1 := Lib.hid hw1
  have HR := Lib.hid (hR.at hB1)
  have HS := Lib.hid (fun W (h : Below w1.heap.size w1 W) => (bD.below h bD.lt).three)
  have HD := Lib.hid (hd.at hB1)
  have HB1 := Lib.hid hB1
  clear hw1 hR hd hB1 bD
  go_enter Tryz.func23, Tryz.ntmps23
  go_wp2_with fail
  go_step3
  go_wp2_with fail
  go_step3
  go_wp2_with fail
  rw [HW1.out]
  go_loopw [5, 6, 7] (fun at_ f b wr => ∃ f' b' : Nat, at_ = .int .i64 (-1) ∧ f = .int .i64 f' ∧ b = .int .i64 b' ∧ f' ≤ b' ∧ b' ≤ L.length ∧ (MRise L → ∀ i m, i < f' → L[i]? = some m → mcmp m (q, op, v) < 0) ∧ (MRise L → ∀ i m, b' ≤ i → L[i]? = some m → 0 < mcmp m (q, op, v)) ∧ Below w1.heap.size w1 wr) (fun _ f b _ => (intOf b).toNat - (intOf f).toNat)
  case atStart => exact ⟨0, L.length, rfl, rfl, rfl, by omega, by omega, fun _ i m h => by omega, fun _ i m h e => by have := (List.getElem?_eq_some_iff.1 e).1; omega, Below.refl _ _⟩
  case round =>
    obtain ⟨f, b, rfl, rfl, rfl, hfb, hbl, hlo, hhi, hB⟩ := hrel
    by_cases hlt : f < b
    · obtain ⟨hm1, hm2⟩ := half_lt hlt
      have i1 : (f : Int) < (b : Int) := by omega
      have v1 : IntKind.i64.wrap ((b : Int) - (f : Int)) = ((b - f : Nat) : Int) := by rw [IntWalk.i64_in _ (by omega)]; omega
      have v2 : ((b - f : Nat) : Int).tdiv 2 = (((b - f) / 2 : Nat) : Int) := rfl
      have v4 : IntKind.i64.wrap ((f : Int) + (((b - f) / 2 : Nat) : Int)) = ((f + (b - f) / 2 : Nat) : Int) := by rw [IntWalk.i64_in _ (by omega)]; omega
      obtain ⟨m, hm⟩ : ∃ m, L[f + (b - f) / 2]? = some m := ⟨_, List.getElem?_eq_getElem (by omega)⟩
      obtain ⟨ad, P, cp, rfl, G⟩ := (HR.out.at hB).get hm
      have HC := Lib.hid (fun W (h : Below wr.heap.size wr W) => DCompare_any (dl P cp m) ⟨DA, dc, q, op, v⟩ W (G W h).1 (HD.out.at (hB.trans (h.mono hB.size))))
      have hS := And.intro (G wr (Below.refl _ _)).2 (HS.out _ hB)
      have hG := fun W (h : Below wr.heap.size wr W) => And.intro (G W h).2 (HS.out _ (hB.trans (h.mono hB.size)))
      have HG := Lib.hid hG
      have hwd : Below wr.heap.size wr wr.drew := (Below.refl _ _).drew
      have HLO := Lib.hid hlo
      have HHI := Lib.hid hhi
      have HM := Lib.hid hm
      simp only at HC
      have HX : Hid (mcmp m (q, op, v) = dcmp m.1 m.2.1 m.2.2 q op v) := Lib.hid rfl
      rw [← HX.out] at HC
      clear HX
      obtain ⟨x, hxx⟩ : ∃ x, mcmp m (q, op, v) = x := ⟨_, rfl⟩
      rw [hxx] at HC
      have HXM := Lib.hid hxx
      unfold Cem at hS
      clear hlo hhi hm G hG hxx
      have v5 : IntKind.i64.wrap ((f : Int) + ((b - f : Nat) : Int) / 2 + 1) = (f : Int) + ((b - f : Nat) : Int) / 2 + 1 := IntWalk.i64_in _ (by omega)
      have v6 : IntKind.i64.wrap ((f : Int) + ((b - f : Nat) : Int) / 2) = (f : Int) + ((b - f : Nat) : Int) / 2 := IntWalk.i64_in _ (by omega)
      have hbl' : b ≤ 1000000 := by omega
      have i5 : (0 : Int) ≤ (f : Int) + ((b - f : Nat) : Int) / 2 := by omega
      have i6 : (f : Int) + ((b - f : Nat) : Int) / 2 < (L.length : Int) := by omega
      have i7 : ((f : Int) + ((b - f : Nat) : Int) / 2).toNat = f + (b - f) / 2 := by omega
      go_wp2_with fail
      go_region_held3 (fun w' => (w'.cell? (ad.add ((f + (b - f) / 2) * 3)) = some (.slice P m.1.length cp) ∧ w'.cell? ⟨(ad.add ((f + (b - f) / 2) * 3)).block, (ad.add ((f + (b - f) / 2) * 3)).off + 1, none⟩ = some (.int .i64 m.2.1) ∧ w'.cell? ⟨(ad.add ((f + (b - f) / 2) * 3)).block, (ad.add ((f + (b - f) / 2) * 3)).off + 2, none⟩ = some (.int .i64 m.2.2)) ∧ w'.cell? ⟨w.heap.size, 0, none⟩ = some (.slice DA q.length dc) ∧ w'.cell? ⟨w.heap.size, 1, none⟩ = some (.int .i64 op) ∧ w'.cell? ⟨w.heap.size, 2, none⟩ = some (.int .i64 v)) (first | exact hS) (first
        | (go_at_call 47; refine (HC.out _ hwd).mono ?_; rintro e w3 ⟨rfl, hb3⟩; have hb3 := hwd.trans hb3; have hS := HG.out _ hb3; unfold Cem at hS))
      clear hS
      rcases Int.lt_trichotomy x 0 with hx1 | hx1 | hx1
      · have HLO2 := Lib.hid (fun (hr : MRise L) => rise_lo hr HM.out (HXM.out ▸ hx1))
        go_wp2_with fail
        go_roundw
        case rel => exact ⟨f + (b - f) / 2 + 1, b, rfl, by go_num, rfl, by omega, hbl, fun hr i m' hi h => HLO2.out hr i m' (by omega) h, HHI.out, hB.trans (hb3.mono hB.size)⟩
        case measure => simp [intOf]; omega
      · have hm0 : m = (q, op, v) := mcmp_zero.1 (HXM.out.trans hx1)
        have HM0 := Lib.hid (hm0 ▸ HM.out)
        clear hm0
        subst hx1
        go_wp2_with fail
        rw [Exit.noGoto_ret]
        go_ret
        refine ⟨HB1.out.trans ((hB.trans (hb3.mono hB.size)).mono HB1.out.size), (f : Int) + ((b - f : Nat) : Int) / 2, rfl, by omega, by omega, fun i h => ?_, fun _ h => by omega⟩
        have hi : i = f + (b - f) / 2 := by omega
        rw [hi]
        exact HM0.out
      · have q1 : ¬ x < 0 := by omega
        have HHI2 := Lib.hid (fun (hr : MRise L) => rise_hi hr HM.out (HXM.out ▸ hx1))
        go_wp2_with fail
        go_roundw
        case rel => exact ⟨f, f + (b - f) / 2, rfl, rfl, by go_num, by omega, by omega, HLO.out, HHI2.out, hB.trans (hb3.mono hB.size)⟩
        case measure => simp [intOf]; omega
    · obtain rfl : f = b := by omega
      have i1 : ¬ (f : Int) < (f : Int) := by omega
      have HN := Lib.hid (fun (hr : MRise L) => rise_out hr (hlo hr) (hhi hr))
      clear hlo hhi
      go_wp2_with fail
      go_ret
      exact ⟨HB1.out.trans (hB.mono HB1.out.size), -1, rfl, by omega, by omega, fun i h => by omega, fun hr _ => HN.out hr⟩

end Go.Proofs.YtofhgaioidfdmaaGreat.Sites
