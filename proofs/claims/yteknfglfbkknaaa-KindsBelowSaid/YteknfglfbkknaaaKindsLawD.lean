/-
  The laws of layer 9, walked on what the package's functions come to: what a typed program has below a node is typed, too.
-/
import Derived.Test.YteknfglfbkknaaaKindsLawA
import Derived.Test.YteknfglfbkknaaaKindsMath2
namespace Go.Proofs.Yteknfglfbkknaaa.Kinds
open Go.RowKit Mem _root_.Go.Proofs.Yteknfglfbkknaaa.Arena
set_option linter.unusedVariables false
attribute [local go_sem ↓] Go.wp_at_zero Go.wp_at_succ

set_option maxRecDepth 100000 in
set_option maxHeartbeats 4000000 in
theorem kindsBelow_of (C : Pkg) (p : Prg) (a : Int) (wf : (Lit.int .i64 a).wf = true) (w : World) (hp : p.In w) :
    Calls Try.prog 5 #[.agg #[.int .i64 p.ps, .slice p.A p.vs.length p.c, .slice p.B p.xs.length p.e], .int .i64 a] w fun e w' => e = .returned (.bool true) ∧ Below w.heap.size w w' := by
  have hB0 : Below w.heap.size w (w.alloc (.cells #[.int .i64 p.ps, .slice p.A p.vs.length p.c, .slice p.B p.xs.length p.e] 25)) := (Below.refl _ _).alloc (Nat.le_refl _) _
  have bX := Blk.new w 25 #[.int .i64 p.ps, .slice p.A p.vs.length p.c, .slice p.B p.xs.length p.e]
  have HP := Lib.hid (hp.at hB0)
  have hgl := bX.lt
  have HBX := Lib.hid (fun W (h : Below (w.alloc (.cells #[.int .i64 p.ps, .slice p.A p.vs.length p.c, .slice p.B p.xs.length p.e] 25)).heap.size (w.alloc (.cells #[.int .i64 p.ps, .slice p.A p.vs.length p.c, .slice p.B p.xs.length p.e] 25)) W) => (bX.below h hgl).three)
  have HW := Lib.hid (fun W => works_any C W)
  have HF := Lib.hid (fun W => show Calls Try.prog 10 #[.agg #[.int .i64 p.ps, .slice p.A p.vs.length p.c, .slice p.B p.xs.length p.e]] W (fun e w' => e = .returned (.bool (fewB p)) ∧ Below W.heap.size W w') from ref_Few_any p W)
  have HCK := Lib.hid (fun W (h : p.Ok W) => C.check p W h)
  clear hp bX
  cases hf : fewB p with
  | false =>
    rw [hf] at HF
    go_enter Try.func5, Try.ntmps5
    go_wp2_with (first
      | (go_at_call 9; refine (HW.out _).mono ?_; rintro e w2 ⟨rfl, hb2⟩; obtain ⟨b0, b1, b2⟩ := HBX.out _ hb2)
      | (go_at_call 10; refine (HF.out _).mono ?_; rintro e w3 ⟨rfl, hb⟩; have hb3 := hb2.trans (hb.mono hb2.size); obtain ⟨b0, b1, b2⟩ := HBX.out _ hb3))
    go_ret
    exact ⟨rfl, hB0.trans (hb3.mono hB0.size)⟩
  | true =>
    rw [hf] at HF
    obtain ⟨q1, q2⟩ := few_ok hf
    by_cases hc : pcheck p.ps p.vs p.xs = 0
    rotate_left
    · obtain ⟨c, hcc⟩ : ∃ c, pcheck p.ps p.vs p.xs = c := ⟨_, rfl⟩
      rw [hcc] at HCK hc
      have e1 : (c == 0) = false := by simpa using hc
      have e2 : (c != 0) = true := by simpa using hc
      clear hcc hc
      go_enter Try.func5, Try.ntmps5
      go_wp2_with (first
        | (go_at_call 9; refine (HW.out _).mono ?_; rintro e w2 ⟨rfl, hb2⟩; obtain ⟨b0, b1, b2⟩ := HBX.out _ hb2)
        | (go_at_call 10; refine (HF.out _).mono ?_; rintro e w3 ⟨rfl, hb⟩; have hb3 := hb2.trans (hb.mono hb2.size); obtain ⟨b0, b1, b2⟩ := HBX.out _ hb3)
        | (go_at_call 12; have hP3 := (HP.out.at hb3).ok q1 q2; refine (HCK.out _ hP3).mono ?_; rintro e w4 ⟨rfl, hb⟩; have hP4 := hP3.at hb; have hb4 := hb3.trans (hb.mono hb3.size); obtain ⟨b0, b1, b2⟩ := HBX.out _ hb4))
      go_ret
      exact ⟨rfl, hB0.trans (hb4.mono hB0.size)⟩
    rw [hc] at HCK
    by_cases h0 : a < 0
    · clear hc
      go_enter Try.func5, Try.ntmps5
      go_wp2_with (first
        | (go_at_call 9; refine (HW.out _).mono ?_; rintro e w2 ⟨rfl, hb2⟩; obtain ⟨b0, b1, b2⟩ := HBX.out _ hb2)
        | (go_at_call 10; refine (HF.out _).mono ?_; rintro e w3 ⟨rfl, hb⟩; have hb3 := hb2.trans (hb.mono hb2.size); obtain ⟨b0, b1, b2⟩ := HBX.out _ hb3)
        | (go_at_call 12; have hP3 := (HP.out.at hb3).ok q1 q2; refine (HCK.out _ hP3).mono ?_; rintro e w4 ⟨rfl, hb⟩; have hP4 := hP3.at hb; have hb4 := hb3.trans (hb.mono hb3.size); obtain ⟨b0, b1, b2⟩ := HBX.out _ hb4))
      go_ret
      exact ⟨rfl, hB0.trans (hb4.mono hB0.size)⟩
    obtain ⟨k, rfl⟩ := Int.eq_ofNat_of_zero_le (show 0 ≤ a by omega)
    by_cases h1 : p.xs.length ≤ k
    · have i1 : (p.xs.length : Int) ≤ (k : Int) := by omega
      clear hc
      go_enter Try.func5, Try.ntmps5
      go_wp2_with (first
        | (go_at_call 9; refine (HW.out _).mono ?_; rintro e w2 ⟨rfl, hb2⟩; obtain ⟨b0, b1, b2⟩ := HBX.out _ hb2)
        | (go_at_call 10; refine (HF.out _).mono ?_; rintro e w3 ⟨rfl, hb⟩; have hb3 := hb2.trans (hb.mono hb2.size); obtain ⟨b0, b1, b2⟩ := HBX.out _ hb3)
        | (go_at_call 12; have hP3 := (HP.out.at hb3).ok q1 q2; refine (HCK.out _ hP3).mono ?_; rintro e w4 ⟨rfl, hb⟩; have hP4 := hP3.at hb; have hb4 := hb3.trans (hb.mono hb3.size); obtain ⟨b0, b1, b2⟩ := HBX.out _ hb4))
      go_ret
      exact ⟨rfl, hB0.trans (hb4.mono hB0.size)⟩
    have i1 : ¬ (p.xs.length : Int) ≤ (k : Int) := by omega
    obtain ⟨n, hs⟩ := pcheck_at hc (show k < p.xs.length by omega)
    obtain ⟨k1, k2, k3, k4⟩ := pcheck_below hc hs
    have HO := Lib.hid (fun W (h : p.Ok W) => C.of p k W h)
    have HOQ := Lib.hid (fun q W (h : p.Ok W) => C.of p q W h)
    have HKI := Lib.hid (fun W (h : p.Ok W) => Kids_any p.B p.e p.xs (k : Int) W h.body q2)
    have HPA := Lib.hid (fun W (h : p.Ok W) => Part_any p.B p.e p.xs (k : Int) W h.body h.nb h.ce q2)
    have hpl : (apart p.xs (k : Int)).length ≤ 1000000 := by rw [part_len hs]; have := scan_le _ _ _ hs; rw [List.length_drop] at this; omega
    have HN := Lib.hid (fun A3 c3 W (h : p.Ok W) (h1 : (apart p.xs (k : Int)).length ≤ c3) (h2 : A3 = none → c3 = 0) (h3 : Nodes W W.heap.size A3 (apart p.xs (k : Int))) =>
      show Calls Try.prog 19 #[.agg #[.int .i64 p.ps, .slice p.A p.vs.length p.c, .slice A3 (apart p.xs (k : Int)).length c3], .int .i64 0] W (fun e w' => e = .returned (.int .i64 (okind p.vs p.xs (k : Int))) ∧ Below W.heap.size W w') from by
        have q := C.of ⟨p.ps, p.A, p.c, p.vs, A3, c3, apart p.xs (k : Int)⟩ 0 W ⟨h.vars, h3, h.lv, hpl, h.cv, h1, h.nv, h2⟩
        rw [show okind p.vs (apart p.xs (k : Int)) 0 = okind p.vs p.xs (k : Int) from k3] at q
        exact q)
    have hkl : (akids p.xs (k : Int)).length ≤ 1000000 := by
      obtain ⟨x, _, hx0, hl, _⟩ := okind_kids (vs := p.vs) hs
      have := (ar_le x).2
      omega
    have HK4 := Lib.hid k4
    generalize okind p.vs p.xs (k : Int) = kk at *
    generalize apart p.xs (k : Int) = PP at *
    generalize akids p.xs (k : Int) = KK at *
    have kk1 : ¬ kk < 0 := by omega
    clear hc hs k3 k4 h0 hpl
    go_enter Try.func5, Try.ntmps5
    go_wp2_with (first
      | (go_at_call 9; refine (HW.out _).mono ?_; rintro e w2 ⟨rfl, hb2⟩; obtain ⟨b0, b1, b2⟩ := HBX.out _ hb2)
      | (go_at_call 10; refine (HF.out _).mono ?_; rintro e w3 ⟨rfl, hb⟩; have hb3 := hb2.trans (hb.mono hb2.size); obtain ⟨b0, b1, b2⟩ := HBX.out _ hb3)
      | (go_at_call 12; have hP3 := (HP.out.at hb3).ok q1 q2; refine (HCK.out _ hP3).mono ?_; rintro e w4 ⟨rfl, hb⟩; have hP4 := hP3.at hb; have hb4 := hb3.trans (hb.mono hb3.size); obtain ⟨b0, b1, b2⟩ := HBX.out _ hb4)
      | (go_at_call 19; refine (HO.out _ hP4).mono ?_; rintro e w5 ⟨rfl, hb⟩; have hP5 := hP4.at hb; have hb5 := hb4.trans (hb.mono hb4.size); obtain ⟨b0, b1, b2⟩ := HBX.out _ hb5)
      | (go_at_call 21; refine (HKI.out _ hP5).mono ?_; rintro e w6 ⟨hb, A3, c3, rfl, hR, -⟩; have hP6 := hP5.at hb; have hb6 := hb5.trans (hb.mono hb5.size); obtain ⟨b0, b1, b2⟩ := HBX.out _ hb6))
    go_loopw [9] (fun i wr => ∃ j : Nat, j ≤ KK.length ∧ i = .int .i64 j ∧ IRow wr wr.heap.size A3 KK ∧ p.Ok wr ∧ Below (w.alloc (.cells #[.int .i64 p.ps, .slice p.A p.vs.length p.c, .slice p.B p.xs.length p.e] 25)).heap.size (w.alloc (.cells #[.int .i64 p.ps, .slice p.A p.vs.length p.c, .slice p.B p.xs.length p.e] 25)) wr) (fun i _ => KK.length - (intOf i).toNat)
    case atStart => exact ⟨0, by omega, rfl, hR, hP6, hb6⟩
    case round =>
      obtain ⟨j, hj, rfl, hR, hPr, hbr⟩ := hrel
      obtain ⟨b0, b1, b2⟩ := HBX.out _ hbr
      by_cases hlt : j < KK.length
      · obtain ⟨q, hq⟩ : ∃ q, KK[j]? = some q := ⟨_, List.getElem?_eq_getElem hlt⟩
        obtain ⟨ad, hA3, hbk, g0⟩ := hR j q hq
        subst hA3
        have hg := HK4.out q (List.mem_of_getElem? hq)
        have HQ := Lib.hid (HOQ.out q)
        have HRR := Lib.hid (fun W (h : Below wr.heap.size wr W) => hR.at h)
        have HG := Lib.hid (fun W (h : Below wr.heap.size wr W) => show W.cell? (ad.add j) = some (.int .i64 q) from by
          obtain ⟨ad', e', -, g'⟩ := (hR.at h) j q hq
          cases e'
          exact g')
        generalize okind p.vs p.xs q = z at *
        have z1 : ¬ z < 0 := by omega
        have j1 : (j : Int) < (KK.length : Int) := by omega
        have j2 : (0 : Int) ≤ (j : Int) := by omega
        clear hq hg
        go_wp2_with fail
        have hC := And.intro b0 (And.intro b1 (And.intro b2 g0))
        go_region_held3 (fun w' => w'.cell? ⟨w.heap.size, 0, none⟩ = some (.int .i64 p.ps) ∧ w'.cell? ⟨w.heap.size, 1, none⟩ = some (.slice p.A p.vs.length p.c) ∧ w'.cell? ⟨w.heap.size, 2, none⟩ = some (.slice p.B p.xs.length p.e) ∧ w'.cell? (ad.add j) = some (.int .i64 q)) (exact hC) (first
          | (go_at_call 19; refine (HQ.out _ (hPr.drew)).mono ?_; rintro e w7 ⟨rfl, hb⟩; have hP7 := (hPr.drew).at hb; have hb7 := (hbr.drew).trans (hb.mono hbr.size); have hb8 : Below wr.heap.size wr w7 := ((Below.refl wr.heap.size wr).drew).trans hb; have hR7 := HRR.out _ hb8; obtain ⟨b0, b1, b2⟩ := HBX.out _ hb7; have hC := And.intro b0 (And.intro b1 (And.intro b2 (HG.out _ hb8))))
          | fail)
        all_goals go_wp2_with fail
        all_goals go_roundw
        all_goals first
          | exact ⟨j + 1, by omega, by go_num, hR7, hP7, hb7⟩
          | (simp [intOf]; omega)
      · have hj9 : j = KK.length := by omega
        subst hj9
        have j1 : ¬ (KK.length : Int) < (KK.length : Int) := by omega
        go_wp2_with fail
        have hC := And.intro b0 (And.intro b1 b2)
        go_region_held3 (fun w' => w'.cell? ⟨w.heap.size, 0, none⟩ = some (.int .i64 p.ps) ∧ w'.cell? ⟨w.heap.size, 1, none⟩ = some (.slice p.A p.vs.length p.c) ∧ w'.cell? ⟨w.heap.size, 2, none⟩ = some (.slice p.B p.xs.length p.e)) (exact hC) (first
          | (go_at_call 22; refine (HPA.out _ (hPr.drew)).mono ?_; rintro e w7 ⟨hb, A4, c4, rfl, hc4, hA4, hN4⟩; have hP7 := (hPr.drew).at hb; have hb7 := (hbr.drew).trans (hb.mono hbr.size); have hC := HBX.out _ hb7)
          | (go_at_call 19; refine (HN.out _ _ _ hP7 hc4 hA4 hN4).mono ?_; rintro e w8 ⟨rfl, hb⟩; have hb8 := hb7.trans (hb.mono hb7.size); have hC := HBX.out _ hb8)
          | fail)
        all_goals go_wp2_with fail
        all_goals go_ret
        all_goals exact ⟨ret_true (by simp), hB0.trans (hb8.mono hB0.size)⟩

end Go.Proofs.Yteknfglfbkknaaa.Kinds
