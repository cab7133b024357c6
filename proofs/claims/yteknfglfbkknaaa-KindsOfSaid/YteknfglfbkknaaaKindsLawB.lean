/-
  The laws of layer 9, walked on what the package's functions come to: a node's kind hangs on variables and on what is below it alone.
-/
import Derived.Test.YteknfglfbkknaaaKindsLawA
namespace Go.Proofs.Yteknfglfbkknaaa.Kinds
open Go.RowKit Mem _root_.Go.Proofs.Yteknfglfbkknaaa.Arena
set_option linter.unusedVariables false
attribute [local go_sem ↓] Go.wp_at_zero Go.wp_at_succ

set_option maxRecDepth 100000 in
set_option maxHeartbeats 2000000 in
theorem kindsPart_of (C : Pkg) (p : Prg) (a : Int) (wf : (Lit.int .i64 a).wf = true) (w : World) (hp : p.In w) :
    Calls Try.prog 8 #[.agg #[.int .i64 p.ps, .slice p.A p.vs.length p.c, .slice p.B p.xs.length p.e], .int .i64 a] w fun e w' => e = .returned (.bool true) ∧ Below w.heap.size w w' := by
  have hB0 : Below w.heap.size w (w.alloc (.cells #[.int .i64 p.ps, .slice p.A p.vs.length p.c, .slice p.B p.xs.length p.e] 25)) := (Below.refl _ _).alloc (Nat.le_refl _) _
  have bX := Blk.new w 25 #[.int .i64 p.ps, .slice p.A p.vs.length p.c, .slice p.B p.xs.length p.e]
  have HP := Lib.hid (hp.at hB0)
  have hgl := bX.lt
  have HBX := Lib.hid (fun W (h : Below (w.alloc (.cells #[.int .i64 p.ps, .slice p.A p.vs.length p.c, .slice p.B p.xs.length p.e] 25)).heap.size (w.alloc (.cells #[.int .i64 p.ps, .slice p.A p.vs.length p.c, .slice p.B p.xs.length p.e] 25)) W) => (bX.below h hgl).three)
  have HW := Lib.hid (fun W => works_any C W)
  have HF := Lib.hid (fun W => show Calls Try.prog 10 #[.agg #[.int .i64 p.ps, .slice p.A p.vs.length p.c, .slice p.B p.xs.length p.e]] W (fun e w' => e = .returned (.bool (fewB p)) ∧ Below W.heap.size W w') from ref_Few_any p W)
  clear hp bX
  cases hf : fewB p with
  | false =>
    rw [hf] at HF
    go_enter Try.func8, Try.ntmps8
    go_wp2_with (first
      | (go_at_call 9; refine (HW.out _).mono ?_; rintro e w2 ⟨rfl, hb2⟩; obtain ⟨b0, b1, b2⟩ := HBX.out _ hb2)
      | (go_at_call 10; refine (HF.out _).mono ?_; rintro e w3 ⟨rfl, hb⟩; have hb3 := hb2.trans (hb.mono hb2.size); obtain ⟨b0, b1, b2⟩ := HBX.out _ hb3))
    go_ret
    exact ⟨rfl, hB0.trans (hb3.mono hB0.size)⟩
  | true =>
    rw [hf] at HF
    obtain ⟨q1, q2⟩ := few_ok hf
    have HO := Lib.hid (fun W (h : p.Ok W) => C.of p a W h)
    have HE := Lib.hid (fun W (h : p.Ok W) => End_any p.B p.e p.xs a W h.body q2)
    rcases aend_cases p.xs a with he | ⟨k, n, rfl, hs, he, hn1, hn2⟩
    · rw [okind_bad (by omega)] at HO
      rw [he] at HE
      clear he
      go_enter Try.func8, Try.ntmps8
      go_wp2_with (first
        | (go_at_call 9; refine (HW.out _).mono ?_; rintro e w2 ⟨rfl, hb2⟩; obtain ⟨b0, b1, b2⟩ := HBX.out _ hb2)
        | (go_at_call 10; refine (HF.out _).mono ?_; rintro e w3 ⟨rfl, hb⟩; have hb3 := hb2.trans (hb.mono hb2.size); obtain ⟨b0, b1, b2⟩ := HBX.out _ hb3)
        | (go_at_call 23; have hP3 := (HP.out.at hb3).ok q1 q2; refine (HE.out _ hP3).mono ?_; rintro e w4 ⟨rfl, hb⟩; have hP4 := hP3.at hb; have hb4 := hb3.trans (hb.mono hb3.size); obtain ⟨b0, b1, b2⟩ := HBX.out _ hb4)
        | (go_at_call 19; refine (HO.out _ hP4).mono ?_; rintro e w5 ⟨rfl, hb⟩; have hb5 := hb4.trans (hb.mono hb4.size)))
      go_ret
      exact ⟨rfl, hB0.trans (hb5.mono hB0.size)⟩
    · rw [he] at HE
      have i1 : ¬ (k : Int) + (n : Int) < 0 := by omega
      have HQ := Lib.hid (fun W (h : p.Ok W) => Part_any p.B p.e p.xs (k : Int) W h.body h.nb h.ce q2)
      have hpl : (apart p.xs (k : Int)).length ≤ 1000000 := by rw [part_len hs]; omega
      have HN := Lib.hid (fun A3 c3 W (h : p.Ok W) (h1 : (apart p.xs (k : Int)).length ≤ c3) (h2 : A3 = none → c3 = 0) (h3 : Nodes W W.heap.size A3 (apart p.xs (k : Int))) =>
        show Calls Try.prog 19 #[.agg #[.int .i64 0, .slice p.A p.vs.length p.c, .slice A3 (apart p.xs (k : Int)).length c3], .int .i64 0] W (fun e w' => e = .returned (.int .i64 (okind p.vs p.xs (k : Int))) ∧ Below W.heap.size W w') from by
          have q := C.of ⟨0, p.A, p.c, p.vs, A3, c3, apart p.xs (k : Int)⟩ 0 W ⟨h.vars, h3, h.lv, hpl, h.cv, h1, h.nv, h2⟩
          rw [show okind p.vs (apart p.xs (k : Int)) 0 = okind p.vs p.xs (k : Int) from okind_part hs] at q
          exact q)
      generalize okind p.vs p.xs (k : Int) = kk at *
      generalize apart p.xs (k : Int) = PP at *
      clear he hs
      go_enter Try.func8, Try.ntmps8
      go_wp2_with (first
        | (go_at_call 9; refine (HW.out _).mono ?_; rintro e w2 ⟨rfl, hb2⟩; obtain ⟨b0, b1, b2⟩ := HBX.out _ hb2)
        | (go_at_call 10; refine (HF.out _).mono ?_; rintro e w3 ⟨rfl, hb⟩; have hb3 := hb2.trans (hb.mono hb2.size); obtain ⟨b0, b1, b2⟩ := HBX.out _ hb3)
        | (go_at_call 23; have hP3 := (HP.out.at hb3).ok q1 q2; refine (HE.out _ hP3).mono ?_; rintro e w4 ⟨rfl, hb⟩; have hP4 := hP3.at hb; have hb4 := hb3.trans (hb.mono hb3.size); have hC := HBX.out _ hb4))
      go_region_held3 (fun w' => w'.cell? ⟨w.heap.size, 0, none⟩ = some (.int .i64 p.ps) ∧ w'.cell? ⟨w.heap.size, 1, none⟩ = some (.slice p.A p.vs.length p.c) ∧ w'.cell? ⟨w.heap.size, 2, none⟩ = some (.slice p.B p.xs.length p.e)) (exact hC) (first
        | (go_at_call 19; first
            | ((with_reducible refine (HN.out _ _ _ hP6 hc3 hA3 hN3).mono ?_); rintro e w7 ⟨rfl, hb⟩; have hb7 := hb6.trans (hb.mono hb6.size); have hC := HBX.out _ hb7)
            | (refine (HO.out _ (hP4.drew)).mono ?_; rintro e w5 ⟨rfl, hb⟩; have hP5 := (hP4.drew).at hb; have hb5 := (hb4.drew).trans (hb.mono hb4.size); have hC := HBX.out _ hb5)
            | fail)
        | (go_at_call 22; refine (HQ.out _ hP5).mono ?_; rintro e w6 ⟨hb, A3, c3, rfl, hc3, hA3, hN3⟩; have hP6 := hP5.at hb; have hb6 := hb5.trans (hb.mono hb5.size); have hC := HBX.out _ hb6)
        | fail)
      go_wp2
      go_ret
      exact ⟨ret_true (by simp), hB0.trans (hb7.mono hB0.size)⟩

end Go.Proofs.Yteknfglfbkknaaa.Kinds
