/-
  The laws of layer 9, walked on what the package's functions come to: whether a program is typed, whether two are alike.
-/
import Derived.Test.YteknfglfbkknaaaKindsLawA
namespace Go.Proofs.Yteknfglfbkknaaa.Kinds
open Go.RowKit Mem _root_.Go.Proofs.Yteknfglfbkknaaa.Arena
set_option linter.unusedVariables false
attribute [local go_sem ↓] Go.wp_at_zero Go.wp_at_succ

set_option maxRecDepth 100000 in
set_option maxHeartbeats 4000000 in
theorem kindsChecks_of (C : Pkg) (p o : Prg) (t : Int) (wf : (Lit.int .i64 t).wf = true) (w : World) (hp : p.In w) (ho : o.In w) :
    Calls Try.prog 3 #[.agg #[.int .i64 p.ps, .slice p.A p.vs.length p.c, .slice p.B p.xs.length p.e], .agg #[.int .i64 o.ps, .slice o.A o.vs.length o.c, .slice o.B o.xs.length o.e], .int .i64 t] w fun e w' => e = .returned (.bool true) ∧ Below w.heap.size w w' := by
  have hbA : Below w.heap.size w (w.alloc (.cells #[.int .i64 p.ps, .slice p.A p.vs.length p.c, .slice p.B p.xs.length p.e] 25)) := (Below.refl _ _).alloc (Nat.le_refl _) _
  have hB0 : Below w.heap.size w ((w.alloc (.cells #[.int .i64 p.ps, .slice p.A p.vs.length p.c, .slice p.B p.xs.length p.e] 25)).alloc (.cells #[.int .i64 o.ps, .slice o.A o.vs.length o.c, .slice o.B o.xs.length o.e] 25)) := hbA.alloc hbA.size _
  have bP := (Blk.new w 25 #[.int .i64 p.ps, .slice p.A p.vs.length p.c, .slice p.B p.xs.length p.e]).alloc (.cells #[.int .i64 o.ps, .slice o.A o.vs.length o.c, .slice o.B o.xs.length o.e] 25)
  have bO := Blk.new (w.alloc (.cells #[.int .i64 p.ps, .slice p.A p.vs.length p.c, .slice p.B p.xs.length p.e] 25)) 25 #[.int .i64 o.ps, .slice o.A o.vs.length o.c, .slice o.B o.xs.length o.e]
  rw [World.size_alloc] at bO
  have HP := Lib.hid (hp.at hB0)
  have HQ := Lib.hid (ho.at hB0)
  have hlp := bP.lt
  have hlo := bO.lt
  obtain ⟨w2, hw2⟩ : ∃ w2, ((w.alloc (.cells #[.int .i64 p.ps, .slice p.A p.vs.length p.c, .slice p.B p.xs.length p.e] 25)).alloc (.cells #[.int .i64 o.ps, .slice o.A o.vs.length o.c, .slice o.B o.xs.length o.e] 25)) = w2 := ⟨_, rfl⟩
  rw [hw2] at hB0 bP bO HP HQ hlp hlo
  have HBP := Lib.hid (fun W (h : Below w2.heap.size w2 W) => (bP.below h hlp).three)
  have HBO := Lib.hid (fun W (h : Below w2.heap.size w2 W) => (bO.below h hlo).three)
  have HCC := Lib.hid (fun W (h : Below w2.heap.size w2 W) => show W.cell? ⟨w.heap.size, 0, none⟩ = some (.int .i64 p.ps) ∧ W.cell? ⟨w.heap.size, 1, none⟩ = some (.slice p.A p.vs.length p.c) ∧ W.cell? ⟨w.heap.size, 2, none⟩ = some (.slice p.B p.xs.length p.e) ∧ W.cell? ⟨w.heap.size + 1, 0, none⟩ = some (.int .i64 o.ps) ∧ W.cell? ⟨w.heap.size + 1, 1, none⟩ = some (.slice o.A o.vs.length o.c) ∧ W.cell? ⟨w.heap.size + 1, 2, none⟩ = some (.slice o.B o.xs.length o.e) from ⟨(HBP.out _ h).1, (HBP.out _ h).2.1, (HBP.out _ h).2.2, (HBO.out _ h).1, (HBO.out _ h).2.1, (HBO.out _ h).2.2⟩)
  have HW := Lib.hid (fun W => works_any C W)
  have HW2 := Lib.hid hw2
  have F1 := Lib.hid (fun W => show Calls Try.prog 10 #[.agg #[.int .i64 p.ps, .slice p.A p.vs.length p.c, .slice p.B p.xs.length p.e]] W (fun e w' => e = .returned (.bool (fewB p)) ∧ Below W.heap.size W w') from ref_Few_any p W)
  have F2 := Lib.hid (fun W => show Calls Try.prog 10 #[.agg #[.int .i64 o.ps, .slice o.A o.vs.length o.c, .slice o.B o.xs.length o.e]] W (fun e w' => e = .returned (.bool (fewB o)) ∧ Below W.heap.size W w') from ref_Few_any o W)
  clear hp ho bP bO hbA hw2
  cases hf : fewB p with
  | false =>
    rw [hf] at F1
    go_enter Try.func3, Try.ntmps3
    go_wp2_with (first
      | (go_at_call 9; rw [HW2.out]; refine (HW.out _).mono ?_; rintro e w3 ⟨rfl, hb⟩; have hB := hb; obtain ⟨b0, b1, b2⟩ := HBP.out _ hB; obtain ⟨c0, c1, c2⟩ := HBO.out _ hB)
      | (go_at_call 10; first
        | ((with_reducible refine (F1.out _).mono ?_); rintro e w4 ⟨rfl, hb⟩; have hB := hB.trans (hb.mono hB.size); obtain ⟨b0, b1, b2⟩ := HBP.out _ hB; obtain ⟨c0, c1, c2⟩ := HBO.out _ hB)))
    go_ret
    exact ⟨rfl, hB0.trans (hB.mono hB0.size)⟩
  | true =>
  rw [hf] at F1
  cases hf2 : fewB o with
  | false =>
    rw [hf2] at F2
    go_enter Try.func3, Try.ntmps3
    go_wp2_with (first
      | (go_at_call 9; rw [HW2.out]; refine (HW.out _).mono ?_; rintro e w3 ⟨rfl, hb⟩; have hB := hb; obtain ⟨b0, b1, b2⟩ := HBP.out _ hB; obtain ⟨c0, c1, c2⟩ := HBO.out _ hB)
      | (go_at_call 10; first
        | ((with_reducible refine (F1.out _).mono ?_); rintro e w4 ⟨rfl, hb⟩; have hB := hB.trans (hb.mono hB.size); obtain ⟨b0, b1, b2⟩ := HBP.out _ hB; obtain ⟨c0, c1, c2⟩ := HBO.out _ hB)
        | ((with_reducible refine (F2.out _).mono ?_); rintro e w4 ⟨rfl, hb⟩; have hB := hB.trans (hb.mono hB.size); obtain ⟨b0, b1, b2⟩ := HBP.out _ hB; obtain ⟨c0, c1, c2⟩ := HBO.out _ hB)))
    go_ret
    exact ⟨rfl, hB0.trans (hB.mono hB0.size)⟩
  | true =>
    rw [hf2] at F2
    obtain ⟨q1, q2⟩ := few_ok hf
    obtain ⟨r1, r2⟩ := few_ok hf2
    have K1 := Lib.hid (fun W (h : p.Ok W) => C.check p W h)
    have K2 := Lib.hid (fun W (h : p.Ok W) => Kinds.ref_Check_any p W h)
    have K3 := Lib.hid (fun W (h : p.Ok W) => C.vars p W h)
    have K4 := Lib.hid (fun W (h : p.Ok W) => ref_Vars_any p W h)
    have K5 := Lib.hid (fun W => C.size t W wf)
    have K6 := Lib.hid (fun W => (ref_Size_any t W).mono (fun e w' h => show e = .returned (.int .i64 (asz t)) ∧ Below W.heap.size W w' from ⟨h.1, h.2 ▸ Below.refl _ _⟩))
    have K7 := Lib.hid (fun W (h : p.Ok W) (h' : o.Ok W) => C.same p o W h h')
    have K8 := Lib.hid (fun W (h : p.Ok W) (h' : o.Ok W) => Kinds.ref_Same_any p o W h h')
    generalize pcheck p.ps p.vs p.xs = k1 at *
    generalize avars p.ps p.vs = k2 at *
    generalize asz t = k3 at *
    generalize decide (p.vs = o.vs ∧ p.xs = o.xs ∧ p.ps = o.ps) = k4 at *
    go_enter Try.func3, Try.ntmps3
    go_wp2_with (first
      | (go_at_call 9; rw [HW2.out]; refine (HW.out _).mono ?_; rintro e w3 ⟨rfl, hb⟩; have hB := hb; obtain ⟨b0, b1, b2⟩ := HBP.out _ hB; obtain ⟨c0, c1, c2⟩ := HBO.out _ hB)
      | (go_at_call 10; first
        | ((with_reducible refine (F1.out _).mono ?_); rintro e w4 ⟨rfl, hb⟩; have hB := hB.trans (hb.mono hB.size); obtain ⟨b0, b1, b2⟩ := HBP.out _ hB; obtain ⟨c0, c1, c2⟩ := HBO.out _ hB)
        | ((with_reducible refine (F2.out _).mono ?_); rintro e w4 ⟨rfl, hb⟩; have hB := hB.trans (hb.mono hB.size); obtain ⟨b0, b1, b2⟩ := HBP.out _ hB; obtain ⟨c0, c1, c2⟩ := HBO.out _ hB))
      | (go_at_call 11; have hP := (HP.out.at hB).ok q1 q2; have hQ := (HQ.out.at hB).ok r1 r2; refine (K8.out _ hP hQ).mono ?_; rintro e w4 ⟨rfl, hb⟩; have hB := hB.trans (hb.mono hB.size); have hP := hP.at hb; have hQ := hQ.at hb; have hC := HCC.out _ hB))
    go_region_held3 (fun w' => w'.cell? ⟨w.heap.size, 0, none⟩ = some (.int .i64 p.ps) ∧ w'.cell? ⟨w.heap.size, 1, none⟩ = some (.slice p.A p.vs.length p.c) ∧ w'.cell? ⟨w.heap.size, 2, none⟩ = some (.slice p.B p.xs.length p.e) ∧ w'.cell? ⟨w.heap.size + 1, 0, none⟩ = some (.int .i64 o.ps) ∧ w'.cell? ⟨w.heap.size + 1, 1, none⟩ = some (.slice o.A o.vs.length o.c) ∧ w'.cell? ⟨w.heap.size + 1, 2, none⟩ = some (.slice o.B o.xs.length o.e)) (exact hC) (first
      | (go_at_call 12; refine (K1.out _ (hP.drew)).mono ?_; rintro e w4 ⟨rfl, hb⟩; have hB := (hB.drew).trans (hb.mono hB.size); have hC := HCC.out _ hB; have hP := (hP.drew).at hb; have hQ := (hQ.drew).at hb)
      | (go_at_call 13; refine (K2.out _ hP).mono ?_; rintro e w4 ⟨rfl, hb⟩; have hB := hB.trans (hb.mono hB.size); have hC := HCC.out _ hB; have hP := hP.at hb; have hQ := hQ.at hb)
      | (go_at_call 14; refine (K3.out _ hP).mono ?_; rintro e w4 ⟨rfl, hb⟩; have hB := hB.trans (hb.mono hB.size); have hC := HCC.out _ hB; have hP := hP.at hb; have hQ := hQ.at hb)
      | (go_at_call 15; refine (K4.out _ hP).mono ?_; rintro e w4 ⟨rfl, hb⟩; have hB := hB.trans (hb.mono hB.size); have hC := HCC.out _ hB; have hP := hP.at hb; have hQ := hQ.at hb)
      | (go_at_call 16; refine (K5.out _).mono ?_; rintro e w4 ⟨rfl, hb⟩; have hB := hB.trans (hb.mono hB.size); have hC := HCC.out _ hB; have hP := hP.at hb; have hQ := hQ.at hb)
      | (go_at_call 17; refine (K6.out _).mono ?_; rintro e w4 ⟨rfl, hb⟩; have hB := hB.trans (hb.mono hB.size); have hC := HCC.out _ hB; have hP := hP.at hb; have hQ := hQ.at hb)
      | (go_at_call 18; refine (K7.out _ hP hQ).mono ?_; rintro e w4 ⟨rfl, hb⟩; have hB := hB.trans (hb.mono hB.size); have hC := HCC.out _ hB; have hP := hP.at hb; have hQ := hQ.at hb)
      | fail)
    go_wp2
    go_ret
    exact ⟨ret_true (by simp), hB0.trans (hB.mono hB0.size)⟩

end Go.Proofs.Yteknfglfbkknaaa.Kinds
