/-
  The laws of layer 9, walked on what the package's functions come to: a node's kind is just what the document says.
-/
import Derived.Test.YteknfglfbkknaaaKindsWorks
import Derived.Test.YteknfglfbkknaaaKindsArgs
namespace Go.Proofs.Yteknfglfbkknaaa.Kinds
open Go.RowKit Mem _root_.Go.Proofs.Yteknfglfbkknaaa.Arena
set_option linter.unusedVariables false
attribute [local go_sem ↓] Go.wp_at_zero Go.wp_at_succ

theorem ret_true {p : Bool} (h : p = true) : Ending.returned (.bool p) = .returned (.bool true) := by rw [h]
def fewB (p : Prg) : Bool := decide (p.xs.length ≤ 60) && decide (p.vs.length ≤ 20)
theorem few_ok {p : Prg} (h : fewB p = true) : p.vs.length ≤ 1000000 ∧ p.xs.length ≤ 1000000 := by
  unfold fewB at h
  rw [Bool.and_eq_true, decide_eq_true_eq, decide_eq_true_eq] at h
  omega

set_option maxRecDepth 100000 in
set_option maxHeartbeats 2000000 in
theorem kindsOf_of (C : Pkg) (p : Prg) (a : Int) (wf : (Lit.int .i64 a).wf = true) (w : World) (hp : p.In w) :
    Calls Try.prog 4 #[.agg #[.int .i64 p.ps, .slice p.A p.vs.length p.c, .slice p.B p.xs.length p.e], .int .i64 a] w fun e w' => e = .returned (.bool true) ∧ Below w.heap.size w w' := by
  have hB0 : Below w.heap.size w (w.alloc (.cells #[.int .i64 p.ps, .slice p.A p.vs.length p.c, .slice p.B p.xs.length p.e] 25)) := (Below.refl _ _).alloc (Nat.le_refl _) _
  have bX := Blk.new w 25 #[.int .i64 p.ps, .slice p.A p.vs.length p.c, .slice p.B p.xs.length p.e]
  have HP := Lib.hid (hp.at hB0)
  have hgl := bX.lt
  have HBX := Lib.hid (fun W (h : Below (w.alloc (.cells #[.int .i64 p.ps, .slice p.A p.vs.length p.c, .slice p.B p.xs.length p.e] 25)).heap.size (w.alloc (.cells #[.int .i64 p.ps, .slice p.A p.vs.length p.c, .slice p.B p.xs.length p.e] 25)) W) => (bX.below h hgl).three)
  have HW := Lib.hid (fun W => works_any C W)
  have HF := Lib.hid (fun W => show Calls Try.prog 10 #[.agg #[.int .i64 p.ps, .slice p.A p.vs.length p.c, .slice p.B p.xs.length p.e]] W (fun e w' => e = .returned (.bool (fewB p)) ∧ Below W.heap.size W w') from ref_Few_any p W)
  clear hp bX
  cases hf : fewB p with
  | false =>
    rw [hf] at HF
    go_enter Try.func4, Try.ntmps4
    go_wp2_with (first
      | (go_at_call 9; refine (HW.out _).mono ?_; rintro e w2 ⟨rfl, hb2⟩; obtain ⟨b0, b1, b2⟩ := HBX.out _ hb2)
      | (go_at_call 10; refine (HF.out _).mono ?_; rintro e w3 ⟨rfl, hb⟩; have hb3 := hb2.trans (hb.mono hb2.size)))
    go_ret
    exact ⟨rfl, hB0.trans (hb3.mono hB0.size)⟩
  | true =>
    rw [hf] at HF
    obtain ⟨q1, q2⟩ := few_ok hf
    have HO := Lib.hid (fun W (h : p.Ok W) => C.of p a W h)
    have HR := Lib.hid (fun W (h : p.Ok W) => ref_Of_any p a W h)
    generalize okind p.vs p.xs a = k at *
    go_enter Try.func4, Try.ntmps4
    go_wp2_with (first
      | (go_at_call 9; refine (HW.out _).mono ?_; rintro e w2 ⟨rfl, hb2⟩; obtain ⟨b0, b1, b2⟩ := HBX.out _ hb2)
      | (go_at_call 10; refine (HF.out _).mono ?_; rintro e w3 ⟨rfl, hb⟩; have hb3 := hb2.trans (hb.mono hb2.size)))
    have hP3 := (HP.out.at hb3).ok q1 q2
    have hC := HBX.out _ hb3
    go_region_held3 (fun w' => w'.cell? ⟨w.heap.size, 0, none⟩ = some (.int .i64 p.ps) ∧ w'.cell? ⟨w.heap.size, 1, none⟩ = some (.slice p.A p.vs.length p.c) ∧ w'.cell? ⟨w.heap.size, 2, none⟩ = some (.slice p.B p.xs.length p.e)) (exact hC) (first
      | (go_at_call 19; refine (HO.out _ (hP3.drew)).mono ?_; rintro e w4 ⟨rfl, hb⟩; have hP4 := (hP3.drew).at hb; have hb4 := (hb3.drew).trans (hb.mono hb3.size); have hC := HBX.out _ hb4)
      | (go_at_call 20; refine (HR.out _ hP4).mono ?_; rintro e w5 ⟨rfl, hb⟩; have hb5 := hb4.trans (hb.mono hb4.size); have hC := HBX.out _ hb5)
      | fail)
    go_wp2
    go_ret
    exact ⟨ret_true (by simp), hB0.trans (hb5.mono hB0.size)⟩

end Go.Proofs.Yteknfglfbkknaaa.Kinds
