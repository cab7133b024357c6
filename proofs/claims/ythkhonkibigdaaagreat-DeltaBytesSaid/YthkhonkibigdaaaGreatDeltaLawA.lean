/-
  The laws of layer 12, walked: what a program becomes, and what is wrong.
-/
import Derived.Test.YthkhonkibigdaaaGreatDeltaArgs
import Derived.Test.YthkhonkibigdaaaGreatDeltaWorks
import Derived.Test.YthkhonkibigdaaaGreatDeltaRefF
import Derived.Test.YthkhonkibigdaaaGreatKindsG
namespace Go.Proofs.YthkhonkibigdaaaGreat.Delta
open Go.RowKit Mem _root_.Go.Proofs.YthkhonkibigdaaaGreat.Arena _root_.Go.Proofs.YthkhonkibigdaaaGreat.Kinds _root_.Go.Proofs.YthkhonkibigdaaaGreat.Path
set_option linter.unusedVariables false
attribute [local go_sem ↓] Go.wp_at_zero Go.wp_at_succ

def fewD (d : Dlt) : Bool := decide (d.p.length ≤ 60)
theorem fewD_ok {d : Dlt} (h : fewD d = true) : d.p.length ≤ 1000000 := by
  unfold fewD at h
  have := of_decide_eq_true h
  omega
theorem fewB_len {p : Prg} (h : fewB p = true) : p.xs.length ≤ 100000 := by
  unfold fewB at h
  rw [Bool.and_eq_true] at h
  have := of_decide_eq_true h.1
  omega
set_option maxRecDepth 100000 in
theorem few_any (d : Dlt) (w : World) : Calls Tryz.prog 6 #[.agg #[.slice d.A d.p.length d.c, .int .i64 d.op, .int .i64 d.n]] w fun e w' => e = .returned (.bool (fewD d)) ∧ Below w.heap.size w w' := by
  have hB : Below w.heap.size w (w.alloc (.cells #[.slice d.A d.p.length d.c, .int .i64 d.op, .int .i64 d.n] 24)) := (Below.refl _ _).alloc (Nat.le_refl _) _
  obtain ⟨d0, d1, d2⟩ := (Blk.new w 24 #[.slice d.A d.p.length d.c, .int .i64 d.op, .int .i64 d.n]).three
  have HE := Lib.hid (show fewD d = decide ((d.p.length : Int) ≤ 60) by unfold fewD; by_cases h : d.p.length ≤ 60; rw [decide_eq_true h, decide_eq_true (by omega)]; rw [decide_eq_false h, decide_eq_false (by omega)])
  go_enter Tryz.func6, Tryz.ntmps6
  go_wp2
  go_ret
  exact ⟨by rw [HE.out]; rfl, hB⟩

/-- A program and a delta that came by value, in variables. -/
structure Two (p : Prg) (d : Dlt) (w w2 : World) : Prop where
  below : Below w.heap.size w w2
  P : Blk w2 w.heap.size 36 #[.int .i64 p.ps, .slice p.A p.vs.length p.c, .slice p.B p.xs.length p.e]
  D : Blk w2 (w.heap.size + 1) 24 #[.slice d.A d.p.length d.c, .int .i64 d.op, .int .i64 d.n]
theorem two_boxes (p : Prg) (d : Dlt) (w : World) : Two p d w ((w.alloc (.cells #[.int .i64 p.ps, .slice p.A p.vs.length p.c, .slice p.B p.xs.length p.e] 36)).alloc (.cells #[.slice d.A d.p.length d.c, .int .i64 d.op, .int .i64 d.n] 24)) := by
  refine ⟨((Below.refl _ _).alloc (Nat.le_refl _) _).alloc (by simp) _, (Blk.new w _ _).alloc _, ?_⟩
  have := Blk.new (w.alloc (.cells #[.int .i64 p.ps, .slice p.A p.vs.length p.c, .slice p.B p.xs.length p.e] 36)) 24 #[.slice d.A d.p.length d.c, .int .i64 d.op, .int .i64 d.n]
  rwa [World.size_alloc] at this
theorem Two.cells {p : Prg} {d : Dlt} {w w2 W : World} (h : Two p d w w2) (hb : Below w2.heap.size w2 W) :
    (W.cell? ⟨w.heap.size, 0, none⟩ = some (.int .i64 p.ps) ∧ W.cell? ⟨w.heap.size, 1, none⟩ = some (.slice p.A p.vs.length p.c) ∧ W.cell? ⟨w.heap.size, 2, none⟩ = some (.slice p.B p.xs.length p.e)) ∧
    (W.cell? ⟨w.heap.size + 1, 0, none⟩ = some (.slice d.A d.p.length d.c) ∧ W.cell? ⟨w.heap.size + 1, 1, none⟩ = some (.int .i64 d.op) ∧ W.cell? ⟨w.heap.size + 1, 2, none⟩ = some (.int .i64 d.n)) :=
  ⟨(h.P.below hb h.P.lt).three, (h.D.below hb h.D.lt).three⟩

end Go.Proofs.YthkhonkibigdaaaGreat.Delta
