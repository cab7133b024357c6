/-
  The laws of layer 12, walked: a delta's bytes, and the delta of bytes.
-/
import Derived.Test.YthkhonkibigdaaaGreatDeltaLawA
import Derived.Test.YthkhonkibigdaaaGreatDeltaRefI
namespace Go.Proofs.YthkhonkibigdaaaGreat.Delta
open Go.RowKit Leb Mem Wire _root_.Go.Proofs.YthkhonkibigdaaaGreat.Arena _root_.Go.Proofs.YthkhonkibigdaaaGreat.Kinds _root_.Go.Proofs.YthkhonkibigdaaaGreat.Path _root_.Go.Proofs.YthkhonkibigdaaaGreat.Code
set_option linter.unusedVariables false
attribute [local go_sem ↓] Go.wp_at_zero Go.wp_at_succ

theorem one_box (d : Dlt) (w : World) : Below w.heap.size w (w.alloc (.cells #[.slice d.A d.p.length d.c, .int .i64 d.op, .int .i64 d.n] 24)) ∧ Blk (w.alloc (.cells #[.slice d.A d.p.length d.c, .int .i64 d.op, .int .i64 d.n] 24)) w.heap.size 24 #[.slice d.A d.p.length d.c, .int .i64 d.op, .int .i64 d.n] :=
  ⟨(Below.refl _ _).alloc (Nat.le_refl _) _, Blk.new _ _ _⟩
/-- Both put the same. -/
theorem put_both (C : Pkg) (d : Dlt) (hn : N64 d.n) : ∃ (T : ByteArray) (E : Int),
    (∀ W, d.Ok W → Calls Tryz.prog 7 #[.agg #[.slice d.A d.p.length d.c, .int .i64 d.op, .int .i64 d.n]] W fun e w' => e = .returned (.tuple #[.string T, .int .i64 E]) ∧ Below W.heap.size W w') ∧
    (∀ W, d.Ok W → Calls Tryz.prog 8 #[.agg #[.slice d.A d.p.length d.c, .int .i64 d.op, .int .i64 d.n]] W fun e w' => e = .returned (.tuple #[.string T, .int .i64 E]) ∧ Below W.heap.size W w') := by
  by_cases hr : Right d.p d.op
  · exact ⟨⟨(dput d.p d.op d.n).toArray⟩, 0, fun W h => C.put d W h hr hn, fun W h => ref_DPut_good d W h hr hn⟩
  · exact ⟨⟨#[]⟩, 17, fun W h => C.putNo d W h hr, fun W h => ref_DPut_bad d W h hr⟩
/-- What Get told. -/
def Got (L : List Int) (op n E : Int) (w : World) (e : Ending) (w' : World) : Prop :=
  Below w.heap.size w w' ∧ ∃ A c, e = .returned (.tuple #[.agg #[.slice A L.length c, .int .i64 op, .int .i64 n], .int .i64 E]) ∧ Dlt.Ok ⟨A, c, L, op, n⟩ w'
theorem get_both (C : Pkg) (S : ByteArray) (hS : S.size ≤ 10000) : ∃ (L : List Int) (op n E : Int),
    (∀ W, Calls Tryz.prog 9 #[.string S] W (Got L op n E W)) ∧ (∀ W, Calls Tryz.prog 10 #[.string S] W (Got L op n E W)) := by
  by_cases hf : dfits S
  · exact ⟨(d2 S).1, (d3 S).2, (d4 S).2, 0, fun W => (C.get S W hS).mono (fun e w' h => h.ok hf rfl rfl rfl), fun W => (ref_DGet_any S W hS).mono (fun e w' h => h.ok hf rfl rfl rfl)⟩
  · exact ⟨[], 0, 0, 12, fun W => (C.get S W hS).mono (fun e w' h => h.no hf), fun W => (ref_DGet_any S W hS).mono (fun e w' h => h.no hf)⟩

end Go.Proofs.YthkhonkibigdaaaGreat.Delta
