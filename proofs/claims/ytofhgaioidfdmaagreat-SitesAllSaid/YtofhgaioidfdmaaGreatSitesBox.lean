/-
  A mutant in a box of its own.
-/
import Derived.Test.YtofhgaioidfdmaaGreatSitesPkg
import Derived.Test.YtofhgaioidfdmaaGreatCatH
set_option linter.unusedVariables false
namespace Go.Proofs.YtofhgaioidfdmaaGreat.Sites
open Go.RowKit Mem _root_.Go.Proofs.YtofhgaioidfdmaaGreat.Arena _root_.Go.Proofs.YtofhgaioidfdmaaGreat.Delta _root_.Go.Proofs.YtofhgaioidfdmaaGreat.Path _root_.Go.Proofs.YtofhgaioidfdmaaGreat.Cat _root_.Go.Proofs.YtofhgaioidfdmaaGreat.Kinds

/-- Where the changed program lies: in the box g. -/
def FinP (w4 w7 : World) (g : Nat) (ps : Int) (A : Option Addr) (c : Nat) (vs : List Int) (B : Option Addr) (ce : Nat) (R : List Nd) : Prop :=
  Below w4.heap.size w4 w7 ∧ Blk w7 g 25 #[.int .i64 ps, .slice A vs.length c, .slice B R.length ce] ∧ Prg.Ok ⟨ps, A, c, vs, B, ce, R⟩ w7
theorem finp_new {w4 w6 : World} {ps : Int} {A : Option Addr} {c : Nat} {vs : List Int} {B : Option Addr} {ce : Nat} {R : List Nd} (h : Below w4.heap.size w4 w6) (ok : Prg.Ok ⟨ps, A, c, vs, B, ce, R⟩ w6) :
    FinP w4 (w6.alloc (.cells #[.int .i64 ps, .slice A vs.length c, .slice B R.length ce] 25)) w6.heap.size ps A c vs B ce R :=
  ⟨h.alloc h.size _, Blk.new _ _ _, ok.at ((Below.refl _ _).alloc (Nat.le_refl _) _)⟩
theorem finp_set {w4 w6 : World} {g : Nat} {ps : Int} {A : Option Addr} {c : Nat} {vs : List Int} {B : Option Addr} {ce : Nat} {R : List Nd} (h : Below w4.heap.size w4 w6) (ok : Prg.Ok ⟨ps, A, c, vs, B, ce, R⟩ w6) (bX : Blk w6 g 25 #[.int .i64 0, .slice none 0 0, .slice none 0 0]) (hg : w4.heap.size ≤ g)
    (hA : vs ≠ [] → ∀ ad, A = some ad → ad.block ≠ g) :
    FinP w4 (((w6.setCell ⟨g, 0, none⟩ (.int .i64 ps)).setCell ⟨g, 1, none⟩ (.slice A vs.length c)).setCell ⟨g, 2, none⟩ (.slice B R.length ce)) g ps A c vs B ce R := by
  have b1 := bX.set 0 (.int .i64 ps)
  have b2 := b1.set 1 (.slice A vs.length c)
  have b3 := b2.set 2 (.slice B R.length ce)
  have n1 := far_nodes ok.body bX 0 (.int .i64 ps)
  have n2 := far_nodes n1 b1 1 (.slice A vs.length c)
  have n3 := far_nodes n2 b2 2 (.slice B R.length ce)
  have hs : (((w6.setCell ⟨g, 0, none⟩ (.int .i64 ps)).setCell ⟨g, 1, none⟩ (.slice A vs.length c)).setCell ⟨g, 2, none⟩ (.slice B R.length ce)).heap.size = w6.heap.size := by simp [World.setCell]
  refine ⟨((h.setCell (p := ⟨g, 0, none⟩) hg _).setCell (p := ⟨g, 1, none⟩) hg _).setCell (p := ⟨g, 2, none⟩) hg _, b3, ⟨?_, ?_, ok.lv, ok.lx, ok.cv, ok.ce, ok.nv, ok.nb⟩⟩
  · rw [hs]
    by_cases hz : vs = []
    · subst hz; exact fun i x h => by simp at h
    · exact row_apart (row_apart (row_apart ok.vars (hA hz) 0 _) (hA hz) 1 _) (hA hz) 2 _
  · rw [hs]
    exact n3

end Go.Proofs.YtofhgaioidfdmaaGreat.Sites
