/-
  Rows of numbers that a call owns, small facts (as in layer 9's laws).
-/
import Derived.Test.YtodejloonfkkmaaDirPkg
import Derived.Deep.AppendLies
set_option linter.unusedVariables false
namespace Go.Proofs.Ytodejloonfkkmaa.Dir
open Go.RowKit Mem _root_.Go.Proofs.Ytodejloonfkkmaa.Arena _root_.Go.Proofs.Ytodejloonfkkmaa.Kinds

theorem row0 {w : World} {g base : Nat} {T : TypeId} (h : Blk w g T #[]) (hb : base ≤ g) : w.ownsRow base T 1 (.slice (some ⟨g, 0, none⟩) 0 0) 0 [] :=
  ⟨by simp, .inr ⟨g, 0, #[], rfl, hb, h, Nat.le_refl _, by simp, by simp, by simp⟩⟩
theorem row_news {w : World} {ad : Addr} {vs : List Int} (h : IRow w w.heap.size (some ad) vs) : ∀ j u, (icells vs)[j]? = some u → w.cell? (ad.add j) = some u := by
  intro j u hu
  unfold icells at hu
  rw [List.getElem?_map, Option.map_eq_some_iff] at hu
  obtain ⟨x, hx, rfl⟩ := hu
  obtain ⟨ad', e, -, q⟩ := h j x hx
  cases e
  exact q
theorem row_ints {w : World} {base g cap n : Nat} {ks : List Int} (h : w.ownsRow base 3 1 (.slice (some ⟨g, 0, none⟩) n cap) n (icells ks)) : IRow w w.heap.size (some ⟨g, 0, none⟩) ks := by
  intro i x hx
  exact ⟨_, rfl, (h.lt g rfl).2, h.cells (g := g) rfl i _ (by unfold icells; rw [List.getElem?_map, hx]; rfl)⟩
theorem irow_set {w : World} {B g d : Nat} {ks : List Int} (h : IRow w B (some ⟨g, 0, none⟩) ks) (hne : g ≠ d) (i : Nat) (v : Value) : IRow (w.setCell ⟨d, i, none⟩ v) B (some ⟨g, 0, none⟩) ks := by
  intro j x hx
  obtain ⟨ad, e, hlt, q⟩ := h j x hx
  cases e
  refine ⟨_, rfl, hlt, (World.cell?_of_block ?_).trans q⟩
  rw [add_blockN]
  exact Below.heap_setCell _ _ _ _ hne
theorem irow_size (w : World) (p : Addr) (v : Value) : (w.setCell p v).heap.size = w.heap.size := by simp [World.setCell]
theorem row_far3 {w : World} {g d : Nat} {ks : List Int} (h : IRow w w.heap.size (some ⟨g, 0, none⟩) ks) (hne : g ≠ d) (u0 u1 u2 : Value) :
    IRow (((w.setCell ⟨d, 0, none⟩ u0).setCell ⟨d, 1, none⟩ u1).setCell ⟨d, 2, none⟩ u2) (((w.setCell ⟨d, 0, none⟩ u0).setCell ⟨d, 1, none⟩ u1).setCell ⟨d, 2, none⟩ u2).heap.size (some ⟨g, 0, none⟩) ks := by
  rw [irow_size, irow_size, irow_size]
  exact irow_set (irow_set (irow_set h hne 0 u0) hne 1 u1) hne 2 u2

theorem own_cap2 {w : World} {base : Nat} {e : TypeId} {s g n cap : Nat} {cs : List Value} (h : w.ownsRow base e s (.slice (some ⟨g, 0, none⟩) n cap) n cs) : n ≤ cap := by
  rcases h.2 with ⟨h, -⟩ | ⟨g', cap', cur, h', hb, hg, hnc, -⟩
  · cases h
  · simp only [Value.slice.injEq, Option.some.injEq, Addr.mk.injEq, and_true, true_and] at h'
    obtain ⟨rfl, rfl⟩ := h'
    exact hnc
set_option maxRecDepth 100000 in
theorem step_append_nothing {ops : Array Oper} {o : Oper} {a : Act} {w : World} {K : Act → World → Prop} {Q : Exit → Act → World → Prop} {E : Prop} (hgd : o.guard = none) (s x : Operand)
    (ho : o.op = .call { callee := .builtin .append, args := #[s, x], argTypes := #[22, 22] }) (g : Nat) (hs : a.eval s = .slice (some ⟨g, 0, none⟩) 0 0) (A : Option Addr) (c : Nat) (hx : a.eval x = .slice A 0 c)
    (h : K (a.put o.dst (.slice (some ⟨g, 0, none⟩) 0 0)) w) : if Region.wanted o (yielded ops a.tmps) = true then Oper.wp Try.prog o a w K Q else E := by
  have hw : Region.wanted o (yielded ops a.tmps) = true := by simp [Region.wanted, hgd]
  rw [if_pos hw]
  have hrun : (Builtin.append_ #[22, 22] o.type #[.slice (some ⟨g, 0, none⟩) 0 0, .slice A 0 c]).run Try.prog w = .ok (.slice (some ⟨g, 0, none⟩) 0 0) w := by
    cases A <;> rfl
  unfold Oper.wp
  simp [execOp, ho, resolve, invoke, builtin, hs, hx, hrun, Result.andThen]
  first | exact h | exact .inl h

end Go.Proofs.Ytodejloonfkkmaa.Dir
