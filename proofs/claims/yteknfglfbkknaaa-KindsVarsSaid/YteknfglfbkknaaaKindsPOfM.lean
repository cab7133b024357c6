/-
  Package kinds: rows of parts, the first one last: plain facts, and rows in memory.
-/
import Derived.Test.YteknfglfbkknaaaKindsPRule
namespace Go.Proofs.Yteknfglfbkknaaa.Kinds
open Go.RowKit Mem _root_.Go.Proofs.Yteknfglfbkknaaa.Arena
set_option linter.unusedVariables false

theorem fold_stk {β : Type} (f : Nd → List β → β) : ∀ X : List Nd, (fold f X).length = (stk X).length
  | [] => rfl
  | x :: X => by rw [fold_cons, stk, List.length_cons, List.length_cons, List.length_drop, List.length_drop, fold_stk f X]
/-- The row behind so many nodes: the first part last. -/
def prow (vs : List Int) (X : List Nd) : List Nd := ((fold (kd vs) X).map sw).reverse
theorem prow_len (vs : List Int) (X : List Nd) : (prow vs X).length = (fold (kd vs) X).length := by unfold prow; rw [List.length_reverse, List.length_map]
theorem prow_le (vs : List Int) (X : List Nd) : (prow vs X).length ≤ X.length := by rw [prow_len, fold_stk]; exact stk_len X
/-- A node more. -/
theorem prow_cons (vs : List Int) (x : Nd) (X : List Nd) (o m : Nat) (h0 : 0 ≤ ar x) (hm : (ar x).toNat = m) (ho : (prow vs X).length = o + m) :
    prow vs (x :: X) = (prow vs X).take o ++ [(x.1, if (cls x.1).fits (vtyp vs x.2) ((prow vs X).drop o) then (cls x.1).gives (vtyp vs x.2) else -1)] := by
  rw [prow_len] at ho
  have hd : (prow vs X).drop o = (((fold (kd vs) X).take m).map sw).reverse := by
    unfold prow
    rw [List.drop_reverse, List.length_map, ho, Nat.add_sub_cancel_left, List.map_take]
  have ht : (prow vs X).take o = (((fold (kd vs) X).drop m).map sw).reverse := by
    unfold prow
    rw [List.take_reverse, List.length_map, ho, Nat.add_sub_cancel_left, List.map_drop]
  have hr := rule_cls vs x ((fold (kd vs) X).take m) h0 (by rw [List.length_take]; omega)
  rw [hd, ht, ← hr]
  unfold prow
  rw [fold_cons, hm, List.map_cons, List.reverse_cons]
  rfl
theorem prow_whole {vs : List Int} {l : List Nd} {k n : Nat} (h : scan 1 (l.drop k) = some n) : prow vs ((l.drop k).take n) = [(otag l k, okind vs l k)] := by
  have hp := fold_part (kd vs) (-1, 0) h
  have e : apart l (k : Int) = (l.drop k).take n := by
    unfold apart
    rw [if_neg (by rw [aend_some h]; omega), aend_some h, Int.toNat_natCast, show ((k : Int) + n).toNat - k = n by omega]
  unfold prow
  rw [← e, hp, val_tag h]
  rfl
theorem prow_enough {vs : List Int} {l : List Nd} {k n : Nat} (h : scan 1 (l.drop k) = some n) (t : Nat) (ht : t < n) : ∃ x, l[k + t]? = some x ∧ 0 ≤ ar x ∧ ((l.drop k).take n).drop t = x :: ((l.drop k).take n).drop (t + 1) ∧ (ar x).toNat ≤ (prow vs (((l.drop k).take n).drop (t + 1))).length := by
  obtain ⟨x, h1, h2, h3, h4⟩ := stk_enough h t ht
  exact ⟨x, h1, h2, h3, by rw [prow_len, fold_stk]; exact h4⟩
theorem cls_branches {x : Nd} (h : 0 ≤ ar x) : (cls x.1).branches → 0 < (ar x).toNat := by
  intro hb
  have h23 : x.1 = 23 ∨ x.1 = 24 := by
    obtain ⟨h1, h2⟩ := ar_tag h
    obtain ⟨t, n⟩ := x
    simp only at *
    revert hb
    unfold cls
    repeat' split
    all_goals first
      | (intro hb; omega)
      | (intro hb; exact hb.elim)
  rw [ar_asks h]
  rcases h23 with q | q <;> rw [q] <;> simp [asks]

/-! Rows that the call owns -/
theorem info_part : (Try.prog.info? 47).map (fun i => (i.zero, i.size, i.bytes)) = some (some (.agg #[.int .i64 0, .int .i64 0]), 2, 16) := by kernel_rfl
theorem own_take2 {w : World} {base : Nat} {e : TypeId} {g n cap : Nat} {D : List Nd} (h : w.ownsRow base e 2 (.slice (some ⟨g, 0, none⟩) n cap) n (ncells D)) (k : Nat) (hk : k ≤ n) : w.ownsRow base e 2 (.slice (some ⟨g, 0, none⟩) k cap) k (ncells (D.take k)) := by
  obtain ⟨hl, h⟩ := h
  rw [ncells_len] at hl
  have hnt : ∀ (D : List Nd) k, ncells (D.take k) = (ncells D).take (k * 2) := by
    intro D
    induction D with
    | nil => intro k; simp [ncells]
    | cons x D ih =>
      intro k
      cases k with
      | zero => simp [ncells]
      | succ k =>
        rw [List.take_succ_cons, show ncells (x :: D.take k) = .int .i64 x.1 :: .int .i64 x.2 :: ncells (D.take k) from rfl, show ncells (x :: D) = .int .i64 x.1 :: .int .i64 x.2 :: ncells D from rfl, ih, show (k + 1) * 2 = k * 2 + 1 + 1 by omega, List.take_succ_cons, List.take_succ_cons]
  rcases h with ⟨h, -⟩ | ⟨g', cap', cur, h', hb, hg, hnc, hcm, hcs, htake⟩
  · cases h
  · simp only [Value.slice.injEq, Option.some.injEq, Addr.mk.injEq, and_true, true_and] at h'
    obtain ⟨rfl, rfl⟩ := h'
    refine ⟨by rw [ncells_len, List.length_take]; omega, .inr ⟨g, cap, cur, rfl, hb, hg, by omega, hcm, hcs, ?_⟩⟩
    rw [hnt, ← htake, List.take_take]
    congr 1
    omega
theorem own_cap2 {w : World} {base : Nat} {e : TypeId} {s g n cap : Nat} {cs : List Value} (h : w.ownsRow base e s (.slice (some ⟨g, 0, none⟩) n cap) n cs) : n ≤ cap := by
  rcases h.2 with ⟨h, -⟩ | ⟨g', cap', cur, h', hb, hg, hnc, -⟩
  · cases h
  · simp only [Value.slice.injEq, Option.some.injEq, Addr.mk.injEq, and_true, true_and] at h'
    obtain ⟨rfl, rfl⟩ := h'
    exact hnc
/-- The end of a row of parts that the call owns. -/
theorem own_tail2 {w : World} {base : Nat} {e : TypeId} {g n cap : Nat} {D : List Nd} (h : w.ownsRow base e 2 (.slice (some ⟨g, 0, none⟩) n cap) n (ncells D)) (o : Nat) : Nodes w w.heap.size (some ⟨g, o * 2, none⟩) (D.drop o) := by
  have hg : g < w.heap.size := (h.lt g rfl).2
  have hc := h.cells (g := g) rfl
  have key : ∀ j u, (ncells D)[j]? = some u → w.cell? ⟨g, j, none⟩ = some u := by
    intro j u hu
    have q := hc j u hu
    by_cases hj : j = 0
    · subst hj; simpa [Addr.add] using q
    · rw [add_off _ _ (by omega)] at q; simpa using q
  intro i x hx
  rw [List.getElem?_drop] at hx
  obtain ⟨q1, q2⟩ := ncells_get D (o + i) x hx
  refine ⟨_, rfl, hg, ?_, ?_⟩
  · rw [show ((⟨g, o * 2, none⟩ : Addr).add (i * 2)) = ⟨g, (o + i) * 2, none⟩ from by
      by_cases hi : i = 0
      · subst hi; simp [Addr.add]
      · rw [add_off _ _ (by omega)]; simp; omega]
    exact key _ _ q1
  · rw [show ((⟨g, o * 2, none⟩ : Addr).add (i * 2)) = ⟨g, (o + i) * 2, none⟩ from by
      by_cases hi : i = 0
      · subst hi; simp [Addr.add]
      · rw [add_off _ _ (by omega)]; simp; omega]
    exact key _ _ q2
theorem ncells_snoc (D : List Nd) (x : Nd) : ncells D ++ [.int .i64 x.1, .int .i64 x.2] = ncells (D ++ [x]) := by rw [ncells_append]; rfl

end Go.Proofs.Yteknfglfbkknaaa.Kinds
