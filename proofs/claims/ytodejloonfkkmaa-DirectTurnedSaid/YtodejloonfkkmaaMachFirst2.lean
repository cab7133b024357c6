/-
  A Skip at the beginning, as the law asks (plain); nodes put behind a literal, in a region that draws its order.
-/
import Derived.Test.YtodejloonfkkmaaMachLawA
import Derived.Test.YtodejloonfkkmaaMachG
import Derived.Deep.RegionLaw
import Derived.Deep.AppendLies
set_option linter.unusedVariables false
set_option linter.unusedSimpArgs false
namespace Go.Proofs.Ytodejloonfkkmaa.Mach
open Go.RowKit Mem _root_.Go.Proofs.Ytodejloonfkkmaa.Arena _root_.Go.Proofs.Ytodejloonfkkmaa.Kinds _root_.Go.Proofs.Ytodejloonfkkmaa.Path _root_.Go.Proofs.Ytodejloonfkkmaa.Cat _root_.Go.Proofs.Ytodejloonfkkmaa.Suite _root_.Go.Proofs.Ytodejloonfkkmaa.Delta

/-- Nodes are put behind a row of nodes that the call owns: one step of a region that draws its order. -/
theorem step_append_nds {w : World} {ops : Array Oper} {o : Oper} {a : Act} {K : Act → World → Prop} {Q : Exit → Act → World → Prop} {E : Prop} (hgd : o.guard = none) (s x : Operand)
    (ho : o.op = .call { callee := .builtin .append, args := #[s, x], argTypes := #[23, 23] })
    (base : Nat) (hbase : base ≤ w.heap.size) (v : Value) (ys : List Nd) (hs : a.eval s = v) (hown : w.ownsRow base 39 2 v ys.length (ncells ys))
    (B : Nat) (ad : Addr) (c : Nat) (xs : List Nd) (n : Nat) (hn : xs.length = n) (hx : a.eval x = .slice (some ad) n c) (hN : Nodes w B (some ad) xs) (hlen : ys.length + xs.length ≤ 100000000)
    (h : ∀ v' w', w'.ownsRow base 39 2 v' (ys ++ xs).length (ncells (ys ++ xs)) → w.grownBy w' v.ownBlock → (v'.ownBlock = v.ownBlock ∨ v'.ownBlock = some w.heap.size) → K (a.put o.dst v') w') :
    if Region.wanted o (yielded ops a.tmps) = true then Oper.wp Try.prog o a w K Q else E := by
  have hw : Region.wanted o (yielded ops a.tmps) = true := by simp [Region.wanted, hgd]
  rw [if_pos hw]
  subst hn
  obtain ⟨ig, hig, hz0, hz1, hz2⟩ := info_parts info_node
  obtain ⟨v', w', hr, hown', hg, -, hat⟩ := run_append_own_at (P := Try.prog) w base 23 o.type 39 ig _ 2 16 Try.underlying23 hig hz0 hz1 hz2 rfl (by decide) v ys.length (ncells ys) hown ad xs.length c (ncells xs) (ncells_len xs) hN.cells (by
    intro u hu
    obtain ⟨j, hj⟩ := List.getElem?_of_mem hu
    obtain ⟨x, -, rfl⟩ := ncells_at xs j u hj
    rfl) (by simp only [maxLen]; omega) (by omega) hbase
  unfold Oper.wp execOp
  simp only [ho, resolve, invoke, builtin, Sem.run_bind, Sem.run_pure, Result.andThen_ok, List.map_toArray, List.map_cons, List.map_nil, hs, hx, hr]
  exact h v' w' (by rw [List.length_append, ncells_append]; exact hown') hg hat

end Go.Proofs.Ytodejloonfkkmaa.Mach
