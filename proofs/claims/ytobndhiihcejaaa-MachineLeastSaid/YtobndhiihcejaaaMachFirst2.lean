/-
  A Skip at the beginning, as the law asks (plain); nodes put behind a literal, in a region that draws its order.
-/
import Derived.Test.YtobndhiihcejaaaMachLawA
import Derived.Test.YtobndhiihcejaaaMachG
import Derived.Deep.RegionLaw
import Derived.Deep.AppendLies
set_option linter.unusedVariables false
set_option linter.unusedSimpArgs false
namespace Go.Proofs.Ytobndhiihcejaaa.Mach
open Go.RowKit Mem _root_.Go.Proofs.Ytobndhiihcejaaa.Arena _root_.Go.Proofs.Ytobndhiihcejaaa.Kinds _root_.Go.Proofs.Ytobndhiihcejaaa.Path _root_.Go.Proofs.Ytobndhiihcejaaa.Cat _root_.Go.Proofs.Ytobndhiihcejaaa.Suite _root_.Go.Proofs.Ytobndhiihcejaaa.Delta

theorem first_of {ps : Int} {vs args : List Int} {f N t : Int} {r : List Nd} (h : mcheck ps vs ((t, N) :: r) args.length f = 0) (hf : 1 ≤ f) (hf2 : f ≤ 9999) (hN : N ≤ 60) :
    t = 20 ∧ 0 ≤ N ∧ mcheck ps vs ((20, N + 1) :: (26, 0) :: r) args.length (f + 1) = 0 ∧
    (rrun ps vs ((20, N + 1) :: (26, 0) :: r) args (f + 1)).kind = (rrun ps vs ((t, N) :: r) args f).kind ∧ (rrun ps vs ((20, N + 1) :: (26, 0) :: r) args (f + 1)).value = (rrun ps vs ((t, N) :: r) args f).value ∧
    (rrun ps vs ((20, N + 1) :: (26, 0) :: r) args (f + 1)).steps = (rrun ps vs ((t, N) :: r) args f).steps + 1 ∧ (rrun ps vs ((20, N + 1) :: (26, 0) :: r) args (f + 1)).ev = (rrun ps vs ((t, N) :: r) args f).ev := by
  have hr := mcheck_zero.1 h
  have ht : t = 20 := hr.tag
  subst ht
  have hw := hr.whole
  have ha : 0 ≤ ar (20, N) := by
    by_cases q : 0 ≤ ar (20, N)
    · exact q
    · rw [scan_bad (by omega)] at hw; cases hw
  obtain ⟨h0, -, haN⟩ := ar_block ha
  rw [scan_good ha, haN, Nat.zero_add, Option.map_eq_some_iff] at hw
  obtain ⟨m, hs, hm⟩ := hw
  have hml : m = r.length := by simpa using hm
  subst hml
  obtain ⟨s1, -⟩ := first_scan h0 (by omega) hs
  have hk := first_kind vs h0 (by omega) hs hr.kind
  have h2 : mcheck ps vs ((20, N + 1) :: (26, 0) :: r) args.length (f + 1) = 0 := mcheck_zero.2 ⟨hr.vars, by simpa using s1, rfl, hk, hr.args, by omega, by omega⟩
  refine ⟨rfl, h0, h2, ?_⟩
  obtain ⟨n, rfl⟩ := Int.eq_ofNat_of_zero_le hr.f0
  rw [rrun_ok h, rrun_ok h2, Int.toNat_natCast, show ((n : Int) + 1).toNat = n + 1 by omega]
  obtain ⟨a1, a2, a3, a4⟩ := run_first vs args n (by omega) h0 (by omega) hs
  exact ⟨a1.symm, a2.symm, a3, a4.symm⟩

/-- Nodes are put behind a row of nodes that the call owns: one step of a region that draws its order. -/
theorem step_append_nds {w : World} {ops : Array Oper} {o : Oper} {a : Act} {K : Act → World → Prop} {Q : Exit → Act → World → Prop} {E : Prop} (hgd : o.guard = none) (s x : Operand)
    (ho : o.op = .call { callee := .builtin .append, args := #[s, x], argTypes := #[23, 23] })
    (base : Nat) (hbase : base ≤ w.heap.size) (v : Value) (ys : List Nd) (hs : a.eval s = v) (hown : w.ownsRow base 44 2 v ys.length (ncells ys))
    (B : Nat) (ad : Addr) (c : Nat) (xs : List Nd) (n : Nat) (hn : xs.length = n) (hx : a.eval x = .slice (some ad) n c) (hN : Nodes w B (some ad) xs) (hlen : ys.length + xs.length ≤ 100000000)
    (h : ∀ v' w', w'.ownsRow base 44 2 v' (ys ++ xs).length (ncells (ys ++ xs)) → w.grownBy w' v.ownBlock → (v'.ownBlock = v.ownBlock ∨ v'.ownBlock = some w.heap.size) → K (a.put o.dst v') w') :
    if Region.wanted o (yielded ops a.tmps) = true then Oper.wp Try.prog o a w K Q else E := by
  have hw : Region.wanted o (yielded ops a.tmps) = true := by simp [Region.wanted, hgd]
  rw [if_pos hw]
  subst hn
  obtain ⟨ig, hig, hz0, hz1, hz2⟩ := info_parts info_node
  obtain ⟨v', w', hr, hown', hg, -, hat⟩ := run_append_own_at (P := Try.prog) w base 23 o.type 44 ig _ 2 16 Try.underlying23 hig hz0 hz1 hz2 rfl (by decide) v ys.length (ncells ys) hown ad xs.length c (ncells xs) (ncells_len xs) hN.cells (by
    intro u hu
    obtain ⟨j, hj⟩ := List.getElem?_of_mem hu
    obtain ⟨x, -, rfl⟩ := ncells_at xs j u hj
    rfl) (by simp only [maxLen]; omega) (by omega) hbase
  unfold Oper.wp execOp
  simp only [ho, resolve, invoke, builtin, Sem.run_bind, Sem.run_pure, Result.andThen_ok, List.map_toArray, List.map_cons, List.map_nil, hs, hx, hr]
  exact h v' w' (by rw [List.length_append, ncells_append]; exact hown') hg hat

end Go.Proofs.Ytobndhiihcejaaa.Mach
