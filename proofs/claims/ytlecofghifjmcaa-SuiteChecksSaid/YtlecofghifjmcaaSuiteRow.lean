/-
  Tests, in memory: a row of rows of numbers; and as a row that a call owns.
-/
import Derived.Test.YtlecofghifjmcaaSuiteMath
import Derived.Test.YtlecofghifjmcaaArenaH
import Derived.Test.YtlecofghifjmcaaCatG
set_option linter.unusedVariables false
namespace Go.Proofs.Ytlecofghifjmcaa.Suite
open Go.RowKit Mem _root_.Go.Proofs.Ytlecofghifjmcaa.Arena _root_.Go.Proofs.Ytlecofghifjmcaa.Delta _root_.Go.Proofs.Ytlecofghifjmcaa.Path _root_.Go.Proofs.Ytlecofghifjmcaa.Cat

/-- One test: a row of numbers, by value. -/
structure TOk (w : World) (P : Option Addr) (c : Nat) (t : List Int) : Prop where
  row : IRow w w.heap.size P t
  cap : t.length ≤ c
  none : P = none → c = 0
theorem TOk.at {w w' : World} {P : Option Addr} {c : Nat} {t : List Int} (h : TOk w P c t) (hb : Below w.heap.size w w') : TOk w' P c t := ⟨h.row.at hb, h.cap, h.none⟩
/-- Tests, somewhere in memory. -/
def TRow (w : World) (A : Option Addr) (ts : List (List Int)) : Prop :=
  ∀ (i : Nat) (t : List Int), ts[i]? = some t → ∃ ad P c, A = some ad ∧ ad.block < w.heap.size ∧ TOk w P c t ∧ w.cell? (ad.add i) = some (.slice P t.length c)
theorem TRow.nil (w : World) (A : Option Addr) : TRow w A [] := fun i t h => by simp at h
theorem TRow.at {w w' : World} {A : Option Addr} {ts : List (List Int)} (h : TRow w A ts) (hb : Below w.heap.size w w') : TRow w' A ts := by
  intro i t hi
  obtain ⟨ad, P, c, e, h1, h2, h3⟩ := h i t hi
  refine ⟨ad, P, c, e, Nat.lt_of_lt_of_le h1 hb.size, h2.at hb, ?_⟩
  rw [← h3]
  exact World.cell?_of_block (by rw [add_blockN]; exact hb.block _ h1)
/-- One of them, as it is read, and stays. -/
theorem TRow.get {w : World} {A : Option Addr} {ts : List (List Int)} (h : TRow w A ts) {i : Nat} {t : List Int} (hi : ts[i]? = some t) :
    ∃ ad P c, A = some ad ∧ ∀ W, Below w.heap.size w W → TOk W P c t ∧ W.cell? (ad.add i) = some (.slice P t.length c) := by
  obtain ⟨ad, P, c, e, h1, h2, h3⟩ := h i t hi
  refine ⟨ad, P, c, e, fun W hb => ⟨h2.at hb, ?_⟩⟩
  rw [← h3]
  exact World.cell?_of_block (by rw [add_blockN]; exact hb.block _ h1)

def tcells (Y : List ((Option Addr × Nat) × List Int)) : List Value := Y.map fun y => .slice y.1.1 y.2.length y.1.2
theorem tcells_len (Y : List ((Option Addr × Nat) × List Int)) : (tcells Y).length = Y.length := List.length_map ..
theorem tcells_snoc (Y : List ((Option Addr × Nat) × List Int)) (y : (Option Addr × Nat) × List Int) : tcells (Y ++ [y]) = tcells Y ++ [.slice y.1.1 y.2.length y.1.2] := by simp [tcells]
/-- A row of tests that the call owns; their numbers lie elsewhere. -/
def TOwn (w : World) (base : Nat) (v : Value) (ts : List (List Int)) : Prop :=
  ∃ Y : List ((Option Addr × Nat) × List Int), Y.map (·.2) = ts ∧ w.ownsRow base 34 1 v ts.length (tcells Y) ∧ ∀ y ∈ Y, TOk w y.1.1 y.1.2 y.2 ∧ (y.2 ≠ [] → ∀ ad, y.1.1 = some ad → base ≤ ad.block ∧ v.ownBlock ≠ some ad.block)
theorem TOwn.nil (w : World) (base : Nat) : TOwn w base (.slice none 0 0) [] := ⟨[], rfl, World.ownsRow_nil _ _ _ _, fun y h => by cases h⟩
theorem TOwn.lt {w : World} {base : Nat} {v : Value} {ts : List (List Int)} (h : TOwn w base v ts) : ∀ k, v.ownBlock = some k → base ≤ k ∧ k < w.heap.size := by
  obtain ⟨Y, -, h2, -⟩ := h
  exact fun k e => h2.lt k e
theorem TOwn.below {w w' : World} {base : Nat} {v : Value} {ts : List (List Int)} (h : TOwn w base v ts) (hb : Below w.heap.size w w') : TOwn w' base v ts := by
  obtain ⟨Y, h1, h2, h3⟩ := h
  exact ⟨Y, h1, own_kept h2 hb, fun y hy => ⟨(h3 y hy).1.at hb, (h3 y hy).2⟩⟩
theorem irow_grown' {w w' : World} {A : Option Addr} {p : List Int} {row : Option Nat} (h : IRow w w.heap.size A p) (hg : w.grownBy w' row) (hn : p ≠ [] → ∀ ad, A = some ad → row ≠ some ad.block) : IRow w' w'.heap.size A p := by
  intro i x hx
  obtain ⟨ad, e, h1, h3⟩ := h i x hx
  have hp : p ≠ [] := fun e => by rw [e] at hx; simp at hx
  refine ⟨ad, e, Nat.lt_of_lt_of_le h1 hg.size, ?_⟩
  have hb : (ad.add i).block = ad.block := add_blockN _ _
  rw [← h3]
  exact World.cell?_of_block (by rw [hb]; exact hg.block _ h1 (fun z => hn hp ad e z.symm))
theorem TOwn.trow {w : World} {base : Nat} {v : Value} {ts : List (List Int)} (h : TOwn w base v ts) : ∃ A c, v = .slice A ts.length c ∧ ts.length ≤ c ∧ (A = none → c = 0) ∧ TRow w A ts := by
  obtain ⟨Y, hY, h, hok⟩ := h
  have hc := fun g hg => h.cells (g := g) hg
  have hlen : ts.length = Y.length := by rw [← hY, List.length_map]
  rcases h.2 with ⟨rfl, h0⟩ | ⟨g, cap, cur, rfl, -, hg, hn, -⟩
  · obtain rfl := List.length_eq_zero_iff.1 h0
    exact ⟨none, 0, rfl, Nat.le_refl _, fun _ => rfl, TRow.nil _ _⟩
  · refine ⟨_, _, rfl, hn, fun e => (by cases e), fun i t hm => ?_⟩
    have hi : i < Y.length := by have := (List.getElem?_eq_some_iff.1 hm).1; omega
    obtain ⟨y, hy⟩ : ∃ y, Y[i]? = some y := ⟨_, List.getElem?_eq_getElem hi⟩
    have hym : y.2 = t := by
      rw [← hY, List.getElem?_map, hy] at hm
      exact Option.some.inj hm
    subst hym
    exact ⟨_, y.1.1, y.1.2, rfl, (Array.getElem?_eq_some_iff.1 hg).1, (hok y (List.mem_of_getElem? hy)).1, hc g rfl _ _ (by unfold tcells; rw [List.getElem?_map, hy]; rfl)⟩
theorem cons_of {α : Type} {l : List α} (h : l ≠ []) : ∃ x r, l = x :: r := by
  cases l with
  | nil => exact absurd rfl h
  | cons x r => exact ⟨x, r, rfl⟩
theorem TOwn.kept {S : Nat → Prop} {w w' : World} {base : Nat} {v : Value} {ts : List (List Int)} (h : TOwn w base v ts) (k : Kept S w w') (hS : ∀ i, i < w.heap.size → base ≤ i → ¬ S i) : TOwn w' base v ts := by
  obtain ⟨Y, h1, h2, h3⟩ := h
  refine ⟨Y, h1, own_of_block h2 (fun i hi => k.block i (h2.lt i hi).2 (hS i (h2.lt i hi).2 (h2.lt i hi).1)), fun y hy => ⟨?_, (h3 y hy).2⟩⟩
  obtain ⟨k1, k2⟩ := h3 y hy
  refine ⟨fun i x hx => ?_, k1.cap, k1.none⟩
  obtain ⟨ad, e, hb, hc⟩ := k1.row i x hx
  have hne : y.2 ≠ [] := fun e => by rw [e] at hx; simp at hx
  refine ⟨ad, e, Nat.lt_of_lt_of_le hb k.size, ?_⟩
  rw [← hc]
  exact World.cell?_of_block (by rw [add_blockN]; exact k.block _ hb (hS _ hb (k2 hne ad e).1))

theorem info_ints : (Try.prog.info? 34).map (fun i => (i.zero, i.size, i.bytes)) = some (some (.slice none 0 0), 1, 24) := by kernel_rfl
/-- A test is put behind a row of tests that the call owns: as it runs. -/
theorem run_append_test (w : World) (ty : TypeId) (base : Nat) (hbase : base ≤ w.heap.size) (v : Value) (ts : List (List Int)) (hown : TOwn w base v ts)
    (g : Nat) (P : Option Addr) (c : Nat) (t : List Int) (hb : Blk w g 34 #[.slice P t.length c]) (hlen : ts.length + 1 ≤ 100000000)
    (hok : TOk w P c t) (hne : t ≠ [] → ∀ ad, P = some ad → base ≤ ad.block ∧ v.ownBlock ≠ some ad.block) :
    ∃ v' w', (Builtin.append_ #[22, 22] ty #[v, .slice (some ⟨g, 0, none⟩) 1 1]).run Try.prog w = .ok v' w' ∧ TOwn w' base v' (ts ++ [t]) ∧ w.grownBy w' v.ownBlock ∧ (v'.ownBlock = v.ownBlock ∨ v'.ownBlock = some w.heap.size) := by
  obtain ⟨Y, hY, hO, hYok⟩ := hown
  obtain ⟨ig, hig, hz0, hz1, hz2⟩ := info_parts info_ints
  obtain ⟨v', w', hr, hown', hg, -, hat⟩ := run_append_own_at (P := Try.prog) w base 22 ty 34 ig _ 1 24 Try.underlying22 hig hz0 hz1 hz2 rfl (by decide) v ts.length (tcells Y) hO ⟨g, 0, none⟩ 1 1 [.slice P t.length c] rfl (by
    intro j u hu
    have := hb.cell j
    rw [show (⟨g, 0, none⟩ : Addr).add j = ⟨g, j, none⟩ by unfold Addr.add; split <;> simp_all]
    rw [this]
    simpa using hu) (by
    intro u hu
    simp only [List.mem_cons, List.not_mem_nil, or_false] at hu
    subst hu; rfl) (by simp only [maxLen]; omega) (by omega) hbase
  refine ⟨v', w', hr, ⟨Y ++ [((P, c), t)], by rw [List.map_append, hY]; rfl, by rw [tcells_snoc, List.length_append]; exact hown', fun y hy => ?_⟩, hg, hat⟩
  have key : TOk w y.1.1 y.1.2 y.2 ∧ (y.2 ≠ [] → ∀ ad, y.1.1 = some ad → base ≤ ad.block ∧ v.ownBlock ≠ some ad.block) := by
    rcases List.mem_append.1 hy with hy | hy
    · exact hYok y hy
    · rw [List.mem_singleton] at hy; subst hy; exact ⟨hok, hne⟩
  obtain ⟨k1, k2⟩ := key
  refine ⟨⟨irow_grown' k1.row hg (fun q ad e => (k2 q ad e).2), k1.cap, k1.none⟩, fun hp ad e => ⟨(k2 hp ad e).1, ?_⟩⟩
  rcases hat with q | q
  · rw [q]; exact (k2 hp ad e).2
  · rw [q]
    intro zz
    have z' : w.heap.size = ad.block := Option.some.inj zz
    obtain ⟨x0, r, hxr⟩ := cons_of hp
    obtain ⟨ad', e', hb', -⟩ := k1.row 0 x0 (by rw [hxr]; rfl)
    have e2 : some ad = some ad' := e.symm.trans e'
    cases e2
    omega
/-- At the list of a plain region. -/
theorem append_test {w : World} {ops : Array Oper} {rest : List Oper} {o : Oper} {a : Act} {Q : Exit → Act → World → Prop} (hgd : o.guard = none) (s x : Operand)
    (ho : o.op = .call { callee := .builtin .append, args := #[s, x], argTypes := #[22, 22] })
    (base : Nat) (hbase : base ≤ w.heap.size) (v : Value) (ts : List (List Int)) (hs : a.eval s = v) (hown : TOwn w base v ts)
    (g : Nat) (P : Option Addr) (c : Nat) (t : List Int) (hx : a.eval x = .slice (some ⟨g, 0, none⟩) 1 1) (hb : Blk w g 34 #[.slice P t.length c]) (hlen : ts.length + 1 ≤ 100000000)
    (hok : TOk w P c t) (hne : t ≠ [] → ∀ ad, P = some ad → base ≤ ad.block ∧ v.ownBlock ≠ some ad.block)
    (h : ∀ v' w', TOwn w' base v' (ts ++ [t]) → w.grownBy w' v.ownBlock → (v'.ownBlock = v.ownBlock ∨ v'.ownBlock = some w.heap.size) → wpList Try.prog ops Q rest (a.put o.dst v') w') :
    wpList Try.prog ops Q (o :: rest) a w := by
  obtain ⟨v', w', hr, h1, h2, h3⟩ := run_append_test w o.type base hbase v ts hown g P c t hb hlen hok hne
  refine wpList_plain hgd fun K hK => ?_
  unfold Oper.wp execOp
  simp only [ho, resolve, invoke, builtin, Sem.run_bind, Sem.run_pure, Result.andThen_ok, List.map_toArray, List.map_cons, List.map_nil, hs, hx, hr]
  exact hK _ _ (h v' w' h1 h2 h3)

end Go.Proofs.Ytlecofghifjmcaa.Suite
