/-
  A row of deltas with their paths: in memory, and as a row that a call owns.
-/
import Derived.Test.YtofhgaioidfdmaaGreatSitesPlain
import Derived.Test.YtofhgaioidfdmaaGreatCatG
set_option linter.unusedVariables false
namespace Go.Proofs.YtofhgaioidfdmaaGreat.Sites
open Go.RowKit Mem _root_.Go.Proofs.YtofhgaioidfdmaaGreat.Arena _root_.Go.Proofs.YtofhgaioidfdmaaGreat.Delta _root_.Go.Proofs.YtofhgaioidfdmaaGreat.Path _root_.Go.Proofs.YtofhgaioidfdmaaGreat.Cat

/-- A delta by value. -/
abbrev dl (P : Option Addr) (c : Nat) (m : Mt) : Dlt := ⟨P, c, m.1, m.2.1, m.2.2⟩
/-- Its cells in a row. -/
def Cem (w : World) (ad : Addr) (j : Nat) (P : Option Addr) (c : Nat) (m : Mt) : Prop :=
  w.cell? (ad.add (j * 3)) = some (.slice P m.1.length c) ∧ w.cell? ⟨(ad.add (j * 3)).block, (ad.add (j * 3)).off + 1, none⟩ = some (.int .i64 m.2.1) ∧ w.cell? ⟨(ad.add (j * 3)).block, (ad.add (j * 3)).off + 2, none⟩ = some (.int .i64 m.2.2)
theorem kept_cell {w w' : World} {B : Nat} {a : Addr} {v : Value} (hb : Below B w w') (ha : a.block < B) (h : w.cell? a = some v) : w'.cell? a = some v := by
  have hk := hb.block a.block ha
  rw [← h]; unfold World.cell?; rw [hk]
theorem Cem.keep {w w' : World} {ad : Addr} {j : Nat} {P : Option Addr} {c : Nat} {m : Mt} {B : Nat} (h : Cem w ad j P c m) (ha : ad.block < B) (hb : Below B w w') : Cem w' ad j P c m := by
  obtain ⟨h1, h2, h3⟩ := h
  exact ⟨kept_cell hb (by rw [add_blockN]; exact ha) h1, kept_cell hb (by show (ad.add (j * 3)).block < _; rw [add_blockN]; exact ha) h2, kept_cell hb (by show (ad.add (j * 3)).block < _; rw [add_blockN]; exact ha) h3⟩
/-- Deltas with their paths, somewhere in memory. -/
def MRow (w : World) (A : Option Addr) (L : List Mt) : Prop :=
  ∀ (i : Nat) (m : Mt), L[i]? = some m → ∃ ad P c, A = some ad ∧ ad.block < w.heap.size ∧ (dl P c m).Ok w ∧ Cem w ad i P c m
theorem MRow.at {w w' : World} {A : Option Addr} {L : List Mt} (h : MRow w A L) (hb : Below w.heap.size w w') : MRow w' A L := by
  intro i m hi
  obtain ⟨ad, P, c, e, h1, h2, h3⟩ := h i m hi
  exact ⟨ad, P, c, e, Nat.lt_of_lt_of_le h1 hb.size, h2.at hb, h3.keep h1 hb⟩
/-- One of the row, as it is read, and stays. -/
theorem MRow.get {w : World} {A : Option Addr} {L : List Mt} (h : MRow w A L) {i : Nat} {m : Mt} (hi : L[i]? = some m) :
    ∃ ad P c, A = some ad ∧ ∀ W, Below w.heap.size w W → (dl P c m).Ok W ∧ Cem W ad i P c m := by
  obtain ⟨ad, P, c, e, h1, h2, h3⟩ := h i m hi
  exact ⟨ad, P, c, e, fun W hb => ⟨h2.at hb, h3.keep h1 hb⟩⟩

def mcell (z : Option Addr × Nat) (m : Mt) : List Value := [.slice z.1 m.1.length z.2, .int .i64 m.2.1, .int .i64 m.2.2]
def mcells (Y : List ((Option Addr × Nat) × Mt)) : List Value := Y.flatMap fun y => mcell y.1 y.2
theorem mcells_snoc (Y : List ((Option Addr × Nat) × Mt)) (y : (Option Addr × Nat) × Mt) : mcells (Y ++ [y]) = mcells Y ++ mcell y.1 y.2 := by simp [mcells]
theorem mcells_get : ∀ (Y : List ((Option Addr × Nat) × Mt)) (i : Nat) (y : (Option Addr × Nat) × Mt), Y[i]? = some y → (mcells Y)[i * 3]? = some (.slice y.1.1 y.2.1.length y.1.2) ∧ (mcells Y)[i * 3 + 1]? = some (.int .i64 y.2.2.1) ∧ (mcells Y)[i * 3 + 2]? = some (.int .i64 y.2.2.2)
  | [], i, b, h => by simp at h
  | x :: l, 0, b, h => by
    obtain rfl : x = b := by simpa using h
    exact ⟨rfl, rfl, rfl⟩
  | x :: l, i + 1, b, h => by
    obtain ⟨h1, h2, h3⟩ := mcells_get l i b (by simpa using h)
    have e : mcells (x :: l) = mcell x.1 x.2 ++ mcells l := rfl
    have e3 : (mcell x.1 x.2).length = 3 := rfl
    rw [e]
    refine ⟨?_, ?_, ?_⟩
    · rw [List.getElem?_append_right (by rw [e3]; omega), e3, ← h1]; congr 1; omega
    · rw [List.getElem?_append_right (by rw [e3]; omega), e3, ← h2]; congr 1; omega
    · rw [List.getElem?_append_right (by rw [e3]; omega), e3, ← h3]; congr 1; omega

/-- A row that the call owns; its paths lie elsewhere. -/
def MOwn (w : World) (base : Nat) (v : Value) (L : List Mt) : Prop :=
  ∃ Y : List ((Option Addr × Nat) × Mt), Y.map (·.2) = L ∧ w.ownsRow base 34 3 v L.length (mcells Y) ∧ ∀ y ∈ Y, (dl y.1.1 y.1.2 y.2).Ok w ∧ (y.2.1 ≠ [] → ∀ ad, y.1.1 = some ad → v.ownBlock ≠ some ad.block)
theorem MOwn.nil (w : World) (base : Nat) : MOwn w base (.slice none 0 0) [] := ⟨[], rfl, World.ownsRow_nil _ _ _ _, fun y h => by cases h⟩
theorem MOwn.lt {w : World} {base : Nat} {v : Value} {L : List Mt} (h : MOwn w base v L) : ∀ k, v.ownBlock = some k → base ≤ k ∧ k < w.heap.size := by
  obtain ⟨Y, -, h2, -⟩ := h
  exact fun k e => h2.lt k e
theorem MOwn.below {w w' : World} {base : Nat} {v : Value} {L : List Mt} (h : MOwn w base v L) (hb : Below w.heap.size w w') : MOwn w' base v L := by
  obtain ⟨Y, h1, h2, h3⟩ := h
  exact ⟨Y, h1, own_kept h2 hb, fun y hy => ⟨(h3 y hy).1.at hb, (h3 y hy).2⟩⟩
theorem irow_grown {w w' : World} {A : Option Addr} {p : List Int} {row : Option Nat} (h : IRow w w.heap.size A p) (hg : w.grownBy w' row) (hn : p ≠ [] → ∀ ad, A = some ad → row ≠ some ad.block) : IRow w' w'.heap.size A p := by
  intro i x hx
  obtain ⟨ad, e, h1, h3⟩ := h i x hx
  have hp : p ≠ [] := fun e => by rw [e] at hx; simp at hx
  refine ⟨ad, e, Nat.lt_of_lt_of_le h1 hg.size, ?_⟩
  have hb : (ad.add i).block = ad.block := add_blockN _ _
  rw [← h3]
  exact World.cell?_of_block (by rw [hb]; exact hg.block _ h1 (fun z => hn hp ad e z.symm))
theorem MOwn.mrow {w : World} {base : Nat} {v : Value} {L : List Mt} (h : MOwn w base v L) : ∃ A c, v = .slice A L.length c ∧ L.length ≤ c ∧ (A = none → c = 0) ∧ MRow w A L := by
  obtain ⟨Y, hY, h, hok⟩ := h
  have hc := fun g hg => h.cells (g := g) hg
  have hlen : L.length = Y.length := by rw [← hY, List.length_map]
  rcases h.2 with ⟨rfl, h0⟩ | ⟨g, cap, cur, rfl, -, hg, hn, -⟩
  · obtain rfl := List.length_eq_zero_iff.1 h0
    exact ⟨none, 0, rfl, Nat.le_refl _, fun _ => rfl, fun i m h => by simp at h⟩
  · refine ⟨_, _, rfl, hn, fun e => (by cases e), fun i m hm => ?_⟩
    have hi : i < Y.length := by have := (List.getElem?_eq_some_iff.1 hm).1; omega
    obtain ⟨y, hy⟩ : ∃ y, Y[i]? = some y := ⟨_, List.getElem?_eq_getElem hi⟩
    have hym : y.2 = m := by
      rw [← hY, List.getElem?_map, hy] at hm
      exact Option.some.inj hm
    subst hym
    obtain ⟨q1, q2, q3⟩ := mcells_get Y i y hy
    refine ⟨_, y.1.1, y.1.2, rfl, (Array.getElem?_eq_some_iff.1 hg).1, (hok y (List.mem_of_getElem? hy)).1, ?_, ?_, ?_⟩
    · exact hc g rfl _ _ q1
    · have := hc g rfl _ _ q2
      rw [add_off _ _ (by omega)] at this
      rw [← this]
      congr 1
      rcases Nat.eq_zero_or_pos i with rfl | hi
      · simp [Addr.add]
      · rw [add_off _ _ (by omega)]; simp
    · have := hc g rfl _ _ q3
      rw [add_off _ _ (by omega)] at this
      rw [← this]
      congr 1
      rcases Nat.eq_zero_or_pos i with rfl | hi
      · simp [Addr.add]
      · rw [add_off _ _ (by omega)]; simp

/-- A delta is put behind a row of deltas that the call owns: as it runs. -/
theorem run_append_mt (w : World) (ty : TypeId) (base : Nat) (hbase : base ≤ w.heap.size) (v : Value) (L : List Mt) (hown : MOwn w base v L)
    (g : Nat) (z : Option Addr × Nat) (m : Mt) (hb : Blk w g 34 (mcell z m).toArray) (hlen : L.length + 1 ≤ 100000000)
    (hok : (dl z.1 z.2 m).Ok w) (hne : m.1 ≠ [] → ∀ ad, z.1 = some ad → v.ownBlock ≠ some ad.block) :
    ∃ v' w', (Builtin.append_ #[28, 28] ty #[v, .slice (some ⟨g, 0, none⟩) 1 1]).run Tryz.prog w = .ok v' w' ∧ MOwn w' base v' (L ++ [m]) ∧ w.grownBy w' v.ownBlock ∧ (v'.ownBlock = v.ownBlock ∨ v'.ownBlock = some w.heap.size) := by
  obtain ⟨Y, hY, hO, hYok⟩ := hown
  obtain ⟨ig, hig, hz0, hz1, hz2⟩ := info_parts info_delta
  obtain ⟨v', w', hr, hown', hg, -, hat⟩ := run_append_own_at (P := Tryz.prog) w base 28 ty 34 ig _ 3 40 Tryz.underlying28 hig hz0 hz1 hz2 rfl (by decide) v L.length (mcells Y) hO ⟨g, 0, none⟩ 1 1 (mcell z m) rfl (by
    intro j u hu
    have := hb.cell j
    rw [show (⟨g, 0, none⟩ : Addr).add j = ⟨g, j, none⟩ by unfold Addr.add; split <;> simp_all]
    rw [this]
    simpa using hu) (by
    intro u hu
    unfold mcell at hu
    simp only [List.mem_cons, List.not_mem_nil, or_false] at hu
    rcases hu with rfl | rfl | rfl <;> rfl) (by simp only [maxLen]; omega) (by omega) hbase
  refine ⟨v', w', hr, ⟨Y ++ [(z, m)], by rw [List.map_append, hY]; rfl, by rw [mcells_snoc, List.length_append]; exact hown', fun y hy => ?_⟩, hg, hat⟩
  have key : (dl y.1.1 y.1.2 y.2).Ok w ∧ (y.2.1 ≠ [] → ∀ ad, y.1.1 = some ad → v.ownBlock ≠ some ad.block) := by
    rcases List.mem_append.1 hy with hy | hy
    · exact hYok y hy
    · rw [List.mem_singleton] at hy; subst hy; exact ⟨hok, hne⟩
  obtain ⟨k1, k2⟩ := key
  refine ⟨⟨irow_grown k1.path hg k2, k1.len, k1.cap, k1.none⟩, fun hp ad e => ?_⟩
  rcases hat with q | q
  · rw [q]; exact k2 hp ad e
  · rw [q]
    intro zz
    have z' : w.heap.size = ad.block := Option.some.inj zz
    obtain ⟨x0, r, hxr⟩ : ∃ x0 r, y.2.1 = x0 :: r := by
      cases hq : y.2.1 with
      | nil => exact absurd hq hp
      | cons x0 r => exact ⟨x0, r, rfl⟩
    obtain ⟨ad', e', hb', -⟩ := k1.path 0 x0 (by show y.2.1[0]? = some x0; rw [hxr]; rfl)
    have e2 : some ad = some ad' := e.symm.trans e'
    cases e2
    omega
/-- At a step of a region that draws its order. -/
theorem step_append_mt {w : World} {ops : Array Oper} {o : Oper} {a : Act} {K : Act → World → Prop} {Q : Exit → Act → World → Prop} {E : Prop} (hgd : o.guard = none) (s x : Operand)
    (ho : o.op = .call { callee := .builtin .append, args := #[s, x], argTypes := #[28, 28] })
    (base : Nat) (hbase : base ≤ w.heap.size) (v : Value) (L : List Mt) (hs : a.eval s = v) (hown : MOwn w base v L)
    (g : Nat) (z : Option Addr × Nat) (m : Mt) (hx : a.eval x = .slice (some ⟨g, 0, none⟩) 1 1) (hb : Blk w g 34 (mcell z m).toArray) (hlen : L.length + 1 ≤ 100000000)
    (hok : (dl z.1 z.2 m).Ok w) (hne : m.1 ≠ [] → ∀ ad, z.1 = some ad → v.ownBlock ≠ some ad.block)
    (h : ∀ v' w', MOwn w' base v' (L ++ [m]) → w.grownBy w' v.ownBlock → (v'.ownBlock = v.ownBlock ∨ v'.ownBlock = some w.heap.size) → K (a.put o.dst v') w') :
    if Region.wanted o (yielded ops a.tmps) = true then Oper.wp Tryz.prog o a w K Q else E := by
  have hw : Region.wanted o (yielded ops a.tmps) = true := by simp [Region.wanted, hgd]
  rw [if_pos hw]
  obtain ⟨v', w', hr, h1, h2, h3⟩ := run_append_mt w o.type base hbase v L hown g z m hb hlen hok hne
  unfold Oper.wp execOp
  simp only [ho, resolve, invoke, builtin, Sem.run_bind, Sem.run_pure, Result.andThen_ok, List.map_toArray, List.map_cons, List.map_nil, hs, hx, hr]
  exact h v' w' h1 h2 h3

/-- What a loop over a row of choices holds: all that have come, the path, and the row of choices. -/
structure MJ (w0 : World) (o : Value) (L : List Mt) (PA : Option Addr) (pc : Nat) (p : List Int) (CA : Option Addr) (bs : List (Int × Int)) (W : World) : Prop where
  own : MOwn W w0.heap.size o L
  below : Below w0.heap.size w0 W
  path : IRow W W.heap.size PA p
  row : DRow W W.heap.size CA bs
  farp : p ≠ [] → ∀ ad, PA = some ad → o.ownBlock ≠ some ad.block
  farc : bs ≠ [] → ∀ ad, CA = some ad → o.ownBlock ≠ some ad.block
theorem ne_cons {α : Type} {l : List α} (h : l ≠ []) : ∃ x r, l = x :: r := by
  cases l with
  | nil => exact absurd rfl h
  | cons x r => exact ⟨x, r, rfl⟩
theorem drow_grown {w w' : World} {A : Option Addr} {l : List (Int × Int)} {row : Option Nat} (h : DRow w w.heap.size A l) (hg : w.grownBy w' row) (hn : l ≠ [] → ∀ ad, A = some ad → row ≠ some ad.block) : DRow w' w'.heap.size A l := by
  intro i b hi
  obtain ⟨ad, P, c, e, h1, h2, h3, h4, h5⟩ := h i b hi
  have hl : l ≠ [] := fun e => by rw [e] at hi; simp at hi
  have hb : (ad.add (i * 3)).block = ad.block := add_blockN _ _
  have hk := hg.block ad.block h1 (fun z => hn hl ad e z.symm)
  refine ⟨ad, P, c, e, Nat.lt_of_lt_of_le h1 hg.size, h2, ?_, ?_, ?_⟩
  · rw [← h3]; exact World.cell?_of_block (by rw [hb]; exact hk)
  · rw [← h4]; exact World.cell?_of_block (by show w'.heap[(ad.add (i * 3)).block]? = _; rw [hb]; exact hk)
  · rw [← h5]; exact World.cell?_of_block (by show w'.heap[(ad.add (i * 3)).block]? = _; rw [hb]; exact hk)
theorem MJ.at {w0 : World} {o : Value} {L : List Mt} {PA : Option Addr} {pc : Nat} {p : List Int} {CA : Option Addr} {bs : List (Int × Int)} {W X : World} (h : MJ w0 o L PA pc p CA bs W) (k : Below W.heap.size W X) : MJ w0 o L PA pc p CA bs X :=
  ⟨h.own.below k, h.below.trans (k.mono h.below.size), h.path.at k, h.row.at k, h.farp, h.farc⟩
/-- One more has come. -/
theorem MJ.step {w0 : World} {o : Value} {L : List Mt} {PA : Option Addr} {pc : Nat} {p : List Int} {CA : Option Addr} {bs : List (Int × Int)} {X X7 : World} (h : MJ w0 o L PA pc p CA bs X) {m : Mt} {v7 : Value}
    (hown : MOwn X7 w0.heap.size v7 (L ++ [m])) (hgr : X.grownBy X7 o.ownBlock) (hat : v7.ownBlock = o.ownBlock ∨ v7.ownBlock = some X.heap.size) : MJ w0 v7 (L ++ [m]) PA pc p CA bs X7 := by
  refine ⟨hown, h.below.grown hgr h.below.size (fun k e => (h.own.lt k e).1), irow_grown h.path hgr h.farp, drow_grown h.row hgr h.farc, fun hp ad e => ?_, fun hc ad e => ?_⟩
  · rcases hat with q | q
    · rw [q]; exact h.farp hp ad e
    · rw [q]
      intro zz
      have z' : X.heap.size = ad.block := Option.some.inj zz
      obtain ⟨x, r, hx⟩ := ne_cons hp
      obtain ⟨ad', e', hb', -⟩ := h.path 0 x (by rw [hx]; rfl)
      have e2 : some ad = some ad' := e.symm.trans e'
      cases e2
      omega
  · rcases hat with q | q
    · rw [q]; exact h.farc hc ad e
    · rw [q]
      intro zz
      have z' : X.heap.size = ad.block := Option.some.inj zz
      obtain ⟨x, r, hx⟩ := ne_cons hc
      obtain ⟨ad', P, c, e', hb', -⟩ := h.row 0 x (by rw [hx]; rfl)
      have e2 : some ad = some ad' := e.symm.trans e'
      cases e2
      omega

end Go.Proofs.YtofhgaioidfdmaaGreat.Sites
