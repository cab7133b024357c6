/-
  A run's state, in memory: a struct, its variables, its arrays, its events, each in a block of its own.
  The reference of machine, walked: stop, an event stored, truth, two values.
  The reference of machine, walked: truth, and an operation on two values.
  The reference of machine, walked: a node is entered: over, out of fuel, nodes without kids.
  The reference of machine, walked: nodes with one kid whose value is turned.
  The reference of machine, walked: and, or, if, return.
-/
import Derived.Test.YtodejloonfkkmaaMachG
import Derived.Test.YtodejloonfkkmaaSuiteG
import Derived.Test.YtodejloonfkkmaaKindsG
import Derived.Deep.CutBlock
import Derived.Deep.CutRange
import Derived.Deep.QuietTactic
set_option linter.unusedVariables false
namespace Go.Proofs.Ytodejloonfkkmaa.Mach
open Go.RowKit Mem _root_.Go.Proofs.Ytodejloonfkkmaa.Arena _root_.Go.Proofs.Ytodejloonfkkmaa.Kinds _root_.Go.Proofs.Ytodejloonfkkmaa.Path _root_.Go.Proofs.Ytodejloonfkkmaa.Cat _root_.Go.Proofs.Ytodejloonfkkmaa.Suite

/-- One element of a row that a call owns is put in. -/
theorem own_put {w : World} {base : Nat} {e : TypeId} {v : Value} {n : Nat} {xs : List Value} {g i : Nat} {x : Value} (h : w.ownsRow base e 1 v n xs) (hg : v.ownBlock = some g) (hi : i < xs.length) : (w.setCell ⟨g, i, none⟩ x).ownsRow base e 1 v n (xs.set i x) := by
  refine ⟨by rw [List.length_set]; exact h.1, ?_⟩
  rcases h.2 with ⟨rfl, -⟩ | ⟨g', cap, cur, rfl, hb, hgg, hn, hm, hs, ht⟩
  · cases hg
  · obtain rfl : g' = g := by
      unfold Value.ownBlock at hg
      exact Option.some.inj hg
    have hB : Blk w g' e cur := hgg
    refine .inr ⟨g', cap, cur.setIfInBounds i x, rfl, hb, hB.set i x, hn, hm, by rw [Array.size_setIfInBounds]; exact hs, ?_⟩
    rw [Array.toList_setIfInBounds, List.take_set, ht]
/-- A row that a call owns: its block, where it has elements. -/
theorem own_block {w : World} {base : Nat} {e : TypeId} {v : Value} {n m : Nat} {xs : List Value} (h : w.ownsRow base e m v n xs) (hn : 0 < n) : ∃ b cap, v = .slice (some ⟨b, 0, none⟩) n cap ∧ v.ownBlock = some b := by
  rcases h.2 with ⟨-, h0⟩ | ⟨g', cap, cur, rfl, -⟩
  · omega
  · exact ⟨g', cap, rfl, rfl⟩
/-- An event's cells. -/
def ecell (e : Int × Int × Int) : List Value := [.int .i64 e.1, .int .i64 e.2.1, .int .i64 e.2.2]
def ecells (l : List (Int × Int × Int)) : List Value := l.flatMap ecell
theorem ecells_snoc (l : List (Int × Int × Int)) (e : Int × Int × Int) : ecells (l ++ [e]) = ecells l ++ ecell e := by simp [ecells]

/-- The blocks of a state are told by labels: 1 the struct, 2 the variables, 3 the row of arrays, 4 the events, 5 and so on the arrays; 0: none of its. -/
structure Labels (κ : Nat → Nat) (g : Nat) (vv av evv : Value) (Y : List ((Option Addr × Nat) × List Int)) (base top : Nat) : Prop where
  g : κ g = 1
  v : ∀ k, vv.ownBlock = some k → κ k = 2
  a : ∀ k, av.ownBlock = some k → κ k = 3
  e : ∀ k, evv.ownBlock = some k → κ k = 4
  y : ∀ (i : Nat) (y : (Option Addr × Nat) × List Int) (k : Nat), Y[i]? = some y → (Value.slice y.1.1 y.2.length y.1.2).ownBlock = some k → κ k = 5 + i
  lt : ∀ k, κ k ≠ 0 → base ≤ k ∧ k < top
/-- A state's cells. -/
def stcells (p : Prg) (vv av evv : Value) (s : St) : Array Value :=
  #[.int .i64 p.ps, .slice p.A p.vs.length p.c, .slice p.B p.xs.length p.e, vv, av, .int .i64 s.fuel, .int .i64 s.steps, evv, .int .i64 s.kind, .int .i64 s.value, .bool s.over]
/-- A state, in memory. -/
structure SM (T : TypeId) (base g : Nat) (κ : Nat → Nat) (p : Prg) (vv av evv : Value) (Y : List ((Option Addr × Nat) × List Int)) (s : St) (W : World) : Prop where
  lab : Labels κ g vv av evv Y base W.heap.size
  blk : Blk W g T (stcells p vv av evv s)
  vr : W.ownsRow base 3 1 vv s.vals.length (icells s.vals)
  ar : W.ownsRow base 22 1 av s.arrs.length (tcells Y)
  hY : Y.map (·.2) = s.arrs
  yr : ∀ (i : Nat) (y : (Option Addr × Nat) × List Int), Y[i]? = some y → W.ownsRow base 3 1 (.slice y.1.1 y.2.length y.1.2) y.2.length (icells y.2)
  er : W.ownsRow base 64 3 evv s.ev.length (ecells s.ev)
section
variable {T : TypeId} {base g : Nat} {κ : Nat → Nat} {p : Prg} {vv av evv : Value} {Y : List ((Option Addr × Nat) × List Int)} {s : St} {W W' : World}
/-- All its blocks are as they were. -/
theorem SM.move (h : SM T base g κ p vv av evv Y s W) (hs : W.heap.size ≤ W'.heap.size) (hb : ∀ k, κ k ≠ 0 → W'.heap[k]? = W.heap[k]?) : SM T base g κ p vv av evv Y s W' where
  lab := { h.lab with lt := fun k q => ⟨(h.lab.lt k q).1, Nat.lt_of_lt_of_le (h.lab.lt k q).2 hs⟩ }
  blk := (hb g (by rw [h.lab.g]; decide)).trans h.blk
  vr := own_of_block h.vr fun k e => hb k (by rw [h.lab.v k e]; decide)
  ar := own_of_block h.ar fun k e => hb k (by rw [h.lab.a k e]; decide)
  hY := h.hY
  yr := fun i y q => own_of_block (h.yr i y q) fun k e => hb k (by rw [h.lab.y i y k q e]; omega)
  er := own_of_block h.er fun k e => hb k (by rw [h.lab.e k e]; decide)
theorem SM.below (h : SM T base g κ p vv av evv Y s W) (hb : Below W.heap.size W W') : SM T base g κ p vv av evv Y s W' :=
  h.move hb.size fun k q => hb.block k (h.lab.lt k q).2
theorem SM.grown {row : Option Nat} (h : SM T base g κ p vv av evv Y s W) (hg : W.grownBy W' row) (hr : ∀ k, row = some k → κ k = 0) : SM T base g κ p vv av evv Y s W' :=
  h.move hg.size fun k q => hg.block k (h.lab.lt k q).2 fun e => q (hr k e.symm)
theorem SM.glt (h : SM T base g κ p vv av evv Y s W) : base ≤ g ∧ g < W.heap.size := h.lab.lt g (by rw [h.lab.g]; decide)
theorem SM.cell (h : SM T base g κ p vv av evv Y s W) (i : Nat) : W.cell? ⟨g, i, none⟩ = (stcells p vv av evv s)[i]? := h.blk.cell i
/-- A cell of the struct is put in. -/
theorem SM.set_g (h : SM T base g κ p vv av evv Y s W) (i : Nat) (v : Value) {s' : St} (hC : (stcells p vv av evv s).setIfInBounds i v = stcells p vv av evv s') (h1 : s'.vals = s.vals) (h2 : s'.arrs = s.arrs) (h3 : s'.ev = s.ev) : SM T base g κ p vv av evv Y s' (W.setCell ⟨g, i, none⟩ v) := by
  have hb : ∀ k, κ k ≠ 0 → κ k ≠ 1 → (W.setCell ⟨g, i, none⟩ v).heap[k]? = W.heap[k]? := fun k _ q => Below.heap_setCell _ _ _ _ fun z => q (by
    obtain rfl : k = g := by first | exact z | exact z.symm
    exact h.lab.g)
  have B := h.blk.set i v
  rw [hC] at B
  have hsz : W.heap.size ≤ (W.setCell ⟨g, i, none⟩ v).heap.size := by simp
  exact {
    lab := { h.lab with lt := fun k q => ⟨(h.lab.lt k q).1, Nat.lt_of_lt_of_le (h.lab.lt k q).2 hsz⟩ }
    blk := B
    vr := by rw [h1]; exact own_of_block h.vr fun k e => hb k (by rw [h.lab.v k e]; decide) (by rw [h.lab.v k e]; decide)
    ar := by rw [h2]; exact own_of_block h.ar fun k e => hb k (by rw [h.lab.a k e]; decide) (by rw [h.lab.a k e]; decide)
    hY := by rw [h2]; exact h.hY
    yr := fun i y q => own_of_block (h.yr i y q) fun k e => hb k (by rw [h.lab.y i y k q e]; omega) (by rw [h.lab.y i y k q e]; omega)
    er := by rw [h3]; exact own_of_block h.er fun k e => hb k (by rw [h.lab.e k e]; decide) (by rw [h.lab.e k e]; decide) }
theorem SM.fuel (h : SM T base g κ p vv av evv Y s W) {n : Int} {m : Nat} (e : n = m) : SM T base g κ p vv av evv Y { s with fuel := m } (W.setCell ⟨g, 5, none⟩ (.int .i64 n)) := by
  subst e; exact h.set_g 5 _ rfl rfl rfl rfl
theorem SM.steps (h : SM T base g κ p vv av evv Y s W) {n : Int} {m : Nat} (e : n = m) : SM T base g κ p vv av evv Y { s with steps := m } (W.setCell ⟨g, 6, none⟩ (.int .i64 n)) := by
  subst e; exact h.set_g 6 _ rfl rfl rfl rfl
theorem SM.kind (h : SM T base g κ p vv av evv Y s W) (n : Int) : SM T base g κ p vv av evv Y { s with kind := n } (W.setCell ⟨g, 8, none⟩ (.int .i64 n)) := h.set_g 8 _ rfl rfl rfl rfl
theorem SM.value (h : SM T base g κ p vv av evv Y s W) (n : Int) : SM T base g κ p vv av evv Y { s with value := n } (W.setCell ⟨g, 9, none⟩ (.int .i64 n)) := h.set_g 9 _ rfl rfl rfl rfl
theorem SM.over (h : SM T base g κ p vv av evv Y s W) (b : Bool) : SM T base g κ p vv av evv Y { s with over := b } (W.setCell ⟨g, 10, none⟩ (.bool b)) := h.set_g 10 _ rfl rfl rfl rfl
theorem icells_set (l : List Int) (i : Nat) (x : Int) : (icells l).set i (.int .i64 x) = icells (l.set i x) := by unfold icells; rw [List.map_set]
/-- A variable is set. -/
theorem SM.set_v (h : SM T base g κ p vv av evv Y s W) {b i : Nat} (hv : vv.ownBlock = some b) (hi : i < s.vals.length) (x : Int) : SM T base g κ p vv av evv Y { s with vals := s.vals.set i x } (W.setCell ⟨b, i, none⟩ (.int .i64 x)) := by
  have hb : ∀ k, κ k ≠ 0 → κ k ≠ 2 → (W.setCell ⟨b, i, none⟩ (.int .i64 x)).heap[k]? = W.heap[k]? := fun k _ q => Below.heap_setCell _ _ _ _ fun z => q (by
    obtain rfl : k = b := by first | exact z | exact z.symm
    exact h.lab.v _ hv)
  have hsz : W.heap.size ≤ (W.setCell ⟨b, i, none⟩ (.int .i64 x)).heap.size := by simp
  have V := own_put (x := .int .i64 x) h.vr hv (by rw [icells_length]; exact hi)
  rw [icells_set] at V
  exact {
    lab := { h.lab with lt := fun k q => ⟨(h.lab.lt k q).1, Nat.lt_of_lt_of_le (h.lab.lt k q).2 hsz⟩ }
    blk := (hb g (by rw [h.lab.g]; decide) (by rw [h.lab.g]; decide)).trans h.blk
    vr := by show World.ownsRow _ _ _ _ _ (s.vals.set i x).length _; rw [List.length_set]; exact V
    ar := own_of_block h.ar fun k e => hb k (by rw [h.lab.a k e]; decide) (by rw [h.lab.a k e]; decide)
    hY := h.hY
    yr := fun i y q => own_of_block (h.yr i y q) fun k e => hb k (by rw [h.lab.y i y k q e]; omega) (by rw [h.lab.y i y k q e]; omega)
    er := own_of_block h.er fun k e => hb k (by rw [h.lab.e k e]; decide) (by rw [h.lab.e k e]; decide) }
/-- An array's element is set. -/
theorem SM.set_a (h : SM T base g κ p vv av evv Y s W) {b i j : Nat} {y : (Option Addr × Nat) × List Int} (hy : Y[i]? = some y) (hv : (Value.slice y.1.1 y.2.length y.1.2).ownBlock = some b) (hj : j < y.2.length) (x : Int) : SM T base g κ p vv av evv (Y.set i (y.1, y.2.set j x)) { s with arrs := s.arrs.set i (y.2.set j x) } (W.setCell ⟨b, j, none⟩ (.int .i64 x)) := by
  have hb : ∀ k, κ k ≠ 0 → κ k ≠ 5 + i → (W.setCell ⟨b, j, none⟩ (.int .i64 x)).heap[k]? = W.heap[k]? := fun k _ q => Below.heap_setCell _ _ _ _ fun z => q (by
    obtain rfl : k = b := by first | exact z | exact z.symm
    exact h.lab.y i y _ hy hv)
  have hsz : W.heap.size ≤ (W.setCell ⟨b, j, none⟩ (.int .i64 x)).heap.size := by simp
  have V := own_put (x := .int .i64 x) (h.yr i y hy) hv (by rw [icells_length]; exact hj)
  rw [icells_set] at V
  have hi : i < Y.length := (List.getElem?_eq_some_iff.1 hy).1
  have ht : tcells (Y.set i (y.1, y.2.set j x)) = tcells Y := by
    unfold tcells
    rw [List.map_set]
    apply List.ext_getElem?
    intro m
    rw [List.getElem?_set]
    split
    · next q => subst q; rw [if_pos (by rw [List.length_map]; exact hi), List.getElem?_map, hy]; simp
    · rfl
  have hat : ∀ m z, (Y.set i (y.1, y.2.set j x))[m]? = some z → (m = i ∧ z = (y.1, y.2.set j x)) ∨ (m ≠ i ∧ Y[m]? = some z) := fun m z q => by
    rw [List.getElem?_set] at q
    split at q
    · next q1 => exact .inl ⟨q1.symm, (Option.some.inj q).symm⟩
    · next q1 => exact .inr ⟨fun e => q1 e.symm, q⟩
  exact {
    lab := { h.lab with
      y := fun m z k q e => by
        rcases hat m z q with ⟨rfl, rfl⟩ | ⟨-, q⟩
        · exact h.lab.y m y k hy (by rw [← e]; cases y.1.1 <;> rfl)
        · exact h.lab.y m z k q e
      lt := fun k q => ⟨(h.lab.lt k q).1, Nat.lt_of_lt_of_le (h.lab.lt k q).2 hsz⟩ }
    blk := (hb g (by rw [h.lab.g]; decide) (by rw [h.lab.g]; omega)).trans h.blk
    vr := own_of_block h.vr fun k e => hb k (by rw [h.lab.v k e]; decide) (by rw [h.lab.v k e]; omega)
    ar := by
      rw [ht]
      show World.ownsRow _ _ _ _ _ (s.arrs.set i _).length _
      rw [List.length_set]
      exact own_of_block h.ar fun k e => hb k (by rw [h.lab.a k e]; decide) (by rw [h.lab.a k e]; omega)
    hY := by rw [List.map_set, h.hY]
    yr := fun m z q => by
      rcases hat m z q with ⟨rfl, rfl⟩ | ⟨hne, q⟩
      · show World.ownsRow _ _ _ _ (.slice y.1.1 (y.2.set j x).length y.1.2) (y.2.set j x).length _
        rw [List.length_set]; exact V
      · exact own_of_block (h.yr m z q) fun k e => hb k (by rw [h.lab.y m z k q e]; omega) (by rw [h.lab.y m z k q e]; omega)
    er := own_of_block h.er fun k e => hb k (by rw [h.lab.e k e]; decide) (by rw [h.lab.e k e]; omega) }
/-- The labels behind a new event. -/
def relab (κ : Nat → Nat) (evv' : Value) (k : Nat) : Nat := if evv'.ownBlock = some k then 4 else if κ k = 4 then 0 else κ k
/-- An event is put behind the others, and the struct told of it. -/
theorem SM.event (h : SM T base g κ p vv av evv Y s W) {evv' : Value} {e : Int × Int × Int} (hg : W.grownBy W' evv.ownBlock) (hO : W'.ownsRow base 64 3 evv' (s.ev.length + 1) (ecells s.ev ++ ecell e)) (hat : evv'.ownBlock = evv.ownBlock ∨ evv'.ownBlock = some W.heap.size) :
    SM T base g (relab κ evv') p vv av evv' Y { s with ev := s.ev ++ [e] } (W'.setCell ⟨g, 7, none⟩ evv') ∧ ∀ k, relab κ evv' k ≠ 0 → κ k ≠ 0 ∨ W.heap.size ≤ k := by
  have hnew : ∀ k, evv'.ownBlock = some k → κ k = 4 ∨ (k = W.heap.size ∧ κ k = 0) := fun k q => by
    rcases hat with z | z
    · exact .inl (h.lab.e k (z ▸ q))
    · obtain rfl : W.heap.size = k := Option.some.inj (z.symm.trans q)
      refine .inr ⟨rfl, ?_⟩
      by_cases c : κ W.heap.size = 0
      · exact c
      · have := (h.lab.lt _ c).2; omega
  have hre : ∀ k, κ k ≠ 0 → κ k ≠ 4 → relab κ evv' k = κ k := fun k q1 q2 => by
    unfold relab
    rw [if_neg (fun z => by rcases hnew k z with c | ⟨-, c⟩ <;> omega), if_neg q2]
  have hW : ∀ k, κ k ≠ 0 → κ k ≠ 4 → W'.heap[k]? = W.heap[k]? := fun k q1 q2 => hg.block k (h.lab.lt k q1).2 fun z => q2 (h.lab.e k z.symm)
  have hb : ∀ k, k ≠ g → (W'.setCell ⟨g, 7, none⟩ evv').heap[k]? = W'.heap[k]? := fun k q => Below.heap_setCell _ _ _ _ fun z => q (by first | exact z | exact z.symm)
  have hng : ∀ k, κ k ≠ 1 → k ≠ g := fun k q z => q (by rw [z]; exact h.lab.g)
  have hall : ∀ k, κ k ≠ 0 → κ k ≠ 1 → κ k ≠ 4 → (W'.setCell ⟨g, 7, none⟩ evv').heap[k]? = W.heap[k]? := fun k q1 q2 q3 => (hb k (hng k q2)).trans (hW k q1 q3)
  have hsz : W.heap.size ≤ (W'.setCell ⟨g, 7, none⟩ evv').heap.size := by have := hg.size; simpa using this
  have hB : Blk W' g T (stcells p vv av evv s) := (hW g (by rw [h.lab.g]; decide) (by rw [h.lab.g]; decide)).trans h.blk
  refine ⟨{
    lab := {
      g := by rw [hre g (by rw [h.lab.g]; decide) (by rw [h.lab.g]; decide)]; exact h.lab.g
      v := fun k e => by have := h.lab.v k e; rw [hre k (by omega) (by omega)]; exact this
      a := fun k e => by have := h.lab.a k e; rw [hre k (by omega) (by omega)]; exact this
      e := fun k e => by unfold relab; rw [if_pos e]
      y := fun i y k q e => by have := h.lab.y i y k q e; rw [hre k (by omega) (by omega)]; exact this
      lt := fun k q => by
        unfold relab at q
        split at q
        · next z =>
          have := hO.lt k z
          exact ⟨this.1, by simpa using this.2⟩
        · split at q
          · exact absurd rfl q
          · exact ⟨(h.lab.lt k q).1, Nat.lt_of_lt_of_le (h.lab.lt k q).2 hsz⟩ }
    blk := hB.set 7 evv'
    vr := own_of_block h.vr fun k e => by have := h.lab.v k e; exact hall k (by omega) (by omega) (by omega)
    ar := own_of_block h.ar fun k e => by have := h.lab.a k e; exact hall k (by omega) (by omega) (by omega)
    hY := h.hY
    yr := fun i y q => own_of_block (h.yr i y q) fun k e => by have := h.lab.y i y k q e; exact hall k (by omega) (by omega) (by omega)
    er := by
      show World.ownsRow _ _ _ _ _ (s.ev ++ [e]).length (ecells (s.ev ++ [e]))
      rw [List.length_append, List.length_singleton, ecells_snoc]
      exact own_of_block hO fun k e => hb k (fun z => by
        have a := h.lab.g
        rw [← z] at a
        rcases hnew k e with c | ⟨-, c⟩ <;> omega) }, ?_⟩
  intro k q
  unfold relab at q
  split at q
  · next z => rcases hnew k z with c | ⟨c, -⟩
              · exact .inl (by omega)
              · exact .inr (by omega)
  · split at q
    · exact absurd rfl q
    · exact .inl q
/-- What became of it: its labelled blocks alone were touched, and no other one was taken. -/
structure Went (κ κ' : Nat → Nat) (W W' : World) : Prop where
  kept : Kept (fun k => κ k ≠ 0) W W'
  new : ∀ k, κ' k ≠ 0 → κ k ≠ 0 ∨ W.heap.size ≤ k
theorem Went.refl (κ : Nat → Nat) (W : World) : Went κ κ W W := ⟨Kept.refl _ _, fun k q => .inl q⟩
theorem Went.trans {κ κ' κ'' : Nat → Nat} {W W' W'' : World} (h : Went κ κ' W W') (k : Went κ' κ'' W' W'') : Went κ κ'' W W'' :=
  ⟨h.kept.then k.kept h.new, fun i q => by
    rcases k.new i q with c | c
    · exact h.new i c
    · exact .inr (Nat.le_trans h.kept.size c)⟩
theorem Went.below {κ κ' : Nat → Nat} {W W' W'' : World} (h : Went κ κ' W W') (hb : Below W'.heap.size W' W'') : Went κ κ' W W'' := ⟨h.kept.below hb, h.new⟩
end
end Go.Proofs.Ytodejloonfkkmaa.Mach

set_option linter.unusedVariables false
namespace Go.Proofs.Ytodejloonfkkmaa.Mach
open Go.RowKit Mem _root_.Go.Proofs.Ytodejloonfkkmaa.Arena _root_.Go.Proofs.Ytodejloonfkkmaa.Kinds _root_.Go.Proofs.Ytodejloonfkkmaa.Path _root_.Go.Proofs.Ytodejloonfkkmaa.Cat _root_.Go.Proofs.Ytodejloonfkkmaa.Suite
attribute [local go_sem ↓] Go.wp_at_zero Go.wp_at_succ

section
variable {T : TypeId} {base g : Nat} {κ : Nat → Nat} {p : Prg} {vv av evv : Value} {Y : List ((Option Addr × Nat) × List Int)} {s : St} {W W' : World}
theorem Went.setCell {κ' : Nat → Nat} (h : Went κ κ' W W') {a : Addr} (ha : κ a.block ≠ 0 ∨ W.heap.size ≤ a.block) (v : Value) : Went κ κ' W (W'.setCell a v) := ⟨h.kept.setCell ha v, h.new⟩
theorem Went.grown {κ' : Nat → Nat} {W'' : World} {row : Option Nat} (h : Went κ κ' W W') (hg : W'.grownBy W'' row) (hr : ∀ k, row = some k → κ' k ≠ 0) : Went κ κ' W W'' := ⟨h.kept.grown hg fun k q => h.new k (hr k q), h.new⟩
set_option maxRecDepth 100000 in
theorem ref_stop (h : SM T base g κ p vv av evv Y s W) (k v : Int) : Calls Try.prog 24 #[.pointer (some ⟨g, 0, none⟩), .int .i64 k, .int .i64 v] W fun e W' => e = .returned (.int .i64 0) ∧ SM T base g κ p vv av evv Y (s.stop k v) W' ∧ Went κ κ W W' := by
  have c10 : W.cell? ⟨g, 10, none⟩ = some (.bool s.over) := h.cell 10
  have c8 : W.cell? ⟨g, 8, none⟩ = some (.int .i64 s.kind) := h.cell 8
  have c9 : W.cell? ⟨g, 9, none⟩ = some (.int .i64 s.value) := h.cell 9
  have f8 := h.blk.frozen 8
  have f9 := h.blk.frozen 9
  have f10 := h.blk.frozen 10
  have hg1 : κ g ≠ 0 := by rw [h.lab.g]; decide
  by_cases ho : s.over = true
  · rw [ho] at c10
    have HE : Hid (s.stop k v = s) := Lib.hid (by unfold St.stop; rw [if_pos ho])
    have HH := Lib.hid h
    clear h
    go_enter Try.func24, Try.ntmps24
    go_wp2_with fail
    go_ret
    exact ⟨rfl, by rw [HE.out]; exact HH.out, Went.refl _ _⟩
  · have ho : s.over = false := by simpa using ho
    rw [ho] at c10
    have HE : Hid (s.stop k v = { { { s with kind := k } with value := v } with over := true }) := Lib.hid (by rw [stop_no ho])
    have h3 := ((h.kind k).value v).over true
    have HH := Lib.hid h3
    have HR := Lib.hid ((((Went.refl κ W).setCell (a := ⟨g, 8, none⟩) (.inl hg1) (.int .i64 k)).setCell (a := ⟨g, 9, none⟩) (.inl hg1) (.int .i64 v)).setCell (a := ⟨g, 10, none⟩) (.inl hg1) (.bool true))
    clear h h3
    go_enter Try.func24, Try.ntmps24
    go_wp2_with fail
    go_ret
    exact ⟨rfl, by rw [HE.out]; exact HH.out, HR.out⟩

theorem info_event : (Try.prog.info? 64).map (fun i => (i.zero, i.size, i.bytes)) = some (some (.agg #[.int .i64 0, .int .i64 0, .int .i64 0]), 3, 24) := by kernel_rfl
/-- An event is put behind the others. -/
theorem append_event {w : World} {ops : Array Oper} {rest : List Oper} {o : Oper} {a : Act} {Q : Exit → Act → World → Prop} (hgd : o.guard = none) (s x : Operand)
    (ho : o.op = .call { callee := .builtin .append, args := #[s, x], argTypes := #[30, 30] })
    (base : Nat) (hbase : base ≤ w.heap.size) (v : Value) (L : List (Int × Int × Int)) (hs : a.eval s = v) (hown : w.ownsRow base 64 3 v L.length (ecells L))
    (g : Nat) (e : Int × Int × Int) (hx : a.eval x = .slice (some ⟨g, 0, none⟩) 1 1) (hb : Blk w g 64 #[.int .i64 e.1, .int .i64 e.2.1, .int .i64 e.2.2]) (hlen : L.length + 1 ≤ 100000000)
    (h : ∀ v' w', w'.ownsRow base 64 3 v' (L.length + 1) (ecells L ++ ecell e) → w.grownBy w' v.ownBlock → (v'.ownBlock = v.ownBlock ∨ v'.ownBlock = some w.heap.size) → wpList Try.prog ops Q rest (a.put o.dst v') w') :
    wpList Try.prog ops Q (o :: rest) a w := by
  obtain ⟨ig, hig, hz0, hz1, hz2⟩ := info_parts info_event
  refine wpList_append_own_at _ hgd s x 30 ho base 64 ig _ 3 24 Try.underlying30 hig hz0 hz1 hz2 rfl (by decide) v L.length (ecells L) hs hown ⟨g, 0, none⟩ 1 1 (ecell e) hx rfl (World.news_of_block (cs := #[.int .i64 e.1, .int .i64 e.2.1, .int .i64 e.2.2]) hb) ?_ (by simp only [maxLen]; omega) (by omega) hbase ?_
  · intro u hu
    simp only [ecell, List.mem_cons, List.not_mem_nil, or_false] at hu
    rcases hu with rfl | rfl | rfl <;> rfl
  · intro v' w' hown' hg _ hat
    exact h v' w' hown' hg hat
set_option maxRecDepth 100000 in
theorem ref_store (h : SM T base g κ p vv av evv Y s W) (hl : s.ev.length < 100000000) (hbs : base ≤ W.heap.size) (i a b : Int) : Calls Try.prog 39 #[.pointer (some ⟨g, 0, none⟩), .int .i64 i, .int .i64 a, .int .i64 b] W fun e W' => e = .returned (.tuple #[]) ∧ ∃ κ' evv', SM T base g κ' p vv av evv' Y { s with ev := s.ev ++ [(i, a, b)] } W' ∧ Went κ κ' W W' := by
  have c7 : W.cell? ⟨g, 7, none⟩ = some evv := h.cell 7
  have HH := Lib.hid h
  have f7 := h.blk.frozen 7
  have hlt := h.glt
  have hER := h.er
  clear h
  go_enter Try.func39, Try.ntmps39
  have bX := Blk.new W 64 #[.int .i64 i, .int .i64 a, .int .i64 b]
  have h1 := HH.out.below ((Below.refl W.heap.size W).alloc (Nat.le_refl _) (.cells #[.int .i64 i, .int .i64 a, .int .i64 b] 64))
  have hW1 := (Went.refl κ W).below ((Below.refl W.heap.size W).alloc (Nat.le_refl _) (.cells #[.int .i64 i, .int .i64 a, .int .i64 b] 64))
  have H1 := Lib.hid h1
  have HW1 := Lib.hid hW1
  have hO1 := h1.er
  clear h1 hW1 hER
  go_wp2_with (at_builtin; refine append_event rfl _ _ rfl base (by simp; omega) _ s.ev rfl hO1 W.heap.size (i, a, b) rfl bX (by omega) ?_; intro v' w' hown hgr hat; obtain ⟨b', cap', rfl, hb'⟩ := own_block hown (by omega); have f7' := ((H1.out.blk.kept (Kept.refl (fun _ => False) _) (fun z => z)).grown hgr (fun z => by have q := H1.out.lab.e g z.symm; rw [H1.out.lab.g] at q; omega)).frozen 7; have c7' := ((H1.out.blk.kept (Kept.refl (fun _ => False) _) (fun z => z)).grown hgr (fun z => by have q := H1.out.lab.e g z.symm; rw [H1.out.lab.g] at q; omega)).cell 7)
  refine bodyPost_end (results_none rfl _ _ _) rfl ?_
  obtain ⟨e1, e2⟩ := H1.out.event (e := (i, a, b)) hgr hown hat
  refine ⟨rfl, _, _, e1, ?_⟩
  have hg1 : κ g ≠ 0 := by rw [H1.out.lab.g]; decide
  have hk := (HW1.out.grown hgr (fun k q => by rw [H1.out.lab.e k q]; decide)).setCell (a := ⟨g, 7, none⟩) (.inl hg1) (.slice (some ⟨b', 0, none⟩) (s.ev.length + 1) cap')
  exact ⟨hk.kept, fun k q => by
    rcases e2 k q with c | c
    · exact .inl c
    · exact .inr (by simp at c; omega)⟩
end
end Go.Proofs.Ytodejloonfkkmaa.Mach

set_option linter.unusedVariables false
namespace Go.Proofs.Ytodejloonfkkmaa.Mach
open Go.RowKit Mem _root_.Go.Proofs.Ytodejloonfkkmaa.Arena _root_.Go.Proofs.Ytodejloonfkkmaa.Kinds _root_.Go.Proofs.Ytodejloonfkkmaa.Path _root_.Go.Proofs.Ytodejloonfkkmaa.Cat _root_.Go.Proofs.Ytodejloonfkkmaa.Suite
attribute [local go_sem ↓] Go.wp_at_zero Go.wp_at_succ

set_option maxRecDepth 100000 in
theorem ref_truth (b : Bool) (w : World) : Calls Try.prog 51 #[.bool b] w fun e w' => e = .returned (.int .i64 (b01 b)) ∧ w = w' := by
  cases b
  · go_enter Try.func51, Try.ntmps51
    go_wp2_with fail
    go_ret
    exact ⟨rfl, rfl⟩
  · go_enter Try.func51, Try.ntmps51
    go_wp2_with fail
    go_ret
    exact ⟨rfl, rfl⟩
/-- What a node comes to. -/
def NEnds (T : TypeId) (base g : Nat) (κ : Nat → Nat) (p : Prg) (vv av : Value) (r : St × Int) (W : World) (e : Ending) (W' : World) : Prop :=
  e = .returned (.int .i64 r.2) ∧ ∃ κ' evv' Y', SM T base g κ' p vv av evv' Y' r.1 W' ∧ Went κ κ' W W'
section
variable {T : TypeId} {base g : Nat} {κ : Nat → Nat} {p : Prg} {vv av evv : Value} {Y : List ((Option Addr × Nat) × List Int)} {s : St} {W W' : World}
theorem SM.here (h : SM T base g κ p vv av evv Y s W) {v : Int} {e : Ending} (he : e = .returned (.int .i64 v)) : NEnds T base g κ p vv av (s, v) W e W := ⟨he, _, _, _, h, Went.refl _ _⟩
set_option maxRecDepth 100000 in
set_option maxHeartbeats 2000000 in
theorem ref_bin (h : SM T base g κ p vv av evv Y s W) (t a b : Int) (ht : 7 ≤ t ∧ t ≤ 17) : Calls Try.prog 40 #[.pointer (some ⟨g, 0, none⟩), .int .i64 t, .int .i64 a, .int .i64 b] W (NEnds T base g κ p vv av (bin t a b s) W) := by
  have HH := Lib.hid h
  have HS := Lib.hid (fun k v => ref_stop h k v)
  have HT := Lib.hid (fun b W => ref_truth b W)
  have htt : t = 7 ∨ t = 8 ∨ t = 9 ∨ t = 10 ∨ t = 11 ∨ t = 12 ∨ t = 13 ∨ t = 14 ∨ t = 15 ∨ t = 16 ∨ t = 17 := by omega
  clear h ht
  rcases htt with rfl | rfl | rfl | rfl | rfl | rfl | rfl | rfl | rfl | rfl | rfl
  case inr.inr.inr.inl =>
    by_cases b0 : b = 0
    · subst b0
      go_enter Try.func40, Try.ntmps40
      go_wp2_with (go_at_call 24; refine (HS.out 1 0).mono ?_; rintro e w1 ⟨rfl, h1, h2⟩)
      go_ret
      exact ⟨rfl, _, _, _, h1, h2⟩
    · by_cases b1 : b = -1
      · subst b1
        go_enter Try.func40, Try.ntmps40
        go_wp2_with fail
        go_ret
        refine HH.out.here ?_
        rw [Int.tdiv_neg, Int.tdiv_one, if_pos rfl, IntWalk.i64_left]; rfl
      · go_enter Try.func40, Try.ntmps40
        go_wp2_with fail
        go_ret
        rw [show bin 10 a b s = (s, wrap64 (a.tdiv b)) by unfold bin; simp [b0, pureM, IntWalk.i64_left]]
        exact HH.out.here rfl
  case inr.inr.inr.inr.inl =>
    by_cases b0 : b = 0
    · subst b0
      go_enter Try.func40, Try.ntmps40
      go_wp2_with (go_at_call 24; refine (HS.out 1 0).mono ?_; rintro e w1 ⟨rfl, h1, h2⟩)
      go_ret
      exact ⟨rfl, _, _, _, h1, h2⟩
    · by_cases b1 : b = -1
      · subst b1
        go_enter Try.func40, Try.ntmps40
        go_wp2_with fail
        go_ret
        refine HH.out.here ?_
        rw [Int.tmod_neg, Int.tmod_one, if_neg (by decide)]; rfl
      · go_enter Try.func40, Try.ntmps40
        go_wp2_with fail
        go_ret
        rw [show bin 11 a b s = (s, a.tmod b) by unfold bin; simp [b0, pureM]]
        exact HH.out.here rfl
  all_goals
    go_enter Try.func40, Try.ntmps40
    go_wp2_with (go_at_call 51; refine (HT.out _ _).mono ?_; rintro e w1 ⟨rfl, rfl⟩)
    go_ret
    refine HH.out.here ?_
    first
      | rfl
      | (rw [IntWalk.i64_left]; rfl)
end
end Go.Proofs.Ytodejloonfkkmaa.Mach

set_option linter.unusedVariables false
set_option linter.unusedSimpArgs false
namespace Go.Proofs.Ytodejloonfkkmaa.Mach
open Go.RowKit Mem _root_.Go.Proofs.Ytodejloonfkkmaa.Arena _root_.Go.Proofs.Ytodejloonfkkmaa.Kinds _root_.Go.Proofs.Ytodejloonfkkmaa.Path _root_.Go.Proofs.Ytodejloonfkkmaa.Cat _root_.Go.Proofs.Ytodejloonfkkmaa.Suite
attribute [local go_sem ↓] Go.wp_at_zero Go.wp_at_succ

/-- The program lies below all that a run owns. -/
structure EIn (base : Nat) (p : Prg) (W : World) : Prop where
  body : Nodes W base p.B p.xs
  lx : p.xs.length ≤ 1000000
  size : base ≤ W.heap.size
theorem nodes_wide {w : World} {B B' : Nat} {A : Option Addr} {xs : List Nd} (h : Nodes w B A xs) (hB : B ≤ B') : Nodes w B' A xs := fun i x hx => by
  obtain ⟨ad, h0, h1, h2, h3⟩ := h i x hx
  exact ⟨ad, h0, by omega, h2, h3⟩
theorem own_read {w : World} {base b n cap m : Nat} {l : List Int} {x : Int} (h : w.ownsRow base 3 1 (.slice (some ⟨b, 0, none⟩) n cap) l.length (icells l)) (hm : l[m]? = some x) : w.cell? ⟨b, m, none⟩ = some (.int .i64 x) := by
  obtain ⟨A, c, e, hI, -⟩ := own_ints h
  cases e
  obtain ⟨ad, e, -, hc⟩ := hI m x hm
  cases e
  rw [show (⟨b, m, none⟩ : Addr) = Addr.add ⟨b, 0, none⟩ m by unfold Addr.add; split <;> simp_all]
  exact hc
section
variable {T : TypeId} {base g : Nat} {κ κ' : Nat → Nat} {p : Prg} {vv av evv : Value} {Y : List ((Option Addr × Nat) × List Int)} {s : St} {W W' : World}
theorem SM.drew (h : SM T base g κ p vv av evv Y s W) : SM T base g κ p vv av evv Y s W.drew := h.move (Nat.le_refl _) fun _ _ => rfl
theorem Went.drew (h : Went κ κ' W W') : Went κ κ' W W'.drew := ⟨h.kept.drew, h.new⟩
theorem EIn.went (h : EIn base p W) (hS : SM T base g κ p vv av evv Y s W) (hw : Went κ κ' W W') : EIn base p W' :=
  ⟨h.body.keep fun k q => hw.kept.block k (by have := h.size; omega) fun z => by have := (hS.lab.lt k z).1; omega, h.lx, by have := h.size; have := hw.kept.size; omega⟩
set_option maxRecDepth 100000 in
theorem enter_over_any (h : SM T base g κ p vv av evv Y s W) (ho : s.over = true) (k : Int) : Calls Try.prog 23 #[.pointer (some ⟨g, 0, none⟩), .int .i64 k] W (NEnds T base g κ p vv av (s, 0) W) := by
  have c10 : W.cell? ⟨g, 10, none⟩ = some (.bool s.over) := h.cell 10
  rw [ho] at c10
  have HH := Lib.hid h
  clear h
  go_enter Try.func23, Try.ntmps23
  go_wp2_with fail
  go_ret
  exact HH.out.here rfl
set_option maxRecDepth 100000 in
theorem enter_out_any (h : SM T base g κ p vv av evv Y s W) (ho : s.over = false) (h0 : s.fuel = 0) (k : Int) : Calls Try.prog 23 #[.pointer (some ⟨g, 0, none⟩), .int .i64 k] W (NEnds T base g κ p vv av ({ s with kind := 4, value := 0, over := true }, 0) W) := by
  have c10 : W.cell? ⟨g, 10, none⟩ = some (.bool s.over) := h.cell 10
  have c5 : W.cell? ⟨g, 5, none⟩ = some (.int .i64 s.fuel) := h.cell 5
  rw [ho] at c10
  rw [h0] at c5
  have HS := Lib.hid (ref_stop h 4 0)
  rw [stop_no ho] at HS
  clear h
  go_enter Try.func23, Try.ntmps23
  go_wp2_with (go_at_call 24; refine HS.out.mono ?_; rintro e w1 ⟨rfl, h1, h2⟩)
  go_ret
  exact ⟨rfl, _, _, _, h1, h2⟩
set_option maxRecDepth 100000 in
set_option maxHeartbeats 2000000 in
theorem enter_num (h : SM T base g κ p vv av evv Y s W) (hE : EIn base p W) (hf : Fits s) (ho : s.over = false) (h0 : s.fuel ≠ 0) {k : Nat} {t N : Int} (hx : p.xs[k]? = some (t, N)) (ht : t = 1 ∨ t = 2) : Calls Try.prog 23 #[.pointer (some ⟨g, 0, none⟩), .int .i64 k] W (NEnds T base g κ p vv av (s.tick, N) W) := by
  have c10 : W.cell? ⟨g, 10, none⟩ = some (.bool s.over) := h.cell 10
  have c5 : W.cell? ⟨g, 5, none⟩ = some (.int .i64 s.fuel) := h.cell 5
  have c6 : W.cell? ⟨g, 6, none⟩ = some (.int .i64 s.steps) := h.cell 6
  have c2 : W.cell? ⟨g, 2, none⟩ = some (.slice p.B p.xs.length p.e) := h.cell 2
  have f5 := h.blk.frozen 5
  have f6 := h.blk.frozen 6
  rw [ho] at c10
  have hft := hf.top
  have e1 : IntKind.i64.wrap ((s.fuel : Int) - 1) = ((s.fuel - 1 : Nat) : Int) := by rw [IntWalk.i64_in _ (by omega)]; omega
  have e2 : IntKind.i64.wrap ((s.steps : Int) + 1) = (s.steps : Int) + 1 := IntWalk.i64_in _ (by omega)
  have e3 : ¬ (s.fuel : Int) = 0 := by omega
  have hkx := (List.getElem?_eq_some_iff.1 hx).1
  have i1 : (k : Int) < (p.xs.length : Int) := by omega
  have i2 : (0 : Int) ≤ (k : Int) := by omega
  have hlx := hE.lx
  have h2 := (h.fuel (n := ((s.fuel - 1 : Nat) : Int)) rfl).steps (n := (s.steps : Int) + 1) (m := s.steps + 1) (by omega)
  have hg1 : κ g ≠ 0 := by rw [h.lab.g]; decide
  have hgb := h.glt
  have hw2 := ((Went.refl κ W).setCell (a := ⟨g, 5, none⟩) (.inl hg1) (.int .i64 ((s.fuel - 1 : Nat) : Int))).setCell (a := ⟨g, 6, none⟩) (.inl hg1) (.int .i64 ((s.steps : Int) + 1))
  have hE2 := hE.went h hw2
  obtain ⟨ad, hB, hbk, d0, d1⟩ := hE2.body k (t, N) hx
  simp only at d0 d1
  have b3 := Blk.new ((W.setCell ⟨g, 5, none⟩ (.int .i64 ((s.fuel - 1 : Nat) : Int))).setCell ⟨g, 6, none⟩ (.int .i64 ((s.steps : Int) + 1))) 39 #[.int .i64 t, .int .i64 N]
  have hb3 := (Below.refl ((W.setCell ⟨g, 5, none⟩ (.int .i64 ((s.fuel - 1 : Nat) : Int))).setCell ⟨g, 6, none⟩ (.int .i64 ((s.steps : Int) + 1))).heap.size ((W.setCell ⟨g, 5, none⟩ (.int .i64 ((s.fuel - 1 : Nat) : Int))).setCell ⟨g, 6, none⟩ (.int .i64 ((s.steps : Int) + 1)))).alloc (Nat.le_refl _) (.cells #[.int .i64 t, .int .i64 N] 39)
  have h3 := h2.below hb3
  have hw3 := hw2.below hb3
  have hE3 := hE.went h hw3
  simp only [World.size_setCell] at b3
  have HK := Lib.hid (fun W1 (hE1 : EIn base p W1) => ref_Kids_any p.B p.e p.xs (k : Int) W1 (nodes_wide hE1.body hE1.size) hlx)
  rw [hB] at c2 HK
  have HX := Lib.hid hE3
  have HH := Lib.hid h3
  have HW := Lib.hid hw3
  clear h hE h2 hw2 hE2 h3 hw3 hE3 hb3
  rcases ht with rfl | rfl
  all_goals
   go_enter Try.func23, Try.ntmps23
   go_wp2_with (go_at_call 38; refine (HK.out _ HX.out).mono ?_; rintro e w1 ⟨hb1, v, rfl, hO⟩; have x0 := (b3.below hb1 b3.lt).cell 0; have x1 := (b3.below hb1 b3.lt).cell 1)
   go_ret
   exact ⟨rfl, _, _, _, HH.out.below hb1, HW.out.below hb1⟩
set_option maxRecDepth 100000 in
set_option maxHeartbeats 2000000 in
theorem enter_skip (h : SM T base g κ p vv av evv Y s W) (hE : EIn base p W) (hf : Fits s) (ho : s.over = false) (h0 : s.fuel ≠ 0) {k : Nat} {t N : Int} (hx : p.xs[k]? = some (t, N)) (ht : t = 26) : Calls Try.prog 23 #[.pointer (some ⟨g, 0, none⟩), .int .i64 k] W (NEnds T base g κ p vv av (s.tick, 0) W) := by
  have c10 : W.cell? ⟨g, 10, none⟩ = some (.bool s.over) := h.cell 10
  have c5 : W.cell? ⟨g, 5, none⟩ = some (.int .i64 s.fuel) := h.cell 5
  have c6 : W.cell? ⟨g, 6, none⟩ = some (.int .i64 s.steps) := h.cell 6
  have c2 : W.cell? ⟨g, 2, none⟩ = some (.slice p.B p.xs.length p.e) := h.cell 2
  have f5 := h.blk.frozen 5
  have f6 := h.blk.frozen 6
  rw [ho] at c10
  have hft := hf.top
  have e1 : IntKind.i64.wrap ((s.fuel : Int) - 1) = ((s.fuel - 1 : Nat) : Int) := by rw [IntWalk.i64_in _ (by omega)]; omega
  have e2 : IntKind.i64.wrap ((s.steps : Int) + 1) = (s.steps : Int) + 1 := IntWalk.i64_in _ (by omega)
  have e3 : ¬ (s.fuel : Int) = 0 := by omega
  have hkx := (List.getElem?_eq_some_iff.1 hx).1
  have i1 : (k : Int) < (p.xs.length : Int) := by omega
  have i2 : (0 : Int) ≤ (k : Int) := by omega
  have hlx := hE.lx
  have h2 := (h.fuel (n := ((s.fuel - 1 : Nat) : Int)) rfl).steps (n := (s.steps : Int) + 1) (m := s.steps + 1) (by omega)
  have hg1 : κ g ≠ 0 := by rw [h.lab.g]; decide
  have hgb := h.glt
  have hw2 := ((Went.refl κ W).setCell (a := ⟨g, 5, none⟩) (.inl hg1) (.int .i64 ((s.fuel - 1 : Nat) : Int))).setCell (a := ⟨g, 6, none⟩) (.inl hg1) (.int .i64 ((s.steps : Int) + 1))
  have hE2 := hE.went h hw2
  obtain ⟨ad, hB, hbk, d0, d1⟩ := hE2.body k (t, N) hx
  simp only at d0 d1
  have b3 := Blk.new ((W.setCell ⟨g, 5, none⟩ (.int .i64 ((s.fuel - 1 : Nat) : Int))).setCell ⟨g, 6, none⟩ (.int .i64 ((s.steps : Int) + 1))) 39 #[.int .i64 t, .int .i64 N]
  have hb3 := (Below.refl ((W.setCell ⟨g, 5, none⟩ (.int .i64 ((s.fuel - 1 : Nat) : Int))).setCell ⟨g, 6, none⟩ (.int .i64 ((s.steps : Int) + 1))).heap.size ((W.setCell ⟨g, 5, none⟩ (.int .i64 ((s.fuel - 1 : Nat) : Int))).setCell ⟨g, 6, none⟩ (.int .i64 ((s.steps : Int) + 1)))).alloc (Nat.le_refl _) (.cells #[.int .i64 t, .int .i64 N] 39)
  have h3 := h2.below hb3
  have hw3 := hw2.below hb3
  have hE3 := hE.went h hw3
  simp only [World.size_setCell] at b3
  have HK := Lib.hid (fun W1 (hE1 : EIn base p W1) => ref_Kids_any p.B p.e p.xs (k : Int) W1 (nodes_wide hE1.body hE1.size) hlx)
  rw [hB] at c2 HK
  have HX := Lib.hid hE3
  have HH := Lib.hid h3
  have HW := Lib.hid hw3
  clear h hE h2 hw2 hE2 h3 hw3 hE3 hb3
  subst ht
  go_enter Try.func23, Try.ntmps23
  go_wp2_with (go_at_call 38; refine (HK.out _ HX.out).mono ?_; rintro e w1 ⟨hb1, v, rfl, hO⟩; have x0 := (b3.below hb1 b3.lt).cell 0; have x1 := (b3.below hb1 b3.lt).cell 1)
  go_ret
  exact ⟨rfl, _, _, _, HH.out.below hb1, HW.out.below hb1⟩
set_option maxRecDepth 100000 in
set_option maxHeartbeats 2000000 in
theorem enter_var (h : SM T base g κ p vv av evv Y s W) (hE : EIn base p W) (hf : Fits s) (ho : s.over = false) (h0 : s.fuel ≠ 0) {k : Nat} {t N : Int} (hx : p.xs[k]? = some (t, N)) (ht : t = 3) {m : Nat} {z : Int} (hN : N = m) (hmv : s.vals[m]? = some z) : Calls Try.prog 23 #[.pointer (some ⟨g, 0, none⟩), .int .i64 k] W (NEnds T base g κ p vv av (s.tick, z) W) := by
  have hm := (List.getElem?_eq_some_iff.1 hmv).1
  obtain ⟨b, cap, rfl, -⟩ := own_block h.vr (by omega)
  have c10 : W.cell? ⟨g, 10, none⟩ = some (.bool s.over) := h.cell 10
  have c5 : W.cell? ⟨g, 5, none⟩ = some (.int .i64 s.fuel) := h.cell 5
  have c6 : W.cell? ⟨g, 6, none⟩ = some (.int .i64 s.steps) := h.cell 6
  have c2 : W.cell? ⟨g, 2, none⟩ = some (.slice p.B p.xs.length p.e) := h.cell 2
  have f5 := h.blk.frozen 5
  have f6 := h.blk.frozen 6
  rw [ho] at c10
  have hft := hf.top
  have e1 : IntKind.i64.wrap ((s.fuel : Int) - 1) = ((s.fuel - 1 : Nat) : Int) := by rw [IntWalk.i64_in _ (by omega)]; omega
  have e2 : IntKind.i64.wrap ((s.steps : Int) + 1) = (s.steps : Int) + 1 := IntWalk.i64_in _ (by omega)
  have e3 : ¬ (s.fuel : Int) = 0 := by omega
  have hkx := (List.getElem?_eq_some_iff.1 hx).1
  have i1 : (k : Int) < (p.xs.length : Int) := by omega
  have i2 : (0 : Int) ≤ (k : Int) := by omega
  have hlx := hE.lx
  have h2 := (h.fuel (n := ((s.fuel - 1 : Nat) : Int)) rfl).steps (n := (s.steps : Int) + 1) (m := s.steps + 1) (by omega)
  have hg1 : κ g ≠ 0 := by rw [h.lab.g]; decide
  have hgb := h.glt
  have hw2 := ((Went.refl κ W).setCell (a := ⟨g, 5, none⟩) (.inl hg1) (.int .i64 ((s.fuel - 1 : Nat) : Int))).setCell (a := ⟨g, 6, none⟩) (.inl hg1) (.int .i64 ((s.steps : Int) + 1))
  have hE2 := hE.went h hw2
  obtain ⟨ad, hB, hbk, d0, d1⟩ := hE2.body k (t, N) hx
  simp only at d0 d1
  have b3 := Blk.new ((W.setCell ⟨g, 5, none⟩ (.int .i64 ((s.fuel - 1 : Nat) : Int))).setCell ⟨g, 6, none⟩ (.int .i64 ((s.steps : Int) + 1))) 39 #[.int .i64 t, .int .i64 N]
  have hb3 := (Below.refl ((W.setCell ⟨g, 5, none⟩ (.int .i64 ((s.fuel - 1 : Nat) : Int))).setCell ⟨g, 6, none⟩ (.int .i64 ((s.steps : Int) + 1))).heap.size ((W.setCell ⟨g, 5, none⟩ (.int .i64 ((s.fuel - 1 : Nat) : Int))).setCell ⟨g, 6, none⟩ (.int .i64 ((s.steps : Int) + 1)))).alloc (Nat.le_refl _) (.cells #[.int .i64 t, .int .i64 N] 39)
  have h3 := h2.below hb3
  have hw3 := hw2.below hb3
  have hE3 := hE.went h hw3
  simp only [World.size_setCell] at b3
  have HK := Lib.hid (fun W1 (hE1 : EIn base p W1) => ref_Kids_any p.B p.e p.xs (k : Int) W1 (nodes_wide hE1.body hE1.size) hlx)
  rw [hB] at c2 HK
  have HX := Lib.hid hE3
  have HH := Lib.hid h3
  have HW := Lib.hid hw3
  clear h hE h2 hw2 hE2 h3 hw3 hE3 hb3
  subst ht hN
  have m1 : (m : Int) < (s.vals.length : Int) := by omega
  have m2 : (0 : Int) ≤ (m : Int) := by omega
  go_enter Try.func23, Try.ntmps23
  go_wp2_with (go_at_call 38; refine (HK.out _ HX.out).mono ?_; rintro e w1 ⟨hb1, v, rfl, hO⟩; have x0 := (b3.below hb1 b3.lt).cell 0; have x1 := (b3.below hb1 b3.lt).cell 1)
  have h4 := HH.out.below hb1
  have y1 : w1.cell? ⟨g, 3, none⟩ = some (.slice (some ⟨b, 0, none⟩) s.vals.length cap) := h4.cell 3
  have y2 : w1.cell? ⟨b, m, none⟩ = some (.int .i64 z) := own_read h4.vr hmv
  go_region
  go_wp2
  go_ret
  exact ⟨rfl, _, _, _, h4.drew, (HW.out.below hb1).drew⟩
end
end Go.Proofs.Ytodejloonfkkmaa.Mach

set_option linter.unusedVariables false
set_option linter.unusedSimpArgs false
namespace Go.Proofs.Ytodejloonfkkmaa.Mach
open Go.RowKit Mem _root_.Go.Proofs.Ytodejloonfkkmaa.Arena _root_.Go.Proofs.Ytodejloonfkkmaa.Kinds _root_.Go.Proofs.Ytodejloonfkkmaa.Path _root_.Go.Proofs.Ytodejloonfkkmaa.Cat _root_.Go.Proofs.Ytodejloonfkkmaa.Suite
attribute [local go_sem ↓] Go.wp_at_zero Go.wp_at_succ
section
variable {T : TypeId} {base g : Nat} {κ κ' : Nat → Nat} {p : Prg} {vv av evv : Value} {Y : List ((Option Addr × Nat) × List Int)} {s : St} {W W' : World}
/-- A kid, entered. -/
abbrev KidOk (T : TypeId) (base g : Nat) (p : Prg) (vv av : Value) (q : Int) (s : St) (r : St × Int) : Prop := ∀ κ evv Y W, SM T base g κ p vv av evv Y s W → EIn base p W → Calls Try.prog 23 #[.pointer (some ⟨g, 0, none⟩), .int .i64 q] W (NEnds T base g κ p vv av r W)
theorem SM.none (h : SM T base g κ p vv av evv Y s W) {k : Nat} (hk : W.heap.size ≤ k) : ¬ κ k ≠ 0 := fun z => by have := (h.lab.lt k z).2; omega
set_option maxRecDepth 100000 in
set_option maxHeartbeats 2000000 in
theorem enter_un (h : SM T base g κ p vv av evv Y s W) (hE : EIn base p W) (hf : Fits s) (ho : s.over = false) (h0 : s.fuel ≠ 0) {k : Nat} {t N : Int} (hx : p.xs[k]? = some (t, N)) (ht : t = 5 ∨ t = 6) {q : Int} {ks : List Int} (hk : akids p.xs k = q :: ks) {r : St × Int} (hc : KidOk T base g p vv av q s.tick r) : Calls Try.prog 23 #[.pointer (some ⟨g, 0, none⟩), .int .i64 k] W (NEnds T base g κ p vv av (if r.1.over = true then (r.1, 0) else (r.1, if t = 5 then wrap64 (-r.2) else wrap64 (1 - r.2))) W) := by
  have c10 : W.cell? ⟨g, 10, none⟩ = some (.bool s.over) := h.cell 10
  have c5 : W.cell? ⟨g, 5, none⟩ = some (.int .i64 s.fuel) := h.cell 5
  have c6 : W.cell? ⟨g, 6, none⟩ = some (.int .i64 s.steps) := h.cell 6
  have c2 : W.cell? ⟨g, 2, none⟩ = some (.slice p.B p.xs.length p.e) := h.cell 2
  have f5 := h.blk.frozen 5
  have f6 := h.blk.frozen 6
  rw [ho] at c10
  have hft := hf.top
  have e1 : IntKind.i64.wrap ((s.fuel : Int) - 1) = ((s.fuel - 1 : Nat) : Int) := by rw [IntWalk.i64_in _ (by omega)]; omega
  have e2 : IntKind.i64.wrap ((s.steps : Int) + 1) = (s.steps : Int) + 1 := IntWalk.i64_in _ (by omega)
  have e3 : ¬ (s.fuel : Int) = 0 := by omega
  have hkx := (List.getElem?_eq_some_iff.1 hx).1
  have i1 : (k : Int) < (p.xs.length : Int) := by omega
  have i2 : (0 : Int) ≤ (k : Int) := by omega
  have hlx := hE.lx
  have h2 := (h.fuel (n := ((s.fuel - 1 : Nat) : Int)) rfl).steps (n := (s.steps : Int) + 1) (m := s.steps + 1) (by omega)
  have hg1 : κ g ≠ 0 := by rw [h.lab.g]; decide
  have hgb := h.glt
  have hw2 := ((Went.refl κ W).setCell (a := ⟨g, 5, none⟩) (.inl hg1) (.int .i64 ((s.fuel - 1 : Nat) : Int))).setCell (a := ⟨g, 6, none⟩) (.inl hg1) (.int .i64 ((s.steps : Int) + 1))
  have hE2 := hE.went h hw2
  obtain ⟨ad, hB, hbk, d0, d1⟩ := hE2.body k (t, N) hx
  simp only at d0 d1
  have b3 := Blk.new ((W.setCell ⟨g, 5, none⟩ (.int .i64 ((s.fuel - 1 : Nat) : Int))).setCell ⟨g, 6, none⟩ (.int .i64 ((s.steps : Int) + 1))) 39 #[.int .i64 t, .int .i64 N]
  have hb3 := (Below.refl ((W.setCell ⟨g, 5, none⟩ (.int .i64 ((s.fuel - 1 : Nat) : Int))).setCell ⟨g, 6, none⟩ (.int .i64 ((s.steps : Int) + 1))).heap.size ((W.setCell ⟨g, 5, none⟩ (.int .i64 ((s.fuel - 1 : Nat) : Int))).setCell ⟨g, 6, none⟩ (.int .i64 ((s.steps : Int) + 1)))).alloc (Nat.le_refl _) (.cells #[.int .i64 t, .int .i64 N] 39)
  have h3 := h2.below hb3
  have hw3 := hw2.below hb3
  have hE3 := hE.went h hw3
  simp only [World.size_setCell] at b3
  have HK := Lib.hid (fun W1 (hE1 : EIn base p W1) => ref_Kids_any p.B p.e p.xs (k : Int) W1 (nodes_wide hE1.body hE1.size) hlx)
  rw [hB] at c2 HK
  have HX := Lib.hid hE3
  have HH := Lib.hid h3
  have HW := Lib.hid hw3
  have HLT := Lib.hid h.lab.lt
  clear h hE h2 hw2 hE2 h3 hw3 hE3 hb3
  rw [hk] at HK
  have HC := Lib.hid hc
  obtain ⟨s1, a⟩ := r
  clear hc
  have hn5 : ¬ κ W.heap.size ≠ 0 := fun z => by have := (HLT.out _ z).2; omega
  cases hso : s1.over
  all_goals simp only [Bool.false_eq_true, if_true, if_false]
  all_goals rcases ht with rfl | rfl
  all_goals
   go_enter Try.func23, Try.ntmps23
   go_wp2_with (first
     | (go_at_call 38; refine (HK.out _ HX.out).mono ?_; rintro e w1 ⟨hb1, v, rfl, hO⟩; have x0 := (b3.below hb1 b3.lt).cell 0; have x1 := (b3.below hb1 b3.lt).cell 1; obtain ⟨bk, ck, rfl, -⟩ := own_block hO (by simp); have k0 := own_read (m := 0) hO rfl; have h4 : SM T base g κ p vv av evv Y s.tick w1 := HH.out.below hb1; have hE4 := HX.out.went HH.out ((Went.refl κ _).below hb1))
     | (go_at_call 23; (with_reducible refine (HC.out _ _ _ _ h4 hE4).mono ?_); rintro e w2 ⟨rfl, κ2, evv2, Y2, h5, hw5⟩; have b5 := (b3.below hb1 b3.lt).kept hw5.kept hn5; have z0 := b5.cell 0; have z1 := b5.cell 1; have o10 : w2.cell? ⟨g, 10, none⟩ = some (.bool s1.over) := h5.cell 10; rw [hso] at o10))
   go_ret
   exact ⟨rfl, κ2, evv2, Y2, h5, (HW.out.below hb1).trans hw5⟩
end
end Go.Proofs.Ytodejloonfkkmaa.Mach

set_option linter.unusedVariables false
set_option linter.unusedSimpArgs false
namespace Go.Proofs.Ytodejloonfkkmaa.Mach
open Go.RowKit Mem _root_.Go.Proofs.Ytodejloonfkkmaa.Arena _root_.Go.Proofs.Ytodejloonfkkmaa.Kinds _root_.Go.Proofs.Ytodejloonfkkmaa.Path _root_.Go.Proofs.Ytodejloonfkkmaa.Cat _root_.Go.Proofs.Ytodejloonfkkmaa.Suite
attribute [local go_sem ↓] Go.wp_at_zero Go.wp_at_succ
section
variable {T : TypeId} {base g : Nat} {κ κ' : Nat → Nat} {p : Prg} {vv av evv : Value} {Y : List ((Option Addr × Nat) × List Int)} {s : St} {W W' : World}
set_option maxRecDepth 100000 in
set_option maxHeartbeats 2000000 in
theorem enter_return (h : SM T base g κ p vv av evv Y s W) (hE : EIn base p W) (hf : Fits s) (ho : s.over = false) (h0 : s.fuel ≠ 0) {k : Nat} {t N : Int} (hx : p.xs[k]? = some (t, N)) (ht : t = 25) {q : Int} {ks : List Int} (hk : akids p.xs k = q :: ks) {r : St × Int} (hc : KidOk T base g p vv av q s.tick r) (hso : r.1.over = false) : Calls Try.prog 23 #[.pointer (some ⟨g, 0, none⟩), .int .i64 k] W (NEnds T base g κ p vv av (r.1.stop 0 r.2, 0) W) := by
  have c10 : W.cell? ⟨g, 10, none⟩ = some (.bool s.over) := h.cell 10
  have c5 : W.cell? ⟨g, 5, none⟩ = some (.int .i64 s.fuel) := h.cell 5
  have c6 : W.cell? ⟨g, 6, none⟩ = some (.int .i64 s.steps) := h.cell 6
  have c2 : W.cell? ⟨g, 2, none⟩ = some (.slice p.B p.xs.length p.e) := h.cell 2
  have f5 := h.blk.frozen 5
  have f6 := h.blk.frozen 6
  rw [ho] at c10
  have hft := hf.top
  have e1 : IntKind.i64.wrap ((s.fuel : Int) - 1) = ((s.fuel - 1 : Nat) : Int) := by rw [IntWalk.i64_in _ (by omega)]; omega
  have e2 : IntKind.i64.wrap ((s.steps : Int) + 1) = (s.steps : Int) + 1 := IntWalk.i64_in _ (by omega)
  have e3 : ¬ (s.fuel : Int) = 0 := by omega
  have hkx := (List.getElem?_eq_some_iff.1 hx).1
  have i1 : (k : Int) < (p.xs.length : Int) := by omega
  have i2 : (0 : Int) ≤ (k : Int) := by omega
  have hlx := hE.lx
  have h2 := (h.fuel (n := ((s.fuel - 1 : Nat) : Int)) rfl).steps (n := (s.steps : Int) + 1) (m := s.steps + 1) (by omega)
  have hg1 : κ g ≠ 0 := by rw [h.lab.g]; decide
  have hgb := h.glt
  have hw2 := ((Went.refl κ W).setCell (a := ⟨g, 5, none⟩) (.inl hg1) (.int .i64 ((s.fuel - 1 : Nat) : Int))).setCell (a := ⟨g, 6, none⟩) (.inl hg1) (.int .i64 ((s.steps : Int) + 1))
  have hE2 := hE.went h hw2
  obtain ⟨ad, hB, hbk, d0, d1⟩ := hE2.body k (t, N) hx
  simp only at d0 d1
  have b3 := Blk.new ((W.setCell ⟨g, 5, none⟩ (.int .i64 ((s.fuel - 1 : Nat) : Int))).setCell ⟨g, 6, none⟩ (.int .i64 ((s.steps : Int) + 1))) 39 #[.int .i64 t, .int .i64 N]
  have hb3 := (Below.refl ((W.setCell ⟨g, 5, none⟩ (.int .i64 ((s.fuel - 1 : Nat) : Int))).setCell ⟨g, 6, none⟩ (.int .i64 ((s.steps : Int) + 1))).heap.size ((W.setCell ⟨g, 5, none⟩ (.int .i64 ((s.fuel - 1 : Nat) : Int))).setCell ⟨g, 6, none⟩ (.int .i64 ((s.steps : Int) + 1)))).alloc (Nat.le_refl _) (.cells #[.int .i64 t, .int .i64 N] 39)
  have h3 := h2.below hb3
  have hw3 := hw2.below hb3
  have hE3 := hE.went h hw3
  simp only [World.size_setCell] at b3
  have HK := Lib.hid (fun W1 (hE1 : EIn base p W1) => ref_Kids_any p.B p.e p.xs (k : Int) W1 (nodes_wide hE1.body hE1.size) hlx)
  rw [hB] at c2 HK
  have HX := Lib.hid hE3
  have HH := Lib.hid h3
  have HW := Lib.hid hw3
  have HLT := Lib.hid h.lab.lt
  clear h hE h2 hw2 hE2 h3 hw3 hE3 hb3
  rw [hk] at HK
  have HC := Lib.hid hc
  obtain ⟨s1, a⟩ := r
  simp only at hso
  clear hc
  have hn5 : ¬ κ W.heap.size ≠ 0 := fun z => by have := (HLT.out _ z).2; omega
  subst ht
  go_enter Try.func23, Try.ntmps23
  go_wp2_with (first
    | (go_at_call 38; refine (HK.out _ HX.out).mono ?_; rintro e w1 ⟨hb1, v, rfl, hO⟩; have x0 := (b3.below hb1 b3.lt).cell 0; have x1 := (b3.below hb1 b3.lt).cell 1; obtain ⟨bk, ck, rfl, -⟩ := own_block hO (by simp); have k0 := own_read (m := 0) hO rfl; have h4 : SM T base g κ p vv av evv Y s.tick w1 := HH.out.below hb1; have hE4 := HX.out.went HH.out ((Went.refl κ _).below hb1))
    | (go_at_call 23; (with_reducible refine (HC.out _ _ _ _ h4 hE4).mono ?_); rintro e w2 ⟨rfl, κ2, evv2, Y2, h5, hw5⟩; have b5 := (b3.below hb1 b3.lt).kept hw5.kept hn5; have z0 := b5.cell 0; have z1 := b5.cell 1; have o10 : w2.cell? ⟨g, 10, none⟩ = some (.bool s1.over) := h5.cell 10; rw [hso] at o10; have HS := Lib.hid (ref_stop h5 0 a))
    | (go_at_call 24; refine HS.out.mono ?_; rintro e w3 ⟨rfl, h6, hw6⟩))
  go_ret
  exact ⟨rfl, κ2, evv2, Y2, h6, ((HW.out.below hb1).trans hw5).trans hw6⟩
set_option maxRecDepth 100000 in
set_option maxHeartbeats 2000000 in
theorem enter_and (h : SM T base g κ p vv av evv Y s W) (hE : EIn base p W) (hf : Fits s) (ho : s.over = false) (h0 : s.fuel ≠ 0) {k : Nat} {t N : Int} (hx : p.xs[k]? = some (t, N)) (ht : t = 18) {q q2 : Int} {ks : List Int} (hk : akids p.xs k = q :: q2 :: ks) {r r2 : St × Int} (hc : KidOk T base g p vv av q s.tick r) (hc2 : KidOk T base g p vv av q2 r.1 r2) (hso : r.1.over = false) : Calls Try.prog 23 #[.pointer (some ⟨g, 0, none⟩), .int .i64 k] W (NEnds T base g κ p vv av (if r.2 = 0 then (r.1, 0) else r2) W) := by
  have c10 : W.cell? ⟨g, 10, none⟩ = some (.bool s.over) := h.cell 10
  have c5 : W.cell? ⟨g, 5, none⟩ = some (.int .i64 s.fuel) := h.cell 5
  have c6 : W.cell? ⟨g, 6, none⟩ = some (.int .i64 s.steps) := h.cell 6
  have c2 : W.cell? ⟨g, 2, none⟩ = some (.slice p.B p.xs.length p.e) := h.cell 2
  have f5 := h.blk.frozen 5
  have f6 := h.blk.frozen 6
  rw [ho] at c10
  have hft := hf.top
  have e1 : IntKind.i64.wrap ((s.fuel : Int) - 1) = ((s.fuel - 1 : Nat) : Int) := by rw [IntWalk.i64_in _ (by omega)]; omega
  have e2 : IntKind.i64.wrap ((s.steps : Int) + 1) = (s.steps : Int) + 1 := IntWalk.i64_in _ (by omega)
  have e3 : ¬ (s.fuel : Int) = 0 := by omega
  have hkx := (List.getElem?_eq_some_iff.1 hx).1
  have i1 : (k : Int) < (p.xs.length : Int) := by omega
  have i2 : (0 : Int) ≤ (k : Int) := by omega
  have hlx := hE.lx
  have h2 := (h.fuel (n := ((s.fuel - 1 : Nat) : Int)) rfl).steps (n := (s.steps : Int) + 1) (m := s.steps + 1) (by omega)
  have hg1 : κ g ≠ 0 := by rw [h.lab.g]; decide
  have hgb := h.glt
  have hw2 := ((Went.refl κ W).setCell (a := ⟨g, 5, none⟩) (.inl hg1) (.int .i64 ((s.fuel - 1 : Nat) : Int))).setCell (a := ⟨g, 6, none⟩) (.inl hg1) (.int .i64 ((s.steps : Int) + 1))
  have hE2 := hE.went h hw2
  obtain ⟨ad, hB, hbk, d0, d1⟩ := hE2.body k (t, N) hx
  simp only at d0 d1
  have b3 := Blk.new ((W.setCell ⟨g, 5, none⟩ (.int .i64 ((s.fuel - 1 : Nat) : Int))).setCell ⟨g, 6, none⟩ (.int .i64 ((s.steps : Int) + 1))) 39 #[.int .i64 t, .int .i64 N]
  have hb3 := (Below.refl ((W.setCell ⟨g, 5, none⟩ (.int .i64 ((s.fuel - 1 : Nat) : Int))).setCell ⟨g, 6, none⟩ (.int .i64 ((s.steps : Int) + 1))).heap.size ((W.setCell ⟨g, 5, none⟩ (.int .i64 ((s.fuel - 1 : Nat) : Int))).setCell ⟨g, 6, none⟩ (.int .i64 ((s.steps : Int) + 1)))).alloc (Nat.le_refl _) (.cells #[.int .i64 t, .int .i64 N] 39)
  have h3 := h2.below hb3
  have hw3 := hw2.below hb3
  have hE3 := hE.went h hw3
  simp only [World.size_setCell] at b3
  have HK := Lib.hid (fun W1 (hE1 : EIn base p W1) => ref_Kids_any p.B p.e p.xs (k : Int) W1 (nodes_wide hE1.body hE1.size) hlx)
  rw [hB] at c2 HK
  have HX := Lib.hid hE3
  have HH := Lib.hid h3
  have HW := Lib.hid hw3
  have HLT := Lib.hid h.lab.lt
  clear h hE h2 hw2 hE2 h3 hw3 hE3 hb3
  rw [hk] at HK
  have HC := Lib.hid hc
  obtain ⟨s1, a⟩ := r
  simp only at hso
  clear hc
  have hn5 : ¬ κ W.heap.size ≠ 0 := fun z => by have := (HLT.out _ z).2; omega
  subst ht
  have HC2 := Lib.hid hc2
  obtain ⟨s2, b⟩ := r2
  simp only
  clear hc2
  by_cases ha : a = 0
  · subst ha
    go_enter Try.func23, Try.ntmps23
    go_wp2_with (first
      | (go_at_call 38; refine (HK.out _ HX.out).mono ?_; rintro e w1 ⟨hb1, v, rfl, hO⟩; have x0 := (b3.below hb1 b3.lt).cell 0; have x1 := (b3.below hb1 b3.lt).cell 1; obtain ⟨bk, ck, rfl, -⟩ := own_block hO (by simp); have k0 := own_read (m := 0) hO rfl; have h4 : SM T base g κ p vv av evv Y s.tick w1 := HH.out.below hb1; have hE4 := HX.out.went HH.out ((Went.refl κ _).below hb1))
      | (go_at_call 23; (with_reducible refine (HC.out _ _ _ _ h4 hE4).mono ?_); rintro e w2 ⟨rfl, κ2, evv2, Y2, h5, hw5⟩; have b5 := (b3.below hb1 b3.lt).kept hw5.kept hn5; have z0 := b5.cell 0; have z1 := b5.cell 1; have o10 : w2.cell? ⟨g, 10, none⟩ = some (.bool s1.over) := h5.cell 10; rw [hso] at o10))
    go_ret
    exact ⟨rfl, κ2, evv2, Y2, h5, (HW.out.below hb1).trans hw5⟩
  · rw [if_neg ha]
    go_enter Try.func23, Try.ntmps23
    go_wp2_with (first
      | (go_at_call 38; refine (HK.out _ HX.out).mono ?_; rintro e w1 ⟨hb1, v, rfl, hO⟩; have x0 := (b3.below hb1 b3.lt).cell 0; have x1 := (b3.below hb1 b3.lt).cell 1; obtain ⟨bk, ck, rfl, -⟩ := own_block hO (by simp); have k0 := own_read (m := 0) hO rfl; have h4 : SM T base g κ p vv av evv Y s.tick w1 := HH.out.below hb1; have hE4 := HX.out.went HH.out ((Went.refl κ _).below hb1))
      | (go_at_call 23; (with_reducible refine (HC.out _ _ _ _ h4 hE4).mono ?_); rintro e w2 ⟨rfl, κ2, evv2, Y2, h5, hw5⟩; have b5 := (b3.below hb1 b3.lt).kept hw5.kept hn5; have z0 := b5.cell 0; have z1 := b5.cell 1; have o10 : w2.cell? ⟨g, 10, none⟩ = some (.bool s1.over) := h5.cell 10; rw [hso] at o10; have hO2 := own_of_block hO (fun i e => hw5.kept.block i (hO.lt i e).2 (fun z => by have q1 := (HLT.out i z).2; have q2 := (hO.lt i e).1; simp only [World.size_alloc, World.size_setCell] at q2; omega)); have hE5 := hE4.went h4 hw5; have k1 := own_read (m := 1) hO2 rfl)
      | (go_at_call 23; (with_reducible refine (HC2.out _ _ _ _ h5 hE5).mono ?_); rintro e w3 ⟨rfl, κ3, evv3, Y3, h6, hw6⟩))
    go_ret
    exact ⟨rfl, κ3, evv3, Y3, h6, ((HW.out.below hb1).trans hw5).trans hw6⟩
end
end Go.Proofs.Ytodejloonfkkmaa.Mach
