/-
  Package direct: a run in memory: the struct, its row of variables, what each has, its events, the places behind nodes, each in a block of its own.
-/
import Derived.Test.YtodejloonfkkmaaMachPRow
import Derived.Test.YtodejloonfkkmaaMachG
set_option linter.unusedVariables false
namespace Go.Proofs.Ytodejloonfkkmaa.Dir
open Go.RowKit Mem _root_.Go.Proofs.Ytodejloonfkkmaa.Arena _root_.Go.Proofs.Ytodejloonfkkmaa.Kinds _root_.Go.Proofs.Ytodejloonfkkmaa.Path _root_.Go.Proofs.Ytodejloonfkkmaa.Cat _root_.Go.Proofs.Ytodejloonfkkmaa.Suite _root_.Go.Proofs.Ytodejloonfkkmaa.Mach

/-- What a run is told by, that does not change: where its struct lies, its program, its fuel, the places behind nodes, its row of variables. -/
structure DK where
  base : Nat
  g : Nat
  p : Prg
  F : Nat
  bb : Nat
  bc : Nat
  cv : Value
/-- What a variable has. -/
def dcell (vs : List Int) (s : St) (i : Nat) : List Int := if asz (vs.getD i (-1)) = 0 then [s.vals.getD i 0] else s.arrs.getD i []
def dcells (vs : List Int) (s : St) : List (List Int) := (List.range vs.length).map (dcell vs s)
theorem dcells_len (vs : List Int) (s : St) : (dcells vs s).length = vs.length := by unfold dcells; simp
theorem dcells_get {vs : List Int} {s : St} {i : Nat} (h : i < vs.length) : (dcells vs s)[i]? = some (dcell vs s i) := by
  unfold dcells
  rw [List.getElem?_map, List.getElem?_range h]; rfl
theorem dcells_same {vs : List Int} {s s' : St} (h1 : s'.vals = s.vals) (h2 : s'.arrs = s.arrs) : dcells vs s' = dcells vs s := by
  unfold dcells dcell
  rw [h1, h2]
/-- A variable of one value is set. -/
theorem dcells_setV {vs : List Int} {s s' : St} {n : Nat} (x : Int) (hn : n < vs.length) (hv : s.vals.length = vs.length) (ht : asz (vs.getD n (-1)) = 0) (h1 : s'.vals = s.vals.set n x) (h2 : s'.arrs = s.arrs) : dcells vs s' = (dcells vs s).set n [x] := by
  apply List.ext_getElem?
  intro j
  rw [List.getElem?_set]
  by_cases hj : j < vs.length
  · rw [dcells_get hj]
    split
    · next q =>
      subst q
      rw [if_pos (by rw [dcells_len]; exact hj)]
      unfold dcell
      rw [if_pos ht, h1, set_getD, if_pos ⟨rfl, by omega⟩]
    · next q =>
      rw [dcells_get hj]
      unfold dcell
      rw [h1, h2, set_getD, if_neg (show ¬ (n = j ∧ j < s.vals.length) from fun z => q z.1)]
  · rw [List.getElem?_eq_none (by rw [dcells_len]; omega), if_neg (by omega), List.getElem?_eq_none (by rw [dcells_len]; omega)]
/-- A place of an array is set. -/
theorem dcells_setA {vs : List Int} {s s' : St} {n : Nat} {L : List Int} (hn : n < vs.length) (hv : s.arrs.length = vs.length) (ht : asz (vs.getD n (-1)) ≠ 0) (h1 : s'.vals = s.vals) (h2 : s'.arrs = s.arrs.set n L) : dcells vs s' = (dcells vs s).set n L := by
  apply List.ext_getElem?
  intro j
  rw [List.getElem?_set]
  by_cases hj : j < vs.length
  · rw [dcells_get hj]
    split
    · next q =>
      subst q
      rw [if_pos (by rw [dcells_len]; exact hj)]
      unfold dcell
      rw [if_neg ht, h2, set_getD, if_pos ⟨rfl, by omega⟩]
    · next q =>
      rw [dcells_get hj]
      unfold dcell
      rw [h1, h2, set_getD, if_neg (show ¬ (n = j ∧ j < s.arrs.length) from fun z => q z.1)]
  · rw [List.getElem?_eq_none (by rw [dcells_len]; omega), if_neg (by omega), List.getElem?_eq_none (by rw [dcells_len]; omega)]

/-- The blocks of a run are told by labels: 1 the struct, 2 the row of variables, 3 the events, 4 the places behind nodes, 5 and so on what variables have; 0: none of its. -/
structure DLab (κ : Nat → Nat) (K : DK) (evv : Value) (Y : List ((Option Addr × Nat) × List Int)) (top : Nat) : Prop where
  g : κ K.g = 1
  a : ∀ k, K.cv.ownBlock = some k → κ k = 2
  e : ∀ k, evv.ownBlock = some k → κ k = 3
  b : κ K.bb = 4
  y : ∀ (i : Nat) (y : (Option Addr × Nat) × List Int) (k : Nat), Y[i]? = some y → (Value.slice y.1.1 y.2.length y.1.2).ownBlock = some k → κ k = 5 + i
  lt : ∀ k, κ k ≠ 0 → K.base ≤ k ∧ k < top
/-- A run's cells. -/
def rcells (K : DK) (evv : Value) (n : Nat) (pos : Int) : Array Value :=
  #[.int .i64 0, .int .i64 0, .int .i64 n, evv, .slice K.p.B K.p.xs.length K.p.e, .int .i64 pos, .slice (some ⟨K.bb, 0, none⟩) K.p.xs.length K.bc, .int .i64 K.F, K.cv,
    .nilIface, .iface 81 (.agg #[]), .iface 81 (.agg #[]), .iface 82 (.agg #[]), .iface 83 (.agg #[]), .iface 84 (.agg #[]), .iface 85 (.agg #[]),
    .iface 86 (.agg #[]), .iface 87 (.agg #[]), .iface 88 (.agg #[]), .iface 89 (.agg #[]), .iface 90 (.agg #[]), .iface 91 (.agg #[]), .iface 92 (.agg #[]), .iface 93 (.agg #[]), .iface 94 (.agg #[]), .iface 95 (.agg #[]), .iface 96 (.agg #[]),
    .iface 97 (.agg #[]), .iface 98 (.agg #[]), .iface 99 (.agg #[]), .iface 100 (.agg #[]), .iface 101 (.agg #[]), .iface 102 (.agg #[]), .iface 103 (.agg #[]), .iface 104 (.agg #[]), .iface 105 (.agg #[])]
/-- A run, in memory. -/
structure DM (K : DK) (κ : Nat → Nat) (evv : Value) (Y : List ((Option Addr × Nat) × List Int)) (s : St) (pos : Int) (W : World) : Prop where
  lab : DLab κ K evv Y W.heap.size
  body : Nodes W K.base K.p.B K.p.xs
  lx : K.p.xs.length ≤ 1000000
  lv : K.p.vs.length ≤ 1000000
  size : K.base ≤ W.heap.size
  blk : Blk W K.g 54 (rcells K evv s.steps pos)
  ar : W.ownsRow K.base 22 1 K.cv K.p.vs.length (tcells Y)
  hY : Y.map (·.2) = dcells K.p.vs s
  yr : ∀ (i : Nat) (y : (Option Addr × Nat) × List Int), Y[i]? = some y → W.ownsRow K.base 3 1 (.slice y.1.1 y.2.length y.1.2) y.2.length (icells y.2)
  br : ∀ i n, scan 1 (K.p.xs.drop i) = some n → W.cell? ⟨K.bb, i, none⟩ = some (.int .i64 ((i + n : Nat) : Int))
  er : W.ownsRow K.base 64 3 evv s.ev.length (ecells s.ev)
section
variable {K : DK} {κ : Nat → Nat} {evv : Value} {Y : List ((Option Addr × Nat) × List Int)} {s : St} {pos : Int} {W W' : World}
theorem DLab.nc (h : DLab κ K evv Y W.heap.size) {k : Nat} (q : k < K.base) : κ k = 0 := by
  by_cases z : κ k = 0
  · exact z
  · have := (h.lt k z).1; omega
/-- All its blocks, and those below, are as they were. -/
theorem DM.move (h : DM K κ evv Y s pos W) (hs : W.heap.size ≤ W'.heap.size) (hb : ∀ k, k < W.heap.size → κ k ≠ 0 ∨ k < K.base → W'.heap[k]? = W.heap[k]?) : DM K κ evv Y s pos W' where
  lab := { h.lab with lt := fun k q => ⟨(h.lab.lt k q).1, Nat.lt_of_lt_of_le (h.lab.lt k q).2 hs⟩ }
  body := h.body.keep fun k q => hb k (Nat.lt_of_lt_of_le q h.size) (.inr q)
  lx := h.lx
  lv := h.lv
  size := Nat.le_trans h.size hs
  blk := (hb K.g (h.lab.lt K.g (by rw [h.lab.g]; decide)).2 (.inl (by rw [h.lab.g]; decide))).trans h.blk
  ar := own_of_block h.ar fun k e => by have := h.lab.a k e; exact hb k (h.lab.lt k (by omega)).2 (.inl (by omega))
  hY := h.hY
  yr := fun i y q => own_of_block (h.yr i y q) fun k e => by have := h.lab.y i y k q e; exact hb k (h.lab.lt k (by omega)).2 (.inl (by omega))
  br := fun i n q => by
    rw [← h.br i n q]
    exact World.cell?_of_block (hb K.bb (h.lab.lt K.bb (by rw [h.lab.b]; decide)).2 (.inl (by rw [h.lab.b]; decide)))
  er := own_of_block h.er fun k e => by have := h.lab.e k e; exact hb k (h.lab.lt k (by omega)).2 (.inl (by omega))
theorem DM.below (h : DM K κ evv Y s pos W) (hb : Below W.heap.size W W') : DM K κ evv Y s pos W' := h.move hb.size fun k q _ => hb.block k q
theorem DM.drew (h : DM K κ evv Y s pos W) : DM K κ evv Y s pos W.drew := h.move (Nat.le_refl _) fun _ _ _ => rfl
theorem DM.glt (h : DM K κ evv Y s pos W) : K.base ≤ K.g ∧ K.g < W.heap.size := h.lab.lt K.g (by rw [h.lab.g]; decide)
theorem DM.cell (h : DM K κ evv Y s pos W) (i : Nat) : W.cell? ⟨K.g, i, none⟩ = (rcells K evv s.steps pos)[i]? := h.blk.cell i
/-- A run that differs in what does not lie in memory. -/
theorem DM.same {s' : St} (h : DM K κ evv Y s pos W) (h1 : s'.vals = s.vals) (h2 : s'.arrs = s.arrs) (h3 : s'.ev = s.ev) (h4 : s'.steps = s.steps) : DM K κ evv Y s' pos W :=
  ⟨h.lab, h.body, h.lx, h.lv, h.size, by rw [h4]; exact h.blk, h.ar, by rw [dcells_same h1 h2]; exact h.hY, h.yr, h.br, by rw [h3]; exact h.er⟩
theorem DM.stop (h : DM K κ evv Y s pos W) (k v : Int) : DM K κ evv Y (s.stop k v) pos W := by
  unfold St.stop
  split
  · exact h
  · exact h.same rfl rfl rfl rfl
/-- The struct's block alone is turned. -/
theorem DM.set_g (h : DM K κ evv Y s pos W) (i : Nat) (x : Value) {s' : St} {pos' : Int} (hC : (rcells K evv s.steps pos).setIfInBounds i x = rcells K evv s'.steps pos') (h1 : s'.vals = s.vals) (h2 : s'.arrs = s.arrs) (h3 : s'.ev = s.ev) : DM K κ evv Y s' pos' (W.setCell ⟨K.g, i, none⟩ x) := by
  have hb : ∀ k, κ k ≠ 1 → (W.setCell ⟨K.g, i, none⟩ x).heap[k]? = W.heap[k]? := fun k q => Below.heap_setCell _ _ _ _ fun z => q (by
    obtain rfl : k = K.g := by first | exact z | exact z.symm
    exact h.lab.g)
  have B := h.blk.set i x
  rw [hC] at B
  have hsz : W.heap.size ≤ (W.setCell ⟨K.g, i, none⟩ x).heap.size := by simp
  exact {
    lab := { h.lab with lt := fun k q => ⟨(h.lab.lt k q).1, Nat.lt_of_lt_of_le (h.lab.lt k q).2 hsz⟩ }
    body := h.body.keep fun k q => hb k (by have := h.lab.nc q; omega)
    lx := h.lx
    lv := h.lv
    size := Nat.le_trans h.size hsz
    blk := B
    ar := own_of_block h.ar fun k e => hb k (by rw [h.lab.a k e]; decide)
    hY := by rw [dcells_same h1 h2]; exact h.hY
    yr := fun i y q => own_of_block (h.yr i y q) fun k e => hb k (by rw [h.lab.y i y k q e]; omega)
    br := fun i n q => by rw [← h.br i n q]; exact World.cell?_of_block (hb K.bb (by rw [h.lab.b]; decide))
    er := by rw [h3]; exact own_of_block h.er fun k e => hb k (by rw [h.lab.e k e]; decide) }
/-- A unit of fuel is taken. -/
theorem DM.tick (h : DM K κ evv Y s pos W) : DM K κ evv Y s.tick pos (W.setCell ⟨K.g, 2, none⟩ (.int .i64 ((s.steps : Int) + 1))) := h.set_g 2 _ rfl rfl rfl rfl
/-- The run stands elsewhere. -/
theorem DM.goto (h : DM K κ evv Y s pos W) (pos' : Int) : DM K κ evv Y s pos' (W.setCell ⟨K.g, 5, none⟩ (.int .i64 pos')) := h.set_g 5 _ rfl rfl rfl rfl
/-- What a variable has is set. -/
theorem DM.set_y (h : DM K κ evv Y s pos W) {b i j : Nat} {y : (Option Addr × Nat) × List Int} (hy : Y[i]? = some y) (hv : (Value.slice y.1.1 y.2.length y.1.2).ownBlock = some b) (hj : j < y.2.length) (x : Int) {s' : St} (hd : dcells K.p.vs s' = (dcells K.p.vs s).set i (y.2.set j x)) (h3 : s'.ev = s.ev) (h4 : s'.steps = s.steps) : DM K κ evv (Y.set i (y.1, y.2.set j x)) s' pos (W.setCell ⟨b, j, none⟩ (.int .i64 x)) := by
  have hb : ∀ k, κ k ≠ 5 + i → (W.setCell ⟨b, j, none⟩ (.int .i64 x)).heap[k]? = W.heap[k]? := fun k q => Below.heap_setCell _ _ _ _ fun z => q (by
    obtain rfl : k = b := by first | exact z | exact z.symm
    exact h.lab.y i y _ hy hv)
  have hsz : W.heap.size ≤ (W.setCell ⟨b, j, none⟩ (.int .i64 x)).heap.size := by simp
  have V := own_put (x := .int .i64 x) (h.yr i y hy) hv (by rw [icells_length]; exact hj)
  rw [Mach.icells_set] at V
  have hi : i < Y.length := (List.getElem?_eq_some_iff.1 hy).1
  have ht : tcells (Y.set i (y.1, y.2.set j x)) = tcells Y := by
    unfold tcells
    rw [List.map_set]
    apply List.ext_getElem?
    intro m
    rw [List.getElem?_set]
    split
    · next q => subst q; rw [if_pos (by rw [List.length_map]; exact hi), List.getElem?_map, hy]; simp
    · rfl
  have hat : ∀ m z, (Y.set i (y.1, y.2.set j x))[m]? = some z → (m = i ∧ z = (y.1, y.2.set j x)) ∨ (m ≠ i ∧ Y[m]? = some z) := fun m z q => by
    rw [List.getElem?_set] at q
    split at q
    · next q1 =>
      exact .inl ⟨q1.symm, (Option.some.inj q).symm⟩
    · next q1 => exact .inr ⟨fun e => q1 e.symm, q⟩
  exact {
    lab := { h.lab with
      y := fun m z k q e => by
        rcases hat m z q with ⟨rfl, rfl⟩ | ⟨-, q⟩
        · exact h.lab.y m y k hy (by rw [← e]; cases y.1.1 <;> rfl)
        · exact h.lab.y m z k q e
      lt := fun k q => ⟨(h.lab.lt k q).1, Nat.lt_of_lt_of_le (h.lab.lt k q).2 hsz⟩ }
    body := h.body.keep fun k q => hb k (by have := h.lab.nc q; omega)
    lx := h.lx
    lv := h.lv
    size := Nat.le_trans h.size hsz
    blk := by rw [h4]; exact (hb K.g (by rw [h.lab.g]; omega)).trans h.blk
    ar := by rw [ht]; exact own_of_block h.ar fun k e => hb k (by rw [h.lab.a k e]; omega)
    hY := by rw [List.map_set, h.hY, hd]
    yr := fun m z q => by
      rcases hat m z q with ⟨rfl, rfl⟩ | ⟨hne, q⟩
      · show World.ownsRow _ _ _ _ (.slice y.1.1 (y.2.set j x).length y.1.2) (y.2.set j x).length _
        rw [List.length_set]; exact V
      · exact own_of_block (h.yr m z q) fun k e => hb k (by rw [h.lab.y m z k q e]; omega)
    br := fun i n q => by rw [← h.br i n q]; exact World.cell?_of_block (hb K.bb (by rw [h.lab.b]; omega))
    er := by rw [h3]; exact own_of_block h.er fun k e => hb k (by rw [h.lab.e k e]; omega) }
/-- An event is put behind the others, and the struct told of it. -/
theorem DM.event (h : DM K κ evv Y s pos W) {evv' : Value} {e : Int × Int × Int} (hg : W.grownBy W' evv.ownBlock) (hO : W'.ownsRow K.base 64 3 evv' (s.ev.length + 1) (ecells s.ev ++ ecell e)) (hat : evv'.ownBlock = evv.ownBlock ∨ evv'.ownBlock = some W.heap.size) :
    DM K (relabP 3 κ evv') evv' Y { s with ev := s.ev ++ [e] } pos (W'.setCell ⟨K.g, 3, none⟩ evv') ∧ ∀ k, relabP 3 κ evv' k ≠ 0 → κ k ≠ 0 ∨ W.heap.size ≤ k := by
  have hnew : ∀ k, evv'.ownBlock = some k → κ k = 3 ∨ (k = W.heap.size ∧ κ k = 0) := fun k q => by
    rcases hat with z | z
    · exact .inl (h.lab.e k (z ▸ q))
    · obtain rfl : W.heap.size = k := Option.some.inj (z.symm.trans q)
      refine .inr ⟨rfl, ?_⟩
      by_cases c : κ W.heap.size = 0
      · exact c
      · have := (h.lab.lt _ c).2; omega
  have hre : ∀ k, κ k ≠ 0 → κ k ≠ 3 → relabP 3 κ evv' k = κ k := fun k q1 q2 => by
    unfold relabP
    rw [if_neg (fun z => by rcases hnew k z with c | ⟨-, c⟩ <;> omega), if_neg q2]
  have hW : ∀ k, k < W.heap.size → κ k ≠ 3 → W'.heap[k]? = W.heap[k]? := fun k q1 q2 => hg.block k q1 fun z => q2 (h.lab.e k z.symm)
  have hb : ∀ k, k ≠ K.g → (W'.setCell ⟨K.g, 3, none⟩ evv').heap[k]? = W'.heap[k]? := fun k q => Below.heap_setCell _ _ _ _ fun z => q (by first | exact z | exact z.symm)
  have hng : ∀ k, κ k ≠ 1 → k ≠ K.g := fun k q z => q (by rw [z]; exact h.lab.g)
  have hall : ∀ k, κ k ≠ 0 → κ k ≠ 1 → κ k ≠ 3 → (W'.setCell ⟨K.g, 3, none⟩ evv').heap[k]? = W.heap[k]? := fun k q1 q2 q3 => (hb k (hng k q2)).trans (hW k (h.lab.lt k q1).2 q3)
  have hsz : W.heap.size ≤ (W'.setCell ⟨K.g, 3, none⟩ evv').heap.size := by have := hg.size; simpa using this
  have hB : Blk W' K.g 54 (rcells K evv s.steps pos) := (hW K.g h.glt.2 (by rw [h.lab.g]; decide)).trans h.blk
  refine ⟨{
    lab := {
      g := by rw [hre K.g (by rw [h.lab.g]; decide) (by rw [h.lab.g]; decide)]; exact h.lab.g
      a := fun k e => by have := h.lab.a k e; rw [hre k (by omega) (by omega)]; exact this
      e := fun k e => by unfold relabP; rw [if_pos e]
      b := by rw [hre K.bb (by rw [h.lab.b]; decide) (by rw [h.lab.b]; decide)]; exact h.lab.b
      y := fun i y k q e => by have := h.lab.y i y k q e; rw [hre k (by omega) (by omega)]; exact this
      lt := fun k q => by
        unfold relabP at q
        split at q
        · next z =>
          have := hO.lt k z
          exact ⟨this.1, by simpa using this.2⟩
        · split at q
          · exact absurd rfl q
          · exact ⟨(h.lab.lt k q).1, Nat.lt_of_lt_of_le (h.lab.lt k q).2 hsz⟩ }
    body := h.body.keep fun k q => by
      have hn := h.lab.nc q
      exact (hb k (hng k (by omega))).trans (hW k (Nat.lt_of_lt_of_le q h.size) (by omega))
    lx := h.lx
    lv := h.lv
    size := Nat.le_trans h.size hsz
    blk := hB.set 3 evv'
    ar := own_of_block h.ar fun k e => by have := h.lab.a k e; exact hall k (by omega) (by omega) (by omega)
    hY := h.hY
    yr := fun i y q => own_of_block (h.yr i y q) fun k e => by have := h.lab.y i y k q e; exact hall k (by omega) (by omega) (by omega)
    br := fun i n q => by rw [← h.br i n q]; exact World.cell?_of_block (hall K.bb (by rw [h.lab.b]; decide) (by rw [h.lab.b]; decide) (by rw [h.lab.b]; decide))
    er := by
      show World.ownsRow _ _ _ _ _ (s.ev ++ [e]).length (ecells (s.ev ++ [e]))
      rw [List.length_append, List.length_singleton, ecells_snoc]
      exact own_of_block hO fun k e => hb k (fun z => by
        have a := h.lab.g
        rw [← z] at a
        rcases hnew k e with c | ⟨-, c⟩ <;> omega) }, ?_⟩
  intro k q
  unfold relabP at q
  split at q
  · next z => rcases hnew k z with c | ⟨c, -⟩
              · exact .inl (by omega)
              · exact .inr (by omega)
  · split at q
    · exact absurd rfl q
    · exact .inl q
/-- Where a variable's numbers lie. -/
theorem DM.var (h : DM K κ evv Y s pos W) {n : Nat} (hn : n < K.p.vs.length) (h0 : 0 < (dcell K.p.vs s n).length) : ∃ cb cc b c, K.cv = .slice (some ⟨cb, 0, none⟩) K.p.vs.length cc ∧ W.cell? ⟨cb, n, none⟩ = some (.slice (some ⟨b, 0, none⟩) (dcell K.p.vs s n).length c) ∧ Y[n]? = some ((some ⟨b, 0, none⟩, c), dcell K.p.vs s n) ∧
    (∀ (j : Nat) (x : Int), (dcell K.p.vs s n)[j]? = some x → W.cell? ⟨b, j, none⟩ = some (.int .i64 x)) ∧ (∀ j, W.frozen? ⟨b, j, none⟩ = false) ∧ κ b = 5 + n := by
  obtain ⟨cb, cc, e, -⟩ := own_block h.ar (by omega)
  have hg : (Y.map (·.2))[n]? = some (dcell K.p.vs s n) := by rw [h.hY]; exact dcells_get hn
  rw [List.getElem?_map] at hg
  obtain ⟨⟨⟨A, c⟩, L⟩, hy, e2⟩ := Option.map_eq_some_iff.1 hg
  simp only at e2
  subst e2
  have hr := h.yr n _ hy
  simp only at hr
  obtain ⟨b, c', e3, hb⟩ := own_block hr h0
  simp only [Value.slice.injEq] at e3
  obtain ⟨rfl, -, rfl⟩ := e3
  refine ⟨cb, cc, b, c, e, ?_, hy, fun j x hx => own_read hr hx, fun j => World.ownsRow.frozenAt hr j, h.lab.y n _ b hy hb⟩
  have har := h.ar
  rw [e] at har
  have hc := World.ownsRow.cellAt har n (by simpa using hn)
  rw [hc]
  unfold tcells
  rw [List.getElem?_map, hy]
  rfl
/-- A run has come to a state. -/
def Came (K : DK) (κ : Nat → Nat) (s : St) (pos : Int) (W W' : World) : Prop := ∃ κ' evv' Y', DM K κ' evv' Y' s pos W' ∧ Went κ κ' W W'
/-- What a node's entering comes to: it ends, and the run stands at a place; or the run ends. -/
def ended (k v : Int) : List PanicEntry := [{ v := .iface 67 (.agg #[.int .i64 k, .int .i64 v]), recovered := false }]
def DEnds (K : DK) (κ : Nat → Nat) (r : St × Int) (pos : Int) (W : World) (e : Ending) (W' : World) : Prop :=
  (r.1.over = false → e = .returned (.int .i64 r.2)) ∧ (r.1.over = true → e = .panicked (ended r.1.kind r.1.value)) ∧ ∃ κ' evv' Y' pos', DM K κ' evv' Y' r.1 pos' W' ∧ Went κ κ' W W' ∧ (r.1.over = false → pos' = pos)
theorem DEnds.on {κ' : Nat → Nat} {evv' : Value} {Y' : List ((Option Addr × Nat) × List Int)} {s' : St} {v pos' : Int} (h : DM K κ' evv' Y' s' pos' W') (hw : Went κ κ' W W') (ho : s'.over = false) : DEnds K κ (s', v) pos' W (.returned (.int .i64 v)) W' :=
  ⟨fun _ => rfl, (fun z => by rw [show (s', v).1.over = false from ho] at z; cases z), κ', evv', Y', pos', h, hw, fun _ => rfl⟩
theorem DEnds.stopped {κ' : Nat → Nat} {evv' : Value} {Y' : List ((Option Addr × Nat) × List Int)} {s' : St} {v pos' q : Int} (h : DM K κ' evv' Y' s' pos' W') (hw : Went κ κ' W W') (ho : s'.over = false) (k x : Int) : DEnds K κ (s'.stop k x, v) q W (.panicked (ended k x)) W' :=
  ⟨(fun z => by rw [show (s'.stop k x, v).1.over = true from stop_over _ _ _] at z; cases z), (fun _ => by rw [stop_no ho]), κ', evv', Y', pos', h.stop k x, hw, (fun z => by rw [show (s'.stop k x, v).1.over = true from stop_over _ _ _] at z; cases z)⟩
/-- Open, where it goes on. -/
theorem DEnds.to_on {r : St × Int} {e : Ending} (h : DEnds K κ r pos W e W') (ho : r.1.over = false) : e = .returned (.int .i64 r.2) ∧ ∃ κ' evv' Y', DM K κ' evv' Y' r.1 pos W' ∧ Went κ κ' W W' := by
  obtain ⟨h1, -, κ', evv', Y', pos', h2, h3, h4⟩ := h
  obtain rfl := h4 ho
  exact ⟨h1 ho, κ', evv', Y', h2, h3⟩
/-- Open, where the run ended. -/
theorem DEnds.to_over {r : St × Int} {e : Ending} (h : DEnds K κ r pos W e W') (ho : r.1.over = true) : e = .panicked (ended r.1.kind r.1.value) ∧ ∃ κ' evv' Y' pos', DM K κ' evv' Y' r.1 pos' W' ∧ Went κ κ' W W' := by
  obtain ⟨-, h1, κ', evv', Y', pos', h2, h3, -⟩ := h
  exact ⟨h1 ho, κ', evv', Y', pos', h2, h3⟩
theorem DEnds.over {κ' : Nat → Nat} {evv' : Value} {Y' : List ((Option Addr × Nat) × List Int)} {s' : St} {v q : Int} (h : DM K κ' evv' Y' s' pos W') (hw : Went κ κ' W W') (ho : s'.over = true) : DEnds K κ (s', v) q W (.panicked (ended s'.kind s'.value)) W' :=
  ⟨(fun z => by rw [show (s', v).1.over = true from ho] at z; cases z), fun _ => rfl, κ', evv', Y', pos, h, hw, fun z => by rw [show (s', v).1.over = true from ho] at z; cases z⟩
theorem DEnds.cast {r r' : St × Int} {e : Ending} (h : DEnds K κ r pos W e W') (q : r = r') : DEnds K κ r' pos W e W' := q ▸ h
theorem DEnds.then {κ' : Nat → Nat} {W1 W2 : World} {r : St × Int} {e : Ending} (h : DEnds K κ' r pos W1 e W2) (hw : Went κ κ' W W1) : DEnds K κ r pos W e W2 := by
  obtain ⟨a, b, κ2, evv', Y', pos', h1, h2, h3⟩ := h
  exact ⟨a, b, κ2, evv', Y', pos', h1, hw.trans h2, h3⟩
/-- A node that may be entered, at a place, in a state; what it comes to; where it leaves the run. -/
abbrev NodeOk (K : DK) (q : Int) (s : St) (r : St × Int) (q' : Int) : Prop := ∀ κ evv Y W, DM K κ evv Y s q W → Calls Try.prog 33 #[.pointer (some ⟨K.g, 0, none⟩)] W (DEnds K κ r q' W)
end
end Go.Proofs.Ytodejloonfkkmaa.Dir
