/-
  Package machine: a run in memory: the struct, its variables, its arrays, its events, its stack, each in a block of its own; and what stays as it is.
-/
import Derived.Test.YtodejloonfkkmaaGreatMachH
import Derived.Test.YtodejloonfkkmaaGreatMachSteps
import Derived.Maps.OwnOps
set_option linter.unusedVariables false
namespace Go.Proofs.YtodejloonfkkmaaGreat.Mach
open Go.RowKit Mem _root_.Go.Proofs.YtodejloonfkkmaaGreat.Arena _root_.Go.Proofs.YtodejloonfkkmaaGreat.Kinds _root_.Go.Proofs.YtodejloonfkkmaaGreat.Path _root_.Go.Proofs.YtodejloonfkkmaaGreat.Cat _root_.Go.Proofs.YtodejloonfkkmaaGreat.Suite

/-- One element of a row that a call owns is put in, each element having several cells. -/
theorem own_putN {w : World} {base : Nat} {e : TypeId} {m : Nat} {v : Value} {n : Nat} {xs : List Value} {g : Nat} (h : w.ownsRow base e m v n xs) (hg : v.ownBlock = some g) (i : Nat) (x : Value) : (w.setCell ⟨g, i, none⟩ x).ownsRow base e m v n (xs.set i x) := by
  refine ⟨by rw [List.length_set]; exact h.1, ?_⟩
  rcases h.2 with ⟨rfl, -⟩ | ⟨g', cap, cur, rfl, hb, hgg, hn, hm, hs, ht⟩
  · cases hg
  · obtain rfl : g' = g := by
      unfold Value.ownBlock at hg
      exact Option.some.inj hg
    have hB : Blk w g' e cur := hgg
    refine .inr ⟨g', cap, cur.setIfInBounds i x, rfl, hb, hB.set i x, hn, hm, by rw [Array.size_setIfInBounds]; exact hs, ?_⟩
    rw [Array.toList_setIfInBounds, List.take_set, ht]
/-- The first ones of a row. -/
theorem own_take {w : World} {base : Nat} {e : TypeId} {m b n cap : Nat} {xs : List Value} (h : w.ownsRow base e m (.slice (some ⟨b, 0, none⟩) n cap) n xs) {k : Nat} (hk : k ≤ n) : w.ownsRow base e m (.slice (some ⟨b, 0, none⟩) k cap) k (xs.take (k * m)) := by
  have hkm : k * m ≤ n * m := Nat.mul_le_mul_right m hk
  refine ⟨by rw [List.length_take, h.1]; omega, ?_⟩
  rcases h.2 with ⟨q, -⟩ | ⟨g', cap', cur, q, hb, hgg, hn, hm, hs, ht⟩
  · cases q
  · cases q
    refine .inr ⟨b, cap, cur, rfl, hb, hgg, by omega, hm, hs, ?_⟩
    rw [← ht, List.take_take]
    congr 1
    omega

/-- What a run is told by, that does not change: where its struct lies, its program, its fuel, the places behind nodes, its variables, its arrays, what nodes do by their tags; which blocks are so. -/
structure PK where
  base : Nat
  g : Nat
  p : Prg
  F : Nat
  eb : Nat
  ec : Nat
  mb : Nat
  vv : Value
  av : Value
  actv : Int → Value
  cst : Nat → Prop
  W0 : World
def againV : Value := .func (.func 115) #[] #[]
def doesV (actv : Int → Value) (f : Fr) : Value := if f.ag = true then againV else actv f.x.1
/-- A frame's cells. -/
def fcell (actv : Int → Value) (f : Fr) : List Value := [.int .i64 f.x.1, .int .i64 f.x.2, .int .i64 f.pos, .int .i64 f.next, .int .i64 f.owed, .int .i64 f.fst, .int .i64 f.lst, doesV actv f]
/-- A stack's cells: what was entered last stands last. -/
def fcells (actv : Int → Value) : List Fr → List Value
  | [] => []
  | f :: S => fcells actv S ++ fcell actv f
theorem fcells_len (actv : Int → Value) : ∀ S : List Fr, (fcells actv S).length = S.length * 8
  | [] => rfl
  | f :: S => by rw [fcells, List.length_append, fcells_len actv S, List.length_cons, show (fcell actv f).length = 8 from rfl]; omega
theorem fcells_take (actv : Int → Value) (f : Fr) (S : List Fr) : (fcells actv (f :: S)).take (S.length * 8) = fcells actv S := by
  rw [fcells, List.take_append_of_le_length (by rw [fcells_len]; exact Nat.le_refl _), List.take_of_length_le (by rw [fcells_len]; exact Nat.le_refl _)]
theorem fcells_get (actv : Int → Value) (f : Fr) (S : List Fr) (j : Nat) : (fcells actv (f :: S))[S.length * 8 + j]? = (fcell actv f)[j]? := by
  rw [fcells, List.getElem?_append_right (by rw [fcells_len]; omega), fcells_len]
  congr 1; omega
theorem fcells_set (actv : Int → Value) (f : Fr) (S : List Fr) (j : Nat) (x : Value) : (fcells actv (f :: S)).set (S.length * 8 + j) x = fcells actv S ++ (fcell actv f).set j x := by
  rw [fcells, List.set_append_right _ _ (by rw [fcells_len]; omega), fcells_len]
  congr 2; omega
/-- What nodes do, by their tags, in a map. -/
def itselfA (v : Value) : Option (DataW Value × List MemPlace) := some (.held v, [])
def tableA (u : Int → Value) : DataW Value := (((((((((((((((((((((((((((DataW.map [] : DataW Value).put (.int .i64 1) (.held (u 1))).put (.int .i64 2) (.held (u 2))).put (.int .i64 3) (.held (u 3))).put (.int .i64 4) (.held (u 4))).put (.int .i64 5) (.held (u 5))).put (.int .i64 6) (.held (u 6))).put (.int .i64 7) (.held (u 7))).put (.int .i64 8) (.held (u 8))).put (.int .i64 9) (.held (u 9))).put (.int .i64 10) (.held (u 10))).put (.int .i64 11) (.held (u 11))).put (.int .i64 12) (.held (u 12))).put (.int .i64 13) (.held (u 13))).put (.int .i64 14) (.held (u 14))).put (.int .i64 15) (.held (u 15))).put (.int .i64 16) (.held (u 16))).put (.int .i64 17) (.held (u 17))).put (.int .i64 18) (.held (u 18))).put (.int .i64 19) (.held (u 19))).put (.int .i64 20) (.held (u 20))).put (.int .i64 26) (.held (u 26))).put (.int .i64 21) (.held (u 21))).put (.int .i64 22) (.held (u 22))).put (.int .i64 23) (.held (u 23))).put (.int .i64 24) (.held (u 24))).put (.int .i64 25) (.held (u 25)))
/-- A box that holds a value, among blocks that stay as they are. -/
def BoxIn (W : World) (C : Nat → Prop) (b : Nat) (t : TypeId) (v : Value) : Prop := Blk W b t #[v] ∧ C b
def boxP (b : Nat) : Value := .pointer (some ⟨b, 0, none⟩)
/-- The value that does what a node of a tag does. -/
def ActV (W : World) (C : Nat → Prop) (t : Int) (v : Value) : Prop :=
  ((t = 1 ∨ t = 2) ∧ v = .func (.func 54) #[] #[]) ∨ (t = 3 ∧ v = .func (.func 55) #[] #[]) ∨ (t = 4 ∧ v = .func (.func 56) #[] #[]) ∨
  ((t = 20 ∨ t = 26) ∧ v = .func (.func 74) #[] #[]) ∨ (t = 21 ∧ v = .func (.func 75) #[] #[]) ∨ (t = 22 ∧ v = .func (.func 76) #[] #[]) ∨ (t = 23 ∧ v = .func (.func 77) #[] #[]) ∨
  (t = 24 ∧ v = .func (.func 78) #[] #[]) ∨ (t = 25 ∧ v = .func (.func 79) #[] #[]) ∨
  ((t = 18 ∨ t = 19) ∧ ∃ b, v = .func (.func 113) #[] #[boxP b] ∧ BoxIn W C b 3 (.int .i64 (t - 18))) ∨
  (∃ b q, (t, q) ∈ [((5 : Int), 58), (6, 59), (7, 60), (8, 61), (9, 62)] ∧ v = .func (.func 110) #[] #[boxP b] ∧ BoxIn W C b 156 (.func (.func q) #[] #[])) ∨
  (∃ b c q, (t, q) ∈ [((10 : Int), 64), (11, 65)] ∧ v = .func (.func 111) #[] #[boxP c] ∧ BoxIn W C c 154 (.func (.func 110) #[] #[boxP b]) ∧ BoxIn W C b 156 (.func (.func q) #[] #[])) ∨
  (∃ b c q, (t, q) ∈ [((12 : Int), 67), (13, 68), (14, 69), (15, 70), (16, 71), (17, 72)] ∧ v = .func (.func 110) #[] #[boxP c] ∧ BoxIn W C c 156 (.func (.func 112) #[] #[boxP b]) ∧ BoxIn W C b 158 (.func (.func q) #[] #[]))
/-- What stays as it is. -/
structure Cn (K : PK) (W : World) : Prop where
  body : Nodes W K.base K.p.B K.p.xs
  ce : K.p.xs.length ≤ K.p.e
  lx : K.p.xs.length ≤ 1000000
  size : K.base ≤ W.heap.size
  lec : K.p.xs.length ≤ K.ec
  ends : ∀ i, IsNode K.p.xs i → W.cell? ⟨K.eb, i, none⟩ = some (.int .i64 (behind K.p.xs i))
  map : W.ownsMap Tryz.prog 3 itselfA K.mb 26 (tableA K.actv)
  acts : ∀ t : Int, 1 ≤ t → t ≤ 26 → ActV K.W0 K.cst t (K.actv t)
  same : ∀ k, K.cst k → W.heap[k]? = K.W0.heap[k]?
  ceb : K.cst K.eb
  cmb : K.cst K.mb
theorem Cn.keep {K : PK} {W W' : World} (h : Cn K W) (hs : W.heap.size ≤ W'.heap.size) (hk : ∀ k, k < K.base ∨ K.cst k → W'.heap[k]? = W.heap[k]?) : Cn K W' where
  body := h.body.keep fun k q => hk k (.inl q)
  ce := h.ce
  lx := h.lx
  size := Nat.le_trans h.size hs
  lec := h.lec
  ends := fun i hi => by
    rw [← h.ends i hi]
    exact World.cell?_of_block (hk K.eb (.inr h.ceb))
  map := by
    obtain ⟨es, clock, h1, h2⟩ := h.map
    exact ⟨es, clock, (hk _ (.inr h.cmb)).trans h1, h2⟩
  acts := h.acts
  same := fun k q => (hk k (.inr q)).trans (h.same k q)
  ceb := h.ceb
  cmb := h.cmb

theorem Cn.box {K : PK} {W : World} (h : Cn K W) {b : Nat} {t : TypeId} {v : Value} (hb : BoxIn K.W0 K.cst b t v) : BoxIn W K.cst b t v := ⟨(h.same b hb.2).trans hb.1, hb.2⟩

/-- The blocks of a run are told by labels: 1 the struct, 2 the variables, 3 the row of arrays, 4 the events, 5 the stack, 6 what stays as it is, 7 and so on the arrays; 0: none of its. -/
structure PLab (κ : Nat → Nat) (K : PK) (evv sv : Value) (Y : List ((Option Addr × Nat) × List Int)) (top : Nat) : Prop where
  g : κ K.g = 1
  v : ∀ k, K.vv.ownBlock = some k → κ k = 2
  a : ∀ k, K.av.ownBlock = some k → κ k = 3
  e : ∀ k, evv.ownBlock = some k → κ k = 4
  s : ∀ k, sv.ownBlock = some k → κ k = 5
  c : ∀ k, K.cst k → κ k = 6
  y : ∀ (i : Nat) (y : (Option Addr × Nat) × List Int) (k : Nat), Y[i]? = some y → (Value.slice y.1.1 y.2.length y.1.2).ownBlock = some k → κ k = 7 + i
  lt : ∀ k, κ k ≠ 0 → K.base ≤ k ∧ k < top
/-- A run's cells. -/
def pcells (K : PK) (evv sv : Value) (n : Nat) : Array Value :=
  #[.int .i64 0, .int .i64 0, .int .i64 n, evv, .slice K.p.B K.p.xs.length K.p.e, .slice (some ⟨K.eb, 0, none⟩) K.p.xs.length K.ec, .int .i64 K.F, K.vv, K.av, .map (some K.mb), sv]
/-- A run, in memory. -/
structure PM (K : PK) (κ : Nat → Nat) (evv sv : Value) (Y : List ((Option Addr × Nat) × List Int)) (s : St) (S : List Fr) (W : World) : Prop where
  lab : PLab κ K evv sv Y W.heap.size
  cn : Cn K W
  blk : Blk W K.g 64 (pcells K evv sv s.steps)
  vr : W.ownsRow K.base 3 1 K.vv s.vals.length (icells s.vals)
  ar : W.ownsRow K.base 22 1 K.av s.arrs.length (tcells Y)
  hY : Y.map (·.2) = s.arrs
  yr : ∀ (i : Nat) (y : (Option Addr × Nat) × List Int), Y[i]? = some y → W.ownsRow K.base 3 1 (.slice y.1.1 y.2.length y.1.2) y.2.length (icells y.2)
  er : W.ownsRow K.base 86 3 evv s.ev.length (ecells s.ev)
  sr : W.ownsRow K.base 161 8 sv S.length (fcells K.actv S)
section
variable {K : PK} {κ : Nat → Nat} {evv sv : Value} {Y : List ((Option Addr × Nat) × List Int)} {s : St} {S : List Fr} {W W' : World}
theorem PLab.nc (h : PLab κ K evv sv Y W.heap.size) {k : Nat} (q : k < K.base ∨ K.cst k) : κ k = 0 ∨ κ k = 6 := by
  rcases q with q | q
  · left
    by_cases z : κ k = 0
    · exact z
    · have := (h.lt k z).1; omega
  · exact .inr (h.c k q)
/-- All its blocks, and those below, are as they were. -/
theorem PM.move (h : PM K κ evv sv Y s S W) (hs : W.heap.size ≤ W'.heap.size) (hb : ∀ k, k < W.heap.size → κ k ≠ 0 ∨ k < K.base → W'.heap[k]? = W.heap[k]?) : PM K κ evv sv Y s S W' where
  lab := { h.lab with lt := fun k q => ⟨(h.lab.lt k q).1, Nat.lt_of_lt_of_le (h.lab.lt k q).2 hs⟩ }
  cn := h.cn.keep hs fun k q => by
    rcases q with q | q
    · exact hb k (Nat.lt_of_lt_of_le q h.cn.size) (.inr q)
    · have := h.lab.c k q
      exact hb k (h.lab.lt k (by omega)).2 (.inl (by omega))
  blk := (hb K.g (h.lab.lt K.g (by rw [h.lab.g]; decide)).2 (.inl (by rw [h.lab.g]; decide))).trans h.blk
  vr := own_of_block h.vr fun k e => by have := h.lab.v k e; exact hb k (h.lab.lt k (by omega)).2 (.inl (by omega))
  ar := own_of_block h.ar fun k e => by have := h.lab.a k e; exact hb k (h.lab.lt k (by omega)).2 (.inl (by omega))
  hY := h.hY
  yr := fun i y q => own_of_block (h.yr i y q) fun k e => by have := h.lab.y i y k q e; exact hb k (h.lab.lt k (by omega)).2 (.inl (by omega))
  er := own_of_block h.er fun k e => by have := h.lab.e k e; exact hb k (h.lab.lt k (by omega)).2 (.inl (by omega))
  sr := own_of_block h.sr fun k e => by have := h.lab.s k e; exact hb k (h.lab.lt k (by omega)).2 (.inl (by omega))
theorem PM.below (h : PM K κ evv sv Y s S W) (hb : Below W.heap.size W W') : PM K κ evv sv Y s S W' := h.move hb.size fun k q _ => hb.block k q
theorem PM.drew (h : PM K κ evv sv Y s S W) : PM K κ evv sv Y s S W.drew := h.move (Nat.le_refl _) fun _ _ _ => rfl
theorem PM.glt (h : PM K κ evv sv Y s S W) : K.base ≤ K.g ∧ K.g < W.heap.size := h.lab.lt K.g (by rw [h.lab.g]; decide)
theorem PM.cell (h : PM K κ evv sv Y s S W) (i : Nat) : W.cell? ⟨K.g, i, none⟩ = (pcells K evv sv s.steps)[i]? := h.blk.cell i
/-- A run that differs in what does not lie in memory. -/
theorem PM.same {s' : St} (h : PM K κ evv sv Y s S W) (h1 : s'.vals = s.vals) (h2 : s'.arrs = s.arrs) (h3 : s'.ev = s.ev) (h4 : s'.steps = s.steps) : PM K κ evv sv Y s' S W :=
  ⟨h.lab, h.cn, by rw [h4]; exact h.blk, by rw [h1]; exact h.vr, by rw [h2]; exact h.ar, by rw [h2]; exact h.hY, h.yr, by rw [h3]; exact h.er, h.sr⟩
theorem PM.stop (h : PM K κ evv sv Y s S W) (k v : Int) : PM K κ evv sv Y (s.stop k v) S W := by
  unfold St.stop
  split
  · exact h
  · exact h.same rfl rfl rfl rfl
/-- The struct's block alone is turned. -/
theorem PM.set_g (h : PM K κ evv sv Y s S W) (i : Nat) (x : Value) {s' : St} {sv' : Value} {S' : List Fr} (hC : (pcells K evv sv s.steps).setIfInBounds i x = pcells K evv sv' s'.steps) (h1 : s'.vals = s.vals) (h2 : s'.arrs = s.arrs) (h3 : s'.ev = s.ev)
    (hsv : sv'.ownBlock = sv.ownBlock) (hsr : W.ownsRow K.base 161 8 sv' S'.length (fcells K.actv S')) : PM K κ evv sv' Y s' S' (W.setCell ⟨K.g, i, none⟩ x) := by
  have hb : ∀ k, κ k ≠ 1 → (W.setCell ⟨K.g, i, none⟩ x).heap[k]? = W.heap[k]? := fun k q => Below.heap_setCell _ _ _ _ fun z => q (by
    obtain rfl : k = K.g := by first | exact z | exact z.symm
    exact h.lab.g)
  have B := h.blk.set i x
  rw [hC] at B
  have hsz : W.heap.size ≤ (W.setCell ⟨K.g, i, none⟩ x).heap.size := by simp
  exact {
    lab := { h.lab with
      s := fun k q => h.lab.s k (hsv ▸ q)
      lt := fun k q => ⟨(h.lab.lt k q).1, Nat.lt_of_lt_of_le (h.lab.lt k q).2 hsz⟩ }
    cn := h.cn.keep hsz fun k q => hb k (by have := h.lab.nc q; omega)
    blk := B
    vr := by rw [h1]; exact own_of_block h.vr fun k e => hb k (by rw [h.lab.v k e]; decide)
    ar := by rw [h2]; exact own_of_block h.ar fun k e => hb k (by rw [h.lab.a k e]; decide)
    hY := by rw [h2]; exact h.hY
    yr := fun i y q => own_of_block (h.yr i y q) fun k e => hb k (by rw [h.lab.y i y k q e]; omega)
    er := by rw [h3]; exact own_of_block h.er fun k e => hb k (by rw [h.lab.e k e]; decide)
    sr := own_of_block hsr fun k e => hb k (by rw [h.lab.s k (hsv ▸ e)]; decide) }
/-- A unit of fuel is taken. -/
theorem PM.tick (h : PM K κ evv sv Y s S W) : PM K κ evv sv Y s.tick S (W.setCell ⟨K.g, 2, none⟩ (.int .i64 ((s.steps : Int) + 1))) :=
  h.set_g 2 _ rfl rfl rfl rfl rfl h.sr
/-- The node on top is taken off. -/
theorem PM.pop {f : Fr} {b cap : Nat} (h : PM K κ evv (.slice (some ⟨b, 0, none⟩) (S.length + 1) cap) Y s (f :: S) W) : PM K κ evv (.slice (some ⟨b, 0, none⟩) S.length cap) Y s S (W.setCell ⟨K.g, 10, none⟩ (.slice (some ⟨b, 0, none⟩) S.length cap)) :=
  h.set_g 10 _ rfl rfl rfl rfl rfl (by
    have := own_take h.sr (k := S.length) (by simp)
    rw [fcells_take] at this
    exact this)
/-- A variable is set. -/
theorem PM.set_v (h : PM K κ evv sv Y s S W) {b i : Nat} (hv : K.vv.ownBlock = some b) (hi : i < s.vals.length) (x : Int) : PM K κ evv sv Y { s with vals := s.vals.set i x } S (W.setCell ⟨b, i, none⟩ (.int .i64 x)) := by
  have hb : ∀ k, κ k ≠ 2 → (W.setCell ⟨b, i, none⟩ (.int .i64 x)).heap[k]? = W.heap[k]? := fun k q => Below.heap_setCell _ _ _ _ fun z => q (by
    obtain rfl : k = b := by first | exact z | exact z.symm
    exact h.lab.v _ hv)
  have hsz : W.heap.size ≤ (W.setCell ⟨b, i, none⟩ (.int .i64 x)).heap.size := by simp
  have V := own_put (x := .int .i64 x) h.vr hv (by rw [icells_length]; exact hi)
  rw [icells_set] at V
  exact {
    lab := { h.lab with lt := fun k q => ⟨(h.lab.lt k q).1, Nat.lt_of_lt_of_le (h.lab.lt k q).2 hsz⟩ }
    cn := h.cn.keep hsz fun k q => hb k (by have := h.lab.nc q; omega)
    blk := (hb K.g (by rw [h.lab.g]; decide)).trans h.blk
    vr := by show World.ownsRow _ _ _ _ _ (s.vals.set i x).length _; rw [List.length_set]; exact V
    ar := own_of_block h.ar fun k e => hb k (by rw [h.lab.a k e]; decide)
    hY := h.hY
    yr := fun i y q => own_of_block (h.yr i y q) fun k e => hb k (by rw [h.lab.y i y k q e]; omega)
    er := own_of_block h.er fun k e => hb k (by rw [h.lab.e k e]; decide)
    sr := own_of_block h.sr fun k e => hb k (by rw [h.lab.s k e]; decide) }
/-- An array's element is set. -/
theorem PM.set_a (h : PM K κ evv sv Y s S W) {b i j : Nat} {y : (Option Addr × Nat) × List Int} (hy : Y[i]? = some y) (hv : (Value.slice y.1.1 y.2.length y.1.2).ownBlock = some b) (hj : j < y.2.length) (x : Int) : PM K κ evv sv (Y.set i (y.1, y.2.set j x)) { s with arrs := s.arrs.set i (y.2.set j x) } S (W.setCell ⟨b, j, none⟩ (.int .i64 x)) := by
  have hb : ∀ k, κ k ≠ 7 + i → (W.setCell ⟨b, j, none⟩ (.int .i64 x)).heap[k]? = W.heap[k]? := fun k q => Below.heap_setCell _ _ _ _ fun z => q (by
    obtain rfl : k = b := by first | exact z | exact z.symm
    exact h.lab.y i y _ hy hv)
  have hsz : W.heap.size ≤ (W.setCell ⟨b, j, none⟩ (.int .i64 x)).heap.size := by simp
  have V := own_put (x := .int .i64 x) (h.yr i y hy) hv (by rw [icells_length]; exact hj)
  rw [icells_set] at V
  have hi : i < Y.length := (List.getElem?_eq_some_iff.1 hy).1
  have ht : tcells (Y.set i (y.1, y.2.set j x)) = tcells Y := by
    unfold tcells
    rw [List.map_set]
    apply List.ext_getElem?
    intro m
    rw [List.getElem?_set]
    split
    · next q => subst q; rw [if_pos (by rw [List.length_map]; exact hi), List.getElem?_map, hy]; simp
    · rfl
  have hat : ∀ m z, (Y.set i (y.1, y.2.set j x))[m]? = some z → (m = i ∧ z = (y.1, y.2.set j x)) ∨ (m ≠ i ∧ Y[m]? = some z) := fun m z q => by
    rw [List.getElem?_set] at q
    split at q
    · next q1 => exact .inl ⟨q1.symm, (Option.some.inj q).symm⟩
    · next q1 => exact .inr ⟨fun e => q1 e.symm, q⟩
  exact {
    lab := { h.lab with
      y := fun m z k q e => by
        rcases hat m z q with ⟨rfl, rfl⟩ | ⟨-, q⟩
        · exact h.lab.y m y k hy (by rw [← e]; cases y.1.1 <;> rfl)
        · exact h.lab.y m z k q e
      lt := fun k q => ⟨(h.lab.lt k q).1, Nat.lt_of_lt_of_le (h.lab.lt k q).2 hsz⟩ }
    cn := h.cn.keep hsz fun k q => hb k (by have := h.lab.nc q; omega)
    blk := (hb K.g (by rw [h.lab.g]; omega)).trans h.blk
    vr := own_of_block h.vr fun k e => hb k (by rw [h.lab.v k e]; omega)
    ar := by
      rw [ht]
      show World.ownsRow _ _ _ _ _ (s.arrs.set i _).length _
      rw [List.length_set]
      exact own_of_block h.ar fun k e => hb k (by rw [h.lab.a k e]; omega)
    hY := by rw [List.map_set, h.hY]
    yr := fun m z q => by
      rcases hat m z q with ⟨rfl, rfl⟩ | ⟨hne, q⟩
      · show World.ownsRow _ _ _ _ (.slice y.1.1 (y.2.set j x).length y.1.2) (y.2.set j x).length _
        rw [List.length_set]; exact V
      · exact own_of_block (h.yr m z q) fun k e => hb k (by rw [h.lab.y m z k q e]; omega)
    er := own_of_block h.er fun k e => hb k (by rw [h.lab.e k e]; omega)
    sr := own_of_block h.sr fun k e => hb k (by rw [h.lab.s k e]; omega) }
/-- A cell of the stack is set. -/
theorem PM.set_s (h : PM K κ evv sv Y s S W) {b : Nat} (hv : sv.ownBlock = some b) (i : Nat) (x : Value) {S' : List Fr} (hl : S'.length = S.length) (hx : (fcells K.actv S).set i x = fcells K.actv S') : PM K κ evv sv Y s S' (W.setCell ⟨b, i, none⟩ x) := by
  have hb : ∀ k, κ k ≠ 5 → (W.setCell ⟨b, i, none⟩ x).heap[k]? = W.heap[k]? := fun k q => Below.heap_setCell _ _ _ _ fun z => q (by
    obtain rfl : k = b := by first | exact z | exact z.symm
    exact h.lab.s _ hv)
  have hsz : W.heap.size ≤ (W.setCell ⟨b, i, none⟩ x).heap.size := by simp
  have V := own_putN h.sr hv i x
  rw [hx] at V
  exact {
    lab := { h.lab with lt := fun k q => ⟨(h.lab.lt k q).1, Nat.lt_of_lt_of_le (h.lab.lt k q).2 hsz⟩ }
    cn := h.cn.keep hsz fun k q => hb k (by have := h.lab.nc q; omega)
    blk := (hb K.g (by rw [h.lab.g]; decide)).trans h.blk
    vr := own_of_block h.vr fun k e => hb k (by rw [h.lab.v k e]; decide)
    ar := own_of_block h.ar fun k e => hb k (by rw [h.lab.a k e]; decide)
    hY := h.hY
    yr := fun i y q => own_of_block (h.yr i y q) fun k e => hb k (by rw [h.lab.y i y k q e]; omega)
    er := own_of_block h.er fun k e => hb k (by rw [h.lab.e k e]; decide)
    sr := by rw [hl]; exact V }
/-- The labels behind a row that grew. -/
def relabP (n : Nat) (κ : Nat → Nat) (v : Value) (k : Nat) : Nat := if v.ownBlock = some k then n else if κ k = n then 0 else κ k
/-- An event is put behind the others, and the struct told of it. -/
theorem PM.event (h : PM K κ evv sv Y s S W) {evv' : Value} {e : Int × Int × Int} (hg : W.grownBy W' evv.ownBlock) (hO : W'.ownsRow K.base 86 3 evv' (s.ev.length + 1) (ecells s.ev ++ ecell e)) (hat : evv'.ownBlock = evv.ownBlock ∨ evv'.ownBlock = some W.heap.size) :
    PM K (relabP 4 κ evv') evv' sv Y { s with ev := s.ev ++ [e] } S (W'.setCell ⟨K.g, 3, none⟩ evv') ∧ ∀ k, relabP 4 κ evv' k ≠ 0 → κ k ≠ 0 ∨ W.heap.size ≤ k := by
  have hnew : ∀ k, evv'.ownBlock = some k → κ k = 4 ∨ (k = W.heap.size ∧ κ k = 0) := fun k q => by
    rcases hat with z | z
    · exact .inl (h.lab.e k (z ▸ q))
    · obtain rfl : W.heap.size = k := Option.some.inj (z.symm.trans q)
      refine .inr ⟨rfl, ?_⟩
      by_cases c : κ W.heap.size = 0
      · exact c
      · have := (h.lab.lt _ c).2; omega
  have hre : ∀ k, κ k ≠ 0 → κ k ≠ 4 → relabP 4 κ evv' k = κ k := fun k q1 q2 => by
    unfold relabP
    rw [if_neg (fun z => by rcases hnew k z with c | ⟨-, c⟩ <;> omega), if_neg q2]
  have hW : ∀ k, k < W.heap.size → κ k ≠ 4 → W'.heap[k]? = W.heap[k]? := fun k q1 q2 => hg.block k q1 fun z => q2 (h.lab.e k z.symm)
  have hb : ∀ k, k ≠ K.g → (W'.setCell ⟨K.g, 3, none⟩ evv').heap[k]? = W'.heap[k]? := fun k q => Below.heap_setCell _ _ _ _ fun z => q (by first | exact z | exact z.symm)
  have hng : ∀ k, κ k ≠ 1 → k ≠ K.g := fun k q z => q (by rw [z]; exact h.lab.g)
  have hall : ∀ k, κ k ≠ 0 → κ k ≠ 1 → κ k ≠ 4 → (W'.setCell ⟨K.g, 3, none⟩ evv').heap[k]? = W.heap[k]? := fun k q1 q2 q3 => (hb k (hng k q2)).trans (hW k (h.lab.lt k q1).2 q3)
  have hsz : W.heap.size ≤ (W'.setCell ⟨K.g, 3, none⟩ evv').heap.size := by have := hg.size; simpa using this
  have hB : Blk W' K.g 64 (pcells K evv sv s.steps) := (hW K.g h.glt.2 (by rw [h.lab.g]; decide)).trans h.blk
  refine ⟨{
    lab := {
      g := by rw [hre K.g (by rw [h.lab.g]; decide) (by rw [h.lab.g]; decide)]; exact h.lab.g
      v := fun k e => by have := h.lab.v k e; rw [hre k (by omega) (by omega)]; exact this
      a := fun k e => by have := h.lab.a k e; rw [hre k (by omega) (by omega)]; exact this
      e := fun k e => by unfold relabP; rw [if_pos e]
      s := fun k e => by have := h.lab.s k e; rw [hre k (by omega) (by omega)]; exact this
      c := fun k e => by have := h.lab.c k e; rw [hre k (by omega) (by omega)]; exact this
      y := fun i y k q e => by have := h.lab.y i y k q e; rw [hre k (by omega) (by omega)]; exact this
      lt := fun k q => by
        unfold relabP at q
        split at q
        · next z =>
          have := hO.lt k z
          exact ⟨this.1, by simpa using this.2⟩
        · split at q
          · exact absurd rfl q
          · exact ⟨(h.lab.lt k q).1, Nat.lt_of_lt_of_le (h.lab.lt k q).2 hsz⟩ }
    cn := h.cn.keep hsz fun k q => by
      have hn := h.lab.nc q
      have hk : k < W.heap.size := by
        rcases q with q | q
        · exact Nat.lt_of_lt_of_le q h.cn.size
        · have := h.lab.c k q; exact (h.lab.lt k (by omega)).2
      exact (hb k (hng k (by omega))).trans (hW k hk (by omega))
    blk := hB.set 3 evv'
    vr := own_of_block h.vr fun k e => by have := h.lab.v k e; exact hall k (by omega) (by omega) (by omega)
    ar := own_of_block h.ar fun k e => by have := h.lab.a k e; exact hall k (by omega) (by omega) (by omega)
    hY := h.hY
    yr := fun i y q => own_of_block (h.yr i y q) fun k e => by have := h.lab.y i y k q e; exact hall k (by omega) (by omega) (by omega)
    er := by
      show World.ownsRow _ _ _ _ _ (s.ev ++ [e]).length (ecells (s.ev ++ [e]))
      rw [List.length_append, List.length_singleton, ecells_snoc]
      exact own_of_block hO fun k e => hb k (fun z => by
        have a := h.lab.g
        rw [← z] at a
        rcases hnew k e with c | ⟨-, c⟩ <;> omega)
    sr := own_of_block h.sr fun k e => by have := h.lab.s k e; exact hall k (by omega) (by omega) (by omega) }, ?_⟩
  intro k q
  unfold relabP at q
  split at q
  · next z => rcases hnew k z with c | ⟨c, -⟩
              · exact .inl (by omega)
              · exact .inr (by omega)
  · split at q
    · exact absurd rfl q
    · exact .inl q
/-- A node is put on top, and the struct told of it. -/
theorem PM.push (h : PM K κ evv sv Y s S W) {sv' : Value} {f : Fr} (hg : W.grownBy W' sv.ownBlock) (hO : W'.ownsRow K.base 161 8 sv' (S.length + 1) (fcells K.actv S ++ fcell K.actv f)) (hat : sv'.ownBlock = sv.ownBlock ∨ sv'.ownBlock = some W.heap.size) :
    PM K (relabP 5 κ sv') evv sv' Y s (f :: S) (W'.setCell ⟨K.g, 10, none⟩ sv') ∧ ∀ k, relabP 5 κ sv' k ≠ 0 → κ k ≠ 0 ∨ W.heap.size ≤ k := by
  have hnew : ∀ k, sv'.ownBlock = some k → κ k = 5 ∨ (k = W.heap.size ∧ κ k = 0) := fun k q => by
    rcases hat with z | z
    · exact .inl (h.lab.s k (z ▸ q))
    · obtain rfl : W.heap.size = k := Option.some.inj (z.symm.trans q)
      refine .inr ⟨rfl, ?_⟩
      by_cases c : κ W.heap.size = 0
      · exact c
      · have := (h.lab.lt _ c).2; omega
  have hre : ∀ k, κ k ≠ 0 → κ k ≠ 5 → relabP 5 κ sv' k = κ k := fun k q1 q2 => by
    unfold relabP
    rw [if_neg (fun z => by rcases hnew k z with c | ⟨-, c⟩ <;> omega), if_neg q2]
  have hW : ∀ k, k < W.heap.size → κ k ≠ 5 → W'.heap[k]? = W.heap[k]? := fun k q1 q2 => hg.block k q1 fun z => q2 (h.lab.s k z.symm)
  have hb : ∀ k, k ≠ K.g → (W'.setCell ⟨K.g, 10, none⟩ sv').heap[k]? = W'.heap[k]? := fun k q => Below.heap_setCell _ _ _ _ fun z => q (by first | exact z | exact z.symm)
  have hng : ∀ k, κ k ≠ 1 → k ≠ K.g := fun k q z => q (by rw [z]; exact h.lab.g)
  have hall : ∀ k, κ k ≠ 0 → κ k ≠ 1 → κ k ≠ 5 → (W'.setCell ⟨K.g, 10, none⟩ sv').heap[k]? = W.heap[k]? := fun k q1 q2 q3 => (hb k (hng k q2)).trans (hW k (h.lab.lt k q1).2 q3)
  have hsz : W.heap.size ≤ (W'.setCell ⟨K.g, 10, none⟩ sv').heap.size := by have := hg.size; simpa using this
  have hB : Blk W' K.g 64 (pcells K evv sv s.steps) := (hW K.g h.glt.2 (by rw [h.lab.g]; decide)).trans h.blk
  refine ⟨{
    lab := {
      g := by rw [hre K.g (by rw [h.lab.g]; decide) (by rw [h.lab.g]; decide)]; exact h.lab.g
      v := fun k e => by have := h.lab.v k e; rw [hre k (by omega) (by omega)]; exact this
      a := fun k e => by have := h.lab.a k e; rw [hre k (by omega) (by omega)]; exact this
      e := fun k e => by have := h.lab.e k e; rw [hre k (by omega) (by omega)]; exact this
      s := fun k e => by unfold relabP; rw [if_pos e]
      c := fun k e => by have := h.lab.c k e; rw [hre k (by omega) (by omega)]; exact this
      y := fun i y k q e => by have := h.lab.y i y k q e; rw [hre k (by omega) (by omega)]; exact this
      lt := fun k q => by
        unfold relabP at q
        split at q
        · next z =>
          have := hO.lt k z
          exact ⟨this.1, by simpa using this.2⟩
        · split at q
          · exact absurd rfl q
          · exact ⟨(h.lab.lt k q).1, Nat.lt_of_lt_of_le (h.lab.lt k q).2 hsz⟩ }
    cn := h.cn.keep hsz fun k q => by
      have hn := h.lab.nc q
      have hk : k < W.heap.size := by
        rcases q with q | q
        · exact Nat.lt_of_lt_of_le q h.cn.size
        · have := h.lab.c k q; exact (h.lab.lt k (by omega)).2
      exact (hb k (hng k (by omega))).trans (hW k hk (by omega))
    blk := hB.set 10 sv'
    vr := own_of_block h.vr fun k e => by have := h.lab.v k e; exact hall k (by omega) (by omega) (by omega)
    ar := own_of_block h.ar fun k e => by have := h.lab.a k e; exact hall k (by omega) (by omega) (by omega)
    hY := h.hY
    yr := fun i y q => own_of_block (h.yr i y q) fun k e => by have := h.lab.y i y k q e; exact hall k (by omega) (by omega) (by omega)
    er := own_of_block h.er fun k e => by have := h.lab.e k e; exact hall k (by omega) (by omega) (by omega)
    sr := own_of_block hO fun k e => hb k (fun z => by
        have a := h.lab.g
        rw [← z] at a
        rcases hnew k e with c | ⟨-, c⟩ <;> omega) }, ?_⟩
  intro k q
  unfold relabP at q
  split at q
  · next z => rcases hnew k z with c | ⟨c, -⟩
              · exact .inl (by omega)
              · exact .inr (by omega)
  · split at q
    · exact absurd rfl q
    · exact .inl q
theorem PM.grown {row : Option Nat} (h : PM K κ evv sv Y s S W) (hg : W.grownBy W' row) (hr : ∀ k, row = some k → κ k = 0 ∧ K.base ≤ k) : PM K κ evv sv Y s S W' :=
  h.move hg.size fun k q1 q2 => hg.block k q1 fun z => by
    obtain ⟨a, b⟩ := hr k z.symm
    omega
/-- Who ends a run: nobody yet; or a function that tells how. -/
def Ender (s : St) (v : Value) : Prop := (s.over = false ∧ v = .nilFunc) ∨ (s.over = true ∧ ((s.value = 0 ∧ v = .func (.func 35) #[.int .i64 s.kind] #[]) ∨ (s.kind = 0 ∧ v = .func (.func 116) #[.int .i64 s.value] #[])))
/-- What a turn comes to. -/
def Turn (K : PK) (κ : Nat → Nat) (W : World) (c : Cfg) (e : Ending) (W' : World) : Prop :=
  ∃ κ' evv' sv' Y' v, PM K κ' evv' sv' Y' c.1 c.2 W' ∧ Went κ κ' W W' ∧ e = .returned v ∧ Ender c.1 v
theorem Turn.on {κ' : Nat → Nat} {evv' sv' : Value} {Y' : List ((Option Addr × Nat) × List Int)} {c : Cfg} (h : PM K κ' evv' sv' Y' c.1 c.2 W') (hw : Went κ κ' W W') (ho : c.1.over = false) : Turn K κ W c (.returned .nilFunc) W' :=
  ⟨κ', evv', sv', Y', _, h, hw, rfl, .inl ⟨ho, rfl⟩⟩
theorem Turn.stopped {κ' : Nat → Nat} {evv' sv' : Value} {Y' : List ((Option Addr × Nat) × List Int)} {s' : St} {S' : List Fr} (h : PM K κ' evv' sv' Y' s' S' W') (hw : Went κ κ' W W') (ho : s'.over = false) (k : Int) : Turn K κ W (s'.stop k 0, S') (.returned (.func (.func 35) #[.int .i64 k] #[])) W' :=
  ⟨κ', evv', sv', Y', _, h.stop k 0, hw, rfl, .inr ⟨by rw [stop_no ho], .inl ⟨by rw [stop_no ho], by rw [stop_no ho]⟩⟩⟩
theorem Turn.then {κ' : Nat → Nat} {W1 W2 : World} {c : Cfg} {e : Ending} (h : Turn K κ' W1 c e W2) (hw : Went κ κ' W W1) : Turn K κ W c e W2 := by
  obtain ⟨κ2, evv', sv', Y', v, h1, h2, h3⟩ := h
  exact ⟨κ2, evv', sv', Y', v, h1, hw.trans h2, h3⟩
end
end Go.Proofs.YtodejloonfkkmaaGreat.Mach
