/-
  Package direct: a run that is made: its struct; the places behind nodes; what variables have, one by one.
-/
import Derived.Test.YtodejloonfkkmaaDirPMark
import Derived.Test.YtodejloonfkkmaaDirPDeed
import Derived.Test.YtodejloonfkkmaaOrdersU
set_option linter.unusedVariables false
set_option linter.unusedSimpArgs false
namespace Go.Proofs.Ytodejloonfkkmaa.Dir
open Go.RowKit Mem _root_.Go.Proofs.Ytodejloonfkkmaa.Arena _root_.Go.Proofs.Ytodejloonfkkmaa.Kinds _root_.Go.Proofs.Ytodejloonfkkmaa.Path _root_.Go.Proofs.Ytodejloonfkkmaa.Cat _root_.Go.Proofs.Ytodejloonfkkmaa.Suite _root_.Go.Proofs.Ytodejloonfkkmaa.Mach

/-- An operation of a region that draws its order: what is built, its run told ahead; what is boxed. -/
theorem step_build {P : Program} {ops : Array Oper} {o : Oper} {a : Act} {w : World} {K : Act → World → Prop} {Q : Exit → Act → World → Prop} {E : Prop} (hgd : o.guard = none) (t : TypeId) (parts : Array (Nat × Operand)) (ho : o.op = .build t parts) (v : Value)
    (hr : (Instr.build t (parts.map fun x => match x with | (i, x) => (i, a.eval x))).run P w = .ok v w) (h : K (a.put o.dst v) w) : if Region.wanted o (yielded ops a.tmps) = true then Oper.wp P o a w K Q else E := by
  have hw : Region.wanted o (yielded ops a.tmps) = true := by simp [Region.wanted, hgd]
  rw [if_pos hw]
  unfold Oper.wp execOp
  simp only [ho, Sem.run_bind, hr, Result.andThen_ok]
  exact h
theorem step_box {P : Program} {ops : Array Oper} {o : Oper} {a : Act} {w w' : World} {K : Act → World → Prop} {Q : Exit → Act → World → Prop} {E : Prop} (hgd : o.guard = none) (t : TypeId) (x : Operand) (ho : o.op = .box t x) (v : Value)
    (hr : (Instr.box t (a.eval x)).run P w = .ok v w') (h : K (a.put o.dst v) w') : if Region.wanted o (yielded ops a.tmps) = true then Oper.wp P o a w K Q else E := by
  have hw : Region.wanted o (yielded ops a.tmps) = true := by simp [Region.wanted, hgd]
  rw [if_pos hw]
  unfold Oper.wp execOp
  simp only [ho, Sem.run_bind, hr, Result.andThen_ok]
  exact h

def dkOf (p : Prg) (F base g bb ab : Nat) : DK := ⟨base, g, p, F, bb, p.xs.length, .slice (some ⟨ab, 0, none⟩) p.vs.length p.vs.length⟩
/-- The struct was made, its rows are empty yet. -/
structure BornD (p : Prg) (F : Nat) (w : World) (g bb ab : Nat) (W : World) : Prop where
  below : Below w.heap.size w W
  lo : w.heap.size ≤ g ∧ w.heap.size ≤ bb ∧ w.heap.size ≤ ab
  ne : g ≠ bb ∧ g ≠ ab ∧ bb ≠ ab
  blk : Blk W g 54 (rcells (dkOf p F w.heap.size g bb ab) (.slice none 0 0) 0 0)
  bb : Blk W bb 3 (icells (List.replicate p.xs.length 0)).toArray
  ab : W.ownsRow w.heap.size 22 1 (.slice (some ⟨ab, 0, none⟩) p.vs.length p.vs.length) p.vs.length (List.replicate p.vs.length (.slice none 0 0))
theorem born_of (p : Prg) (F : Nat) {w c : World} {bb ab : Nat} (hB : Below w.heap.size w c) (hb : Blk c bb 3 (icells (List.replicate p.xs.length 0)).toArray) (hbl : w.heap.size ≤ bb)
    (ha : c.ownsRow w.heap.size 22 1 (.slice (some ⟨ab, 0, none⟩) p.vs.length p.vs.length) p.vs.length (List.replicate p.vs.length (.slice none 0 0))) (hne : bb ≠ ab) :
    BornD p F w c.heap.size bb ab (c.alloc (.cells (rcells (dkOf p F w.heap.size c.heap.size bb ab) (.slice none 0 0) 0 0) 54)) := by
  have hal := ha.lt ab rfl
  exact {
    below := hB.alloc hB.size _
    lo := ⟨hB.size, hbl, hal.1⟩
    ne := ⟨by have := hb.lt; omega, by omega, hne⟩
    blk := Blk.new c _ _
    bb := hb.alloc _
    ab := ha.alloc _ }
/-- A run whose variables are made one by one. -/
structure MkD (K : DK) (κ : Nat → Nat) (Y : List ((Option Addr × Nat) × List Int)) (W : World) : Prop where
  lab : DLab κ K (.slice none 0 0) Y W.heap.size
  body : Nodes W K.base K.p.B K.p.xs
  lx : K.p.xs.length ≤ 1000000
  lv : K.p.vs.length ≤ 1000000
  size : K.base ≤ W.heap.size
  blk : Blk W K.g 54 (rcells K (.slice none 0 0) 0 0)
  ar : W.ownsRow K.base 22 1 K.cv K.p.vs.length (tcells Y)
  yr : ∀ (i : Nat) (y : (Option Addr × Nat) × List Int), Y[i]? = some y → W.ownsRow K.base 3 1 (.slice y.1.1 y.2.length y.1.2) y.2.length (icells y.2)
  br : ∀ i n, scan 1 (K.p.xs.drop i) = some n → W.cell? ⟨K.bb, i, none⟩ = some (.int .i64 ((i + n : Nat) : Int))
section
variable {K : DK} {κ : Nat → Nat} {Y : List ((Option Addr × Nat) × List Int)} {W W' : World} {p : Prg} {F : Nat} {w : World}
theorem MkD.move (h : MkD K κ Y W) (hs : W.heap.size ≤ W'.heap.size) (hb : ∀ k, k < W.heap.size → κ k ≠ 0 ∨ k < K.base → W'.heap[k]? = W.heap[k]?) : MkD K κ Y W' where
  lab := { h.lab with lt := fun k q => ⟨(h.lab.lt k q).1, Nat.lt_of_lt_of_le (h.lab.lt k q).2 hs⟩ }
  body := h.body.keep fun k q => hb k (Nat.lt_of_lt_of_le q h.size) (.inr q)
  lx := h.lx
  lv := h.lv
  size := Nat.le_trans h.size hs
  blk := (hb K.g (h.lab.lt K.g (by rw [h.lab.g]; decide)).2 (.inl (by rw [h.lab.g]; decide))).trans h.blk
  ar := own_of_block h.ar fun k e => by have := h.lab.a k e; exact hb k (h.lab.lt k (by omega)).2 (.inl (by omega))
  yr := fun i y q => own_of_block (h.yr i y q) fun k e => by have := h.lab.y i y k q e; exact hb k (h.lab.lt k (by omega)).2 (.inl (by omega))
  br := fun i n q => by
    rw [← h.br i n q]
    exact World.cell?_of_block (hb K.bb (h.lab.lt K.bb (by rw [h.lab.b]; decide)).2 (.inl (by rw [h.lab.b]; decide)))
theorem MkD.below (h : MkD K κ Y W) (hb : Below W.heap.size W W') : MkD K κ Y W' := h.move hb.size fun k q _ => hb.block k q
theorem MkD.drew (h : MkD K κ Y W) : MkD K κ Y W.drew := h.move (Nat.le_refl _) fun _ _ _ => rfl
theorem MkD.cell (h : MkD K κ Y W) (i : Nat) : W.cell? ⟨K.g, i, none⟩ = (rcells K (.slice none 0 0) 0 0)[i]? := h.blk.cell i
/-- All variables were made. -/
theorem MkD.dm (h : MkD K κ Y W) {s : St} (hY : Y.map (·.2) = dcells K.p.vs s) (h1 : s.ev = []) (h2 : s.steps = 0) : DM K κ (.slice none 0 0) Y s 0 W :=
  ⟨h.lab, h.body, h.lx, h.lv, h.size, by rw [h2]; exact h.blk, h.ar, hY, h.yr, h.br, by rw [h1]; exact World.ownsRow_nil _ _ _ _⟩
/-- What a variable has is put in. -/
theorem MkD.put (h : MkD K κ Y W) {ab ac i nb z : Nat} (hav : K.cv = .slice (some ⟨ab, 0, none⟩) K.p.vs.length ac) (hi : i < K.p.vs.length) (hnb : κ nb = 0) (hnB : K.base ≤ nb) (hlt : nb < W.heap.size)
    (hL : W.ownsRow K.base 3 1 (.slice (some ⟨nb, 0, none⟩) z z) z (icells (List.replicate z 0))) (hold : Y[i]? = some ((none, 0), [])) :
    ∃ κ', MkD K κ' (Y.set i ((some ⟨nb, 0, none⟩, z), List.replicate z 0)) (W.setCell ⟨ab, i, none⟩ (.slice (some ⟨nb, 0, none⟩) z z)) := by
  have hab : K.cv.ownBlock = some ab := by rw [hav]; rfl
  have ha3 := h.lab.a ab hab
  have hb : ∀ k, κ k ≠ 2 → (W.setCell ⟨ab, i, none⟩ (.slice (some ⟨nb, 0, none⟩) z z)).heap[k]? = W.heap[k]? := fun k q => Below.heap_setCell _ _ _ _ fun z => q (by
    obtain rfl : k = ab := by first | exact z | exact z.symm
    exact ha3)
  have hsz : W.heap.size ≤ (W.setCell ⟨ab, i, none⟩ (.slice (some ⟨nb, 0, none⟩) z z)).heap.size := by simp
  have hYl : i < Y.length := (List.getElem?_eq_some_iff.1 hold).1
  have V := own_put (x := .slice (some ⟨nb, 0, none⟩) z z) h.ar hab (i := i) (by rw [tcells_len]; exact hYl)
  have hlr : (List.replicate z (0 : Int)).length = z := List.length_replicate
  have ht : (tcells Y).set i (.slice (some ⟨nb, 0, none⟩) z z) = tcells (Y.set i ((some ⟨nb, 0, none⟩, z), List.replicate z 0)) := by
    unfold tcells
    rw [List.map_set]
    simp only [hlr]
  rw [ht] at V
  have hre : ∀ k, k ≠ nb → (if k = nb then 5 + i else κ k) = κ k := fun k q => if_neg q
  have hat : ∀ m y, (Y.set i ((some ⟨nb, 0, none⟩, z), List.replicate z 0))[m]? = some y → (m = i ∧ y = ((some ⟨nb, 0, none⟩, z), List.replicate z 0)) ∨ (m ≠ i ∧ Y[m]? = some y) := fun m y q => by
    rw [List.getElem?_set] at q
    split at q
    · next q1 => exact .inl ⟨q1.symm, (Option.some.inj q).symm⟩
    · next q1 => exact .inr ⟨fun e => q1 e.symm, q⟩
  have hnn : ∀ k n, κ k = n → n ≠ 0 → k ≠ nb := fun k n e q z => q (by rw [← e, z]; exact hnb)
  refine ⟨fun k => if k = nb then 5 + i else κ k, {
    lab := {
      g := by rw [hre _ (hnn _ _ h.lab.g (by decide))]; exact h.lab.g
      a := fun k e => by rw [hre _ (hnn _ _ (h.lab.a k e) (by decide))]; exact h.lab.a k e
      e := fun k e => by cases e
      b := by rw [hre _ (hnn _ _ h.lab.b (by decide))]; exact h.lab.b
      y := fun m y k q e => by
        rcases hat m y q with ⟨rfl, rfl⟩ | ⟨-, q⟩
        · obtain rfl : nb = k := Option.some.inj e
          exact if_pos rfl
        · have := h.lab.y m y k q e
          rw [hre _ (hnn _ _ this (by omega))]; exact this
      lt := fun k q => by
        by_cases e : k = nb
        · subst e; exact ⟨hnB, Nat.lt_of_lt_of_le hlt hsz⟩
        · rw [hre _ e] at q
          exact ⟨(h.lab.lt k q).1, Nat.lt_of_lt_of_le (h.lab.lt k q).2 hsz⟩ }
    body := h.body.keep fun k q => hb k (by have := h.lab.nc q; omega)
    lx := h.lx
    lv := h.lv
    size := Nat.le_trans h.size hsz
    blk := (hb K.g (by rw [h.lab.g]; decide)).trans h.blk
    ar := V
    yr := fun m y q => by
      rcases hat m y q with ⟨rfl, rfl⟩ | ⟨-, q⟩
      · show World.ownsRow _ _ _ _ (.slice (some ⟨nb, 0, none⟩) (List.replicate z (0 : Int)).length z) (List.replicate z (0 : Int)).length _
        rw [hlr]
        exact own_of_block hL fun k e => hb k (by obtain rfl : nb = k := Option.some.inj e; rw [hnb]; decide)
      · exact own_of_block (h.yr m y q) fun k e => hb k (by have := h.lab.y m y k q e; omega)
    br := fun j n q => by rw [← h.br j n q]; exact World.cell?_of_block (hb K.bb (by rw [h.lab.b]; decide)) }⟩
/-- The places behind nodes were found. -/
theorem BornD.marked {g bb ab : Nat} (h : BornD p F w g bb ab W) (hp : Nodes w w.heap.size p.B p.xs) (hlx : p.xs.length ≤ 1000000) (hlv : p.vs.length ≤ 1000000) (hnv : 0 < p.xs.length) {L' : List Int} (hM : MB g bb w.heap.size p p.xs.length L' W') (hk : Kept (· = bb) W W') (hm : Marked p.xs 0 (0 + p.xs.length) (List.replicate p.xs.length 0) L') :
    MkD (dkOf p F w.heap.size g bb ab) (fun k => if k = g then 1 else if k = ab then 2 else if k = bb then 4 else 0) (List.replicate p.vs.length ((none, 0), [])) W' := by
  obtain ⟨l1, l2, l3⟩ := h.lo
  obtain ⟨n1, n2, n3⟩ := h.ne
  have hal := (h.ab.lt ab rfl).2
  exact {
    lab := {
      g := if_pos rfl
      a := fun k e => by
        obtain rfl : ab = k := Option.some.inj e
        show (if ab = g then 1 else if ab = ab then 2 else if ab = bb then 4 else 0) = 2
        rw [if_neg (fun z => n2 z.symm), if_pos rfl]
      e := fun k e => by cases e
      b := by
        show (if bb = g then 1 else if bb = ab then 2 else if bb = bb then 4 else 0) = 4
        rw [if_neg (fun z => n1 z.symm), if_neg n3, if_pos rfl]
      y := fun i y k q e => by
        rw [List.getElem?_replicate] at q
        split at q
        · cases q; cases e
        · cases q
      lt := fun k q => by
        show w.heap.size ≤ k ∧ k < W'.heap.size
        by_cases z1 : k = g
        · subst z1; exact ⟨l1, hM.gl⟩
        rw [if_neg z1] at q
        by_cases z2 : k = ab
        · subst z2; exact ⟨l3, Nat.lt_of_lt_of_le hal hk.size⟩
        rw [if_neg z2] at q
        by_cases z3 : k = bb
        · subst z3; exact ⟨l2, hM.blk.lt⟩
        rw [if_neg z3] at q
        exact absurd rfl q }
    body := hM.body
    lx := hlx
    lv := hlv
    size := hM.bl
    blk := h.blk.kept hk n1
    ar := by
      have := own_of_block h.ab (w' := W') fun k e => by
        obtain rfl : ab = k := Option.some.inj e
        exact hk.block ab hal (fun z => n3 z.symm)
      show W'.ownsRow w.heap.size _ 1 (.slice (some ⟨ab, 0, none⟩) p.vs.length p.vs.length) p.vs.length (tcells _)
      rw [show tcells (List.replicate p.vs.length (((none, 0) : Option Addr × Nat), ([] : List Int))) = List.replicate p.vs.length (Value.slice none 0 0) by unfold tcells; rw [List.map_replicate]; rfl]
      exact this
    yr := fun i y q => by
      rw [List.getElem?_replicate] at q
      split at q
      · cases q; exact World.ownsRow_nil _ _ _ _
      · cases q
    br := fun i n q => by
      have hi : i < p.xs.length := by
        by_cases z : i < p.xs.length
        · exact z
        · rw [show (dkOf p F w.heap.size g bb ab).p.xs = p.xs from rfl, List.drop_eq_nil_of_le (by omega), show scan 1 ([] : List Nd) = none from scan_nil 0] at q; cases q
      have hc := hm.2.1 i (Nat.zero_le _) (by omega) n q
      show W'.cell? ⟨bb, i, none⟩ = _
      rw [hM.blk.cell]
      simp [icells, hc] }
end
end Go.Proofs.Ytodejloonfkkmaa.Dir
