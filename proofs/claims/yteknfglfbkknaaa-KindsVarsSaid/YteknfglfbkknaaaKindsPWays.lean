/-
  Package kinds, walked: the ways that nodes are made, in a map by their tags.
-/
import Derived.Test.YteknfglfbkknaaaKindsPSmall
import Derived.Maps.OwnOps
namespace Go.Proofs.Yteknfglfbkknaaa.Kinds
open Go.RowKit Mem _root_.Go.Proofs.Yteknfglfbkknaaa.Arena
set_option linter.unusedVariables false

/-- A write of a map's literal, at the operation. -/
theorem wpList_insert_own {H : Type} {P : Program} (w : World) {ops : Array Oper} {rest : List Oper} {o : Oper} {a : Act} {Q : Exit → Act → World → Prop}
    (hg : o.guard = none) (m x v : Operand) (t : TypeId) (hop : o.op = Op.insert t m x v)
    (k e : TypeId) (K : Go.Maps.Keyed P k) (ht : P.underlying t = some (.map k e)) (R : Value → Option (DataW H × List MemPlace)) (b n : Nat) (D : DataW H)
    (hm : a.eval m = .map (some b)) (hown : w.ownsMap P k R b n D) (hn : n < maxLen) (key val : Value) (kl : Lit) (hx : a.eval x = key) (hv : a.eval v = val) (hkey : keyOf P k key = some kl)
    (d : DataW H) (ps : List MemPlace) (hval : R val = some (d, ps))
    (hK : ∀ w', w'.ownsMap P k R b (n + 1) (D.put kl d) → w.grownBy w' (some b) → wpList P ops Q rest (a.put o.dst undef) w') :
    wpList P ops Q (o :: rest) a w := by
  refine wpList_plain hg fun K' hK' => ?_
  obtain ⟨w', hrun, r1, r2⟩ := hown.update K ht hn hkey hval
  unfold Oper.wp
  simp [execOp, hop, hm, hx, hv, hrun, Result.andThen]
  exact hK' _ _ (hK w' r1 r2)
/-- A new map, at the operation. -/
theorem wpList_map_own {H : Type} {P : Program} (w : World) {ops : Array Oper} {rest : List Oper} {o : Oper} {a : Act} {Q : Exit → Act → World → Prop}
    (hg : o.guard = none) (t : TypeId) (hop : o.op = Op.makeMap t none) (k : TypeId) (R : Value → Option (DataW H × List MemPlace))
    (hK : ∀ b w', b = w.heap.size → w'.ownsMap P k R b 0 (.map []) → Below w.heap.size w w' → wpList P ops Q rest (a.put o.dst (.map (some b))) w') :
    wpList P ops Q (o :: rest) a w := by
  refine wpList_plain hg fun K' hK' => ?_
  have hrun := @run_makeMap P t w
  unfold Oper.wp
  simp [execOp, hop, hrun, Result.andThen]
  exact hK' _ _ (hK _ _ rfl (World.ownsMap_made w P k R) ((Below.refl _ _).alloc (Nat.le_refl _) _))

/-- An element reads as itself. -/
def itself (v : Value) : Option (DataW Value × List MemPlace) := some (.held v, [])
/-- How a node of a tag is made. -/
def wayOf (t : Int) : Value := if t = 1 then .iface 70 (.agg #[.int .i64 0, .int .i64 0]) else if t = 2 then .iface 70 (.agg #[.int .i64 0, .int .i64 1]) else if t = 3 then .iface 72 (.agg #[]) else if t = 4 then .iface 74 (.agg #[.int .i64 0]) else if t = 5 then .iface 70 (.agg #[.int .i64 0, .int .i64 0]) else if t = 6 then .iface 70 (.agg #[.int .i64 1, .int .i64 1]) else if t = 7 then .iface 70 (.agg #[.int .i64 0, .int .i64 0]) else if t = 8 then .iface 70 (.agg #[.int .i64 0, .int .i64 0]) else if t = 9 then .iface 70 (.agg #[.int .i64 0, .int .i64 0]) else if t = 10 then .iface 70 (.agg #[.int .i64 0, .int .i64 0]) else if t = 11 then .iface 70 (.agg #[.int .i64 0, .int .i64 0]) else if t = 12 then .iface 70 (.agg #[.int .i64 0, .int .i64 1]) else if t = 13 then .iface 70 (.agg #[.int .i64 0, .int .i64 1]) else if t = 14 then .iface 70 (.agg #[.int .i64 0, .int .i64 1]) else if t = 15 then .iface 70 (.agg #[.int .i64 0, .int .i64 1]) else if t = 16 then .iface 70 (.agg #[.int .i64 0, .int .i64 1]) else if t = 17 then .iface 70 (.agg #[.int .i64 0, .int .i64 1]) else if t = 18 then .iface 70 (.agg #[.int .i64 1, .int .i64 1]) else if t = 19 then .iface 70 (.agg #[.int .i64 1, .int .i64 1]) else if t = 20 then .iface 70 (.agg #[.int .i64 2, .int .i64 2]) else if t = 21 then .iface 75 (.agg #[]) else if t = 22 then .iface 74 (.agg #[.int .i64 2]) else if t = 23 then .iface 76 (.agg #[]) else if t = 24 then .iface 76 (.agg #[]) else if t = 25 then .iface 70 (.agg #[.int .i64 0, .int .i64 2]) else if t = 26 then .iface 70 (.agg #[.int .i64 0, .int .i64 2]) else .nilIface
/-- The map of all ways. -/
def table : DataW Value := (((((((((((((((((((((((((((DataW.map [] : DataW Value).put (.int .i64 1) (.held (.iface 70 (.agg #[.int .i64 0, .int .i64 0])))).put (.int .i64 2) (.held (.iface 70 (.agg #[.int .i64 0, .int .i64 1])))).put (.int .i64 3) (.held (.iface 72 (.agg #[])))).put (.int .i64 4) (.held (.iface 74 (.agg #[.int .i64 0])))).put (.int .i64 5) (.held (.iface 70 (.agg #[.int .i64 0, .int .i64 0])))).put (.int .i64 6) (.held (.iface 70 (.agg #[.int .i64 1, .int .i64 1])))).put (.int .i64 7) (.held (.iface 70 (.agg #[.int .i64 0, .int .i64 0])))).put (.int .i64 8) (.held (.iface 70 (.agg #[.int .i64 0, .int .i64 0])))).put (.int .i64 9) (.held (.iface 70 (.agg #[.int .i64 0, .int .i64 0])))).put (.int .i64 10) (.held (.iface 70 (.agg #[.int .i64 0, .int .i64 0])))).put (.int .i64 11) (.held (.iface 70 (.agg #[.int .i64 0, .int .i64 0])))).put (.int .i64 12) (.held (.iface 70 (.agg #[.int .i64 0, .int .i64 1])))).put (.int .i64 13) (.held (.iface 70 (.agg #[.int .i64 0, .int .i64 1])))).put (.int .i64 14) (.held (.iface 70 (.agg #[.int .i64 0, .int .i64 1])))).put (.int .i64 15) (.held (.iface 70 (.agg #[.int .i64 0, .int .i64 1])))).put (.int .i64 16) (.held (.iface 70 (.agg #[.int .i64 0, .int .i64 1])))).put (.int .i64 17) (.held (.iface 70 (.agg #[.int .i64 0, .int .i64 1])))).put (.int .i64 18) (.held (.iface 70 (.agg #[.int .i64 1, .int .i64 1])))).put (.int .i64 19) (.held (.iface 70 (.agg #[.int .i64 1, .int .i64 1])))).put (.int .i64 20) (.held (.iface 70 (.agg #[.int .i64 2, .int .i64 2])))).put (.int .i64 21) (.held (.iface 75 (.agg #[])))).put (.int .i64 22) (.held (.iface 74 (.agg #[.int .i64 2])))).put (.int .i64 23) (.held (.iface 76 (.agg #[])))).put (.int .i64 24) (.held (.iface 76 (.agg #[])))).put (.int .i64 25) (.held (.iface 70 (.agg #[.int .i64 0, .int .i64 2])))).put (.int .i64 26) (.held (.iface 70 (.agg #[.int .i64 0, .int .i64 2]))))
theorem key_int : Go.Maps.Keyed Try.prog 3 := Go.Maps.int_keyed Try.underlying3
theorem nil_way (w : World) : (zeroValue 56).run Try.prog w = .ok .nilIface w := by kernel_rfl
set_option maxRecDepth 100000 in
/-- A look into the map of ways. -/
theorem look {w : World} {b : Nat} (h : w.ownsMap Try.prog 3 itself b 26 table) (t : Nat) (h1 : 1 ≤ t) (h2 : t ≤ 26) : (Instr.lookup 50 (.map (some b)) (.int .i64 t) false).run Try.prog w = .ok (wayOf t) w := by
  have hw : (Lit.int .i64 (t : Int)).wf = true := by
    have h0 : (List.range 27).all (fun t => (Lit.int .i64 (t : Int)).wf) = true := by decide +kernel
    exact List.all_eq_true.1 h0 t (List.mem_range.2 (by omega))
  obtain ⟨v, ps, hrun, hv⟩ := h.lookup (t := 50) key_int Try.underlying50 (nil_way w) (zd := .held .nilIface) (zp := []) rfl (Go.Maps.keyOf_int_mk Try.underlying3 hw)
  have hat : table.atKey (.int .i64 t) (.held .nilIface) = .held (wayOf t) := by
    rcases (show t = 1 ∨ t = 2 ∨ t = 3 ∨ t = 4 ∨ t = 5 ∨ t = 6 ∨ t = 7 ∨ t = 8 ∨ t = 9 ∨ t = 10 ∨ t = 11 ∨ t = 12 ∨ t = 13 ∨ t = 14 ∨ t = 15 ∨ t = 16 ∨ t = 17 ∨ t = 18 ∨ t = 19 ∨ t = 20 ∨ t = 21 ∨ t = 22 ∨ t = 23 ∨ t = 24 ∨ t = 25 ∨ t = 26 by omega) with rfl | rfl | rfl | rfl | rfl | rfl | rfl | rfl | rfl | rfl | rfl | rfl | rfl | rfl | rfl | rfl | rfl | rfl | rfl | rfl | rfl | rfl | rfl | rfl | rfl | rfl
    all_goals kernel_rfl
  rw [hat] at hv
  cases hv
  exact hrun

set_option maxRecDepth 100000 in
set_option maxHeartbeats 4000000 in
theorem ways_any (w : World) : Calls Try.prog 36 #[] w fun e w' => ∃ b, e = .returned (.map (some b)) ∧ b < w'.heap.size ∧ w'.ownsMap Try.prog 3 itself b 26 table ∧ Below w.heap.size w w' := by
  have q1 : Below w.heap.size w (w.alloc (.cells #[.int .i64 0, .int .i64 0] 70)) := (Below.refl _ _).alloc (Nat.le_refl _) _
  have q2 : Below w.heap.size w ((w.alloc (.cells #[.int .i64 0, .int .i64 0] 70)).alloc (.cells #[.int .i64 0, .int .i64 1] 70)) := q1.alloc q1.size _
  have hB0 : Below w.heap.size w (((w.alloc (.cells #[.int .i64 0, .int .i64 0] 70)).alloc (.cells #[.int .i64 0, .int .i64 1] 70)).alloc (.cells #[.int .i64 1, .int .i64 1] 70)) := q2.alloc q2.size _
  have s1 : (w.alloc (.cells #[.int .i64 0, .int .i64 0] 70)).heap.size = w.heap.size + 1 := World.size_alloc _ _
  have s2 : ((w.alloc (.cells #[.int .i64 0, .int .i64 0] 70)).alloc (.cells #[.int .i64 0, .int .i64 1] 70)).heap.size = w.heap.size + 1 + 1 := by rw [World.size_alloc, World.size_alloc]
  have s3 : (((w.alloc (.cells #[.int .i64 0, .int .i64 0] 70)).alloc (.cells #[.int .i64 0, .int .i64 1] 70)).alloc (.cells #[.int .i64 1, .int .i64 1] 70)).heap.size = w.heap.size + 1 + 1 + 1 := by rw [World.size_alloc, World.size_alloc, World.size_alloc]
  have b1 := ((Blk.new w 70 #[.int .i64 0, .int .i64 0]).alloc (.cells #[.int .i64 0, .int .i64 1] 70)).alloc (.cells #[.int .i64 1, .int .i64 1] 70)
  have b2 := (Blk.new (w.alloc (.cells #[.int .i64 0, .int .i64 0] 70)) 70 #[.int .i64 0, .int .i64 1]).alloc (.cells #[.int .i64 1, .int .i64 1] 70)
  have b3 := Blk.new ((w.alloc (.cells #[.int .i64 0, .int .i64 0] 70)).alloc (.cells #[.int .i64 0, .int .i64 1] 70)) 70 #[.int .i64 1, .int .i64 1]
  rw [s1] at b2
  rw [s2] at b3
  have l1 := b1.lt
  have l2 := b2.lt
  have l3 := b3.lt
  have HC := Lib.hid (fun W (h : Below (((w.alloc (.cells #[.int .i64 0, .int .i64 0] 70)).alloc (.cells #[.int .i64 0, .int .i64 1] 70)).alloc (.cells #[.int .i64 1, .int .i64 1] 70)).heap.size (((w.alloc (.cells #[.int .i64 0, .int .i64 0] 70)).alloc (.cells #[.int .i64 0, .int .i64 1] 70)).alloc (.cells #[.int .i64 1, .int .i64 1] 70)) W) => And.intro (b1.below h l1).two (And.intro (b2.below h l2).two (b3.below h l3).two))
  clear b1 b2 b3 l1 l2 l3 s1 s2 q1 q2
  go_enter Try.func36, Try.ntmps36
  iterate 53 (first | go_values | go_skip | go_guarded | go_step)

  rw [List.append_eq]
  simp only [List.cons_append, List.nil_append]
  go_wp2_with (first
    | (refine wpList_map_own _ rfl 50 rfl 3 itself ?_; intro b w4 hb0 hown hB; have hb := Lib.hid hb0; clear hb0; obtain ⟨⟨c1, c2⟩, ⟨c3, c4⟩, ⟨c5, c6⟩⟩ := HC.out _ hB)
    | (refine wpList_insert_own _ rfl _ _ _ 50 rfl 3 56 key_int Try.underlying50 itself _ _ _ rfl hown (by unfold maxLen; omega) _ _ _ rfl rfl (Go.Maps.keyOf_int_mk Try.underlying3 (by decide)) _ [] rfl ?_; intro w5 ho5 hg5; replace hown := ho5; replace hB := hB.grown hg5 hB.size (fun j hj => by cases hj; exact Nat.le_of_eq hb.out.symm); clear ho5 hg5; obtain ⟨⟨c1, c2⟩, ⟨c3, c4⟩, ⟨c5, c6⟩⟩ := HC.out _ hB))
  go_ret
  exact ⟨b, rfl, hown.lt, hown, hB0.trans (hB.mono hB0.size)⟩

end Go.Proofs.Yteknfglfbkknaaa.Kinds
