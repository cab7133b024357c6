/-
  Package direct, walked: what nodes do, by their tags.
-/
import Derived.Test.YtodejloonfkkmaaDirPRow
import Derived.Deep.MidRow
import Derived.Deep.WholeRow
set_option linter.unusedVariables false
set_option linter.unusedSimpArgs false
namespace Go.Proofs.Ytodejloonfkkmaa.Dir
open Go.RowKit Mem _root_.Go.Proofs.Ytodejloonfkkmaa.Arena _root_.Go.Proofs.Ytodejloonfkkmaa.Kinds _root_.Go.Proofs.Ytodejloonfkkmaa.Path _root_.Go.Proofs.Ytodejloonfkkmaa.Cat _root_.Go.Proofs.Ytodejloonfkkmaa.Suite _root_.Go.Proofs.Ytodejloonfkkmaa.Mach
attribute [local go_sem ↓] Go.wp_at_zero Go.wp_at_succ

/-- What nodes do, by their tags. -/
def deedsC : Array Value := #[.nilIface, .iface 81 (.agg #[]), .iface 81 (.agg #[]), .iface 82 (.agg #[]), .iface 83 (.agg #[]), .iface 84 (.agg #[]), .iface 85 (.agg #[]), .iface 86 (.agg #[]), .iface 87 (.agg #[]), .iface 88 (.agg #[]), .iface 89 (.agg #[]), .iface 90 (.agg #[]), .iface 91 (.agg #[]), .iface 92 (.agg #[]), .iface 93 (.agg #[]), .iface 94 (.agg #[]), .iface 95 (.agg #[]), .iface 96 (.agg #[]), .iface 97 (.agg #[]), .iface 98 (.agg #[]), .iface 99 (.agg #[]), .iface 100 (.agg #[]), .iface 101 (.agg #[]), .iface 102 (.agg #[]), .iface 103 (.agg #[]), .iface 104 (.agg #[]), .iface 105 (.agg #[])]
def deeds0 : Array Value := Array.replicate 27 .nilIface
/-- A row that is built, its run told ahead. -/
theorem wpList_build {P : Program} {ops : Array Oper} {rest : List Oper} {op : Oper} {a : Act} {w : World} {Q : Exit → Act → World → Prop} (hgd : op.guard = none) (t : TypeId) (parts : Array (Nat × Operand)) (ho : op.op = .build t parts) (v : Value)
    (hr : (Instr.build t (parts.map fun x => match x with | (i, x) => (i, a.eval x))).run P w = .ok v w)
    (h : wpList P ops Q rest (a.put op.dst v) w) : wpList P ops Q (op :: rest) a w := by
  refine wpList_plain hgd fun _ hK => ?_
  unfold Oper.wp execOp
  simp only [ho, Sem.run_bind, hr, Result.andThen_ok]
  exact hK _ _ h
theorem zero_deeds (W : World) : (zeroValue 52).run Try.prog W = .ok (.agg deeds0) W := by kernel_rfl
theorem size_deeds : (Try.prog.info? 52).map (·.size) = some deedsC.size := by kernel_rfl
theorem one_deeds : deedsC.all (·.oneCell') = true := by kernel_rfl
theorem cells_deeds : (Value.agg deeds0).cells = deeds0 := rfl
/-- A result that lies in a block. -/
theorem results_deeds {P : Program} {fn : Func} {k : Tmp} {ty t : TypeId} {tmps : Array Value} {w : World} {g : Nat} {cs : Array Value} (h : fn.results = #[.cell k ty]) (hk : tmps.getD k undef = .pointer (some ⟨g, 0, none⟩))
    (hr : Blk w g t cs) {d : TypeDesc} (hu : P.underlying ty = some d) (hd : d.isRow = true) (hi : (P.info? ty).map (·.size) = some cs.size) :
    (results fn tmps).run P w = .ok (.agg cs) w := by
  have hl : (loadVar ty ⟨g, 0, none⟩).run P w = .ok (.agg cs) w := by
    have := run_loadVar_mid (P := P) w g 0 ty cs.toList d (fun j v hv => by rw [Nat.zero_add, hr.cell]; simpa using hv) hu hd (by simpa using hi)
    simpa using this
  have hk' : tmps[k]?.getD undef = .pointer (some ⟨g, 0, none⟩) := by rw [← hk, Array.getD_eq_getD_getElem?]
  simp only [results, h]
  simp [hk', asAddr, hl]
theorem below_row {w c : World} {g : Nat} (h : Below w.heap.size w c) (hg : w.heap.size ≤ g) (cs : Array Value) : Below w.heap.size w (c.setRow g cs) :=
  ⟨h.os, h.tape, h.output, by simpa [World.setRow] using h.size, fun k hk => (setRow_other c g k cs (by omega)).trans (h.block k hk)⟩
set_option maxRecDepth 100000 in
set_option maxHeartbeats 4000000 in
theorem deeds_any (w : World) : Calls Try.prog 29 #[] w fun e w' => e = .returned (.agg deedsC) ∧ Below w.heap.size w w' := by
  have hb := (Below.refl w.heap.size w).alloc (Nat.le_refl _) (.cells deeds0 52)
  have bX := Blk.new w 52 deeds0
  have hz := zero_deeds
  have hcz := cells_deeds
  go_enter Try.func29, Try.ntmps29
  go_wp2_with (first
    | (refine wpList_build rfl 52 _ rfl (.agg deedsC) (by kernel_rfl) ?_)
    | (refine wpList_store_row rfl 52 _ _ rfl w.heap.size deedsC rfl rfl 52 deeds0 bX size_deeds (by kernel_rfl) one_deeds ?_)
    | fail)
  refine bodyPost_ret (v := .agg deedsC) (results_deeds (g := w.heap.size) (t := 52) rfl rfl (setRow_heap _ w.heap.size deeds0 deedsC 52 (0, 0) bX) Try.underlying52 rfl size_deeds) rfl ?_
  exact ⟨rfl, below_row hb (Nat.le_refl _) _⟩
end Go.Proofs.Ytodejloonfkkmaa.Dir
