/-
  A block of memory that is known whole: rows of words and of bytes. What a cell of it holds, and what becomes of it.
-/
import Derived.Deep.MidRow
import Derived.Deep.WholeRow
import Derived.Deep.QuietTactic
import Derived.Test.YtidkakjghimimaaDoorShaWord
namespace Go.Proofs.YtidkakjghimimaaDoor.Sha
open Go.RowKit

def u32s (l : List Nat) : Array Value := (l.map fun n => Value.int .u32 ((n : Nat) : Int)).toArray
def u8s (l : List UInt8) : Array Value := (l.map fun b => Value.int .u8 ((b.toNat : Nat) : Int)).toArray
theorem u32s_size (l : List Nat) : (u32s l).size = l.length := by simp [u32s]
theorem u8s_size (l : List UInt8) : (u8s l).size = l.length := by simp [u8s]
theorem u32s_at (l : List Nat) (i : Nat) (h : i < l.length) : (u32s l)[i]? = some (.int .u32 ((l.getD i 0 : Nat) : Int)) := by
  simp [u32s, List.getElem?_eq_getElem h, List.getD_eq_getElem?_getD]
theorem u8s_at (l : List UInt8) (i : Nat) (h : i < l.length) : (u8s l)[i]? = some (.int .u8 (((l.getD i 0).toNat : Nat) : Int)) := by
  simp [u8s, List.getElem?_eq_getElem h, List.getD_eq_getElem?_getD]
theorem u32s_set (l : List Nat) (i v : Nat) : (u32s l).setIfInBounds i (.int .u32 (v : Int)) = u32s (l.set i v) := by
  simp [u32s, List.map_set]
theorem u8s_set (l : List UInt8) (i : Nat) (v : UInt8) : (u8s l).setIfInBounds i (.int .u8 (v.toNat : Int)) = u8s (l.set i v) := by
  simp [u8s, List.map_set]
theorem u32s_one (l : List Nat) : (u32s l).all (·.oneCell') = true := by simp [u32s, Value.oneCell']
theorem u8s_one (l : List UInt8) : (u8s l).all (·.oneCell') = true := by simp [u8s, Value.oneCell']

/-- The block, whole. -/
def Row (w : World) (g : Nat) (t : TypeId) (cs : Array Value) : Prop := w.heap[g]? = some (.cells cs t (0, 0))
theorem Row.cell {w : World} {g : Nat} {t : TypeId} {cs : Array Value} (h : Row w g t cs) (i : Nat) : w.cell? ⟨g, i, none⟩ = cs[i]? := cell_of_row w g i cs t _ h
theorem Row.word {w : World} {g : Nat} {t : TypeId} {l : List Nat} (h : Row w g t (u32s l)) (i : Nat) (hi : i < l.length) : w.cell? ⟨g, i, none⟩ = some (.int .u32 ((l.getD i 0 : Nat) : Int)) := (h.cell i).trans (u32s_at l i hi)
theorem Row.byte {w : World} {g : Nat} {t : TypeId} {l : List UInt8} (h : Row w g t (u8s l)) (i : Nat) (hi : i < l.length) : w.cell? ⟨g, i, none⟩ = some (.int .u8 (((l.getD i 0).toNat : Nat) : Int)) := (h.cell i).trans (u8s_at l i hi)
theorem Row.frozen {w : World} {g : Nat} {t : TypeId} {cs : Array Value} (h : Row w g t cs) (i : Nat) : w.frozen? ⟨g, i, none⟩ = false := by
  unfold Row at h; simp [World.frozen?, h]
theorem Row.lt {w : World} {g : Nat} {t : TypeId} {cs : Array Value} (h : Row w g t cs) : g < w.heap.size := (Array.getElem?_eq_some_iff.1 h).1
theorem Row.set {w : World} {g : Nat} {t : TypeId} {cs : Array Value} (h : Row w g t cs) (i : Nat) (v : Value) : Row (w.setCell ⟨g, i, none⟩ v) g t (cs.setIfInBounds i v) := by
  unfold Row at *
  rw [setCell_eq_setRow w g i cs t (0, 0) v h]
  exact setRow_heap w g cs _ t (0, 0) h
theorem Row.set32 {w : World} {g : Nat} {t : TypeId} {l : List Nat} (h : Row w g t (u32s l)) (i v : Nat) : Row (w.setCell ⟨g, i, none⟩ (.int .u32 (v : Int))) g t (u32s (l.set i v)) := by
  rw [← u32s_set]; exact h.set i _
theorem Row.set8 {w : World} {g : Nat} {t : TypeId} {l : List UInt8} (h : Row w g t (u8s l)) (i : Nat) (v : UInt8) : Row (w.setCell ⟨g, i, none⟩ (.int .u8 (v.toNat : Int))) g t (u8s (l.set i v)) := by
  rw [← u8s_set]; exact h.set i _
theorem Row.apart {w : World} {g g' : Nat} {t : TypeId} {cs : Array Value} (h : Row w g t cs) (hne : g ≠ g') (i : Nat) (v : Value) : Row (w.setCell ⟨g', i, none⟩ v) g t cs := by
  unfold Row at *
  rw [Below.heap_setCell _ _ _ _ hne]; exact h
theorem Row.alloc {w : World} {g : Nat} {t : TypeId} {cs : Array Value} (h : Row w g t cs) (o : Obj) : Row (w.alloc o) g t cs := by
  have hl := h.lt
  unfold Row at *
  rw [← h]
  exact Below.heap_alloc w o g hl
theorem Row.new (w : World) (t : TypeId) (cs : Array Value) : Row (w.alloc (.cells cs t)) w.heap.size t cs := by
  exact heap_alloc_new w _
theorem Row.drew {w : World} {g : Nat} {t : TypeId} {cs : Array Value} (h : Row w g t cs) : Row w.drew g t cs := h
theorem Row.drewN {w : World} {g : Nat} {t : TypeId} {cs : Array Value} (h : Row w g t cs) (m : Nat) : Row (w.drewN m) g t cs := h
theorem belowN {B : Nat} {a w : World} (h : Below B a w) (m : Nat) : Below B a (w.drewN m) := ⟨h.os, h.tape, h.output, h.size, h.block⟩
theorem Row.below {w w' : World} {g n : Nat} {t : TypeId} {cs : Array Value} (h : Row w g t cs) (hb : Below n w w') (hg : g < n) : Row w' g t cs := by
  unfold Row at *
  rw [← h]; exact hb.block g hg
/-- Read as a value. -/
theorem Row.load {w : World} {g : Nat} {t ty : TypeId} {cs : Array Value} {P : Program} (h : Row w g t cs) (d : TypeDesc) (hu : P.underlying ty = some d) (hd : d.isRow = true) (hi : (P.info? ty).map (·.size) = some cs.size) :
    (Instr.loadAt ty (.pointer (some ⟨g, 0, none⟩))).run P w = .ok (.agg cs) w := by
  have := run_loadAt_mid (P := P) w g 0 ty cs.toList d (fun j v hv => by rw [Nat.zero_add, h.cell]; simpa using hv) hu hd (by simpa using hi)
  simpa using this
/-- The operation, at a list of a plain region's. -/
theorem wpList_loadRow {P : Program} {ops : Array Oper} {rest : List Oper} {op : Oper} {a : Act} {w : World} {Q : Exit → Act → World → Prop} (hgd : op.guard = none) (ty : TypeId) (x : Operand) (ho : op.op = .load ty x)
    (g : Nat) (hx : a.eval x = .pointer (some ⟨g, 0, none⟩)) {t : TypeId} {cs : Array Value} (hr : Row w g t cs) {d : TypeDesc}
    (hu : P.underlying ty = some d) (hd : d.isRow = true) (hi : (P.info? ty).map (·.size) = some cs.size)
    (h : wpList P ops Q rest (a.put op.dst (.agg cs)) w) : wpList P ops Q (op :: rest) a w := by
  refine wpList_plain hgd fun _ hK => ?_
  unfold Oper.wp execOp
  simp only [ho, hx, Sem.run_bind, hr.load d hu hd hi, Result.andThen_ok]
  exact hK _ _ h
theorem wpList_storeRow {P : Program} {ops : Array Oper} {rest : List Oper} {op : Oper} {a : Act} {w : World} {Q : Exit → Act → World → Prop} (hgd : op.guard = none) (ty : TypeId) (x y : Operand) (ho : op.op = .store ty x y)
    (g : Nat) (hx : a.eval x = .pointer (some ⟨g, 0, none⟩)) {cs : Array Value} (hy : a.eval y = .agg cs) {t : TypeId} {old : Array Value} (hr : Row w g t old)
    (hi : (P.info? ty).map (·.size) = some cs.size) (hold : old.size = cs.size) (h1 : cs.all (·.oneCell') = true)
    (h : wpList P ops Q rest (a.put op.dst undef) (w.setRow g cs)) : wpList P ops Q (op :: rest) a w :=
  wpList_store_row hgd ty x y ho g cs hx hy t old hr hi hold h1 h
/-- A result that lies in the block. -/
theorem Row.loadVar {w : World} {g : Nat} {t ty : TypeId} {cs : Array Value} {P : Program} (h : Row w g t cs) (d : TypeDesc) (hu : P.underlying ty = some d) (hd : d.isRow = true) (hi : (P.info? ty).map (·.size) = some cs.size) :
    (loadVar ty ⟨g, 0, none⟩).run P w = .ok (.agg cs) w := by
  have := run_loadVar_mid (P := P) w g 0 ty cs.toList d (fun j v hv => by rw [Nat.zero_add, h.cell]; simpa using hv) hu hd (by simpa using hi)
  simpa using this
theorem results_row {P : Program} {fn : Func} {k : Tmp} {ty t : TypeId} {tmps : Array Value} {w : World} {g : Nat} {cs : Array Value} (h : fn.results = #[.cell k ty]) (hk : tmps.getD k undef = .pointer (some ⟨g, 0, none⟩))
    (hr : Row w g t cs) {d : TypeDesc} (hu : P.underlying ty = some d) (hd : d.isRow = true) (hi : (P.info? ty).map (·.size) = some cs.size) :
    (results fn tmps).run P w = .ok (.agg cs) w := by
  have hk' : tmps[k]?.getD undef = .pointer (some ⟨g, 0, none⟩) := by rw [← hk, Array.getD_eq_getD_getElem?]
  simp only [results, h]
  simp [hk', asAddr, hr.loadVar (P := P) d hu hd hi]
/-- A value that is put into the block. -/
theorem Row.store {w : World} {g : Nat} {t ty : TypeId} {old cs : Array Value} {P : Program} (h : Row w g t old) (hi : (P.info? ty).map (·.size) = some cs.size) (ho : old.size = cs.size) (h1 : cs.all (·.oneCell') = true) :
    (Instr.storeAt ty (.pointer (some ⟨g, 0, none⟩)) (.agg cs)).run P w = .ok () (w.setRow g cs) := by
  simp only [Instr.storeAt, Instr.sureAddr, Sem.run_bind, Sem.run_pure, Result.andThen_ok, run_storeVar_row w g t ty old cs h hi ho h1]
theorem Row.put {w : World} {g : Nat} {t : TypeId} {old : Array Value} (h : Row w g t old) (cs : Array Value) : Row (w.setRow g cs) g t cs := setRow_heap w g old cs t (0, 0) h
theorem Row.putApart {w : World} {g g' : Nat} {t : TypeId} {cs : Array Value} (h : Row w g t cs) (hne : g ≠ g') (cs' : Array Value) : Row (w.setRow g' cs') g t cs := by
  unfold Row at *
  rw [setRow_other _ _ _ _ hne]; exact h
theorem below_setRow {n : Nat} {w w' : World} (h : Below n w w') {g : Nat} (hg : n ≤ g) (cs : Array Value) : Below n w (w'.setRow g cs) :=
  h.trans ⟨rfl, rfl, rfl, by simp, fun k hk => setRow_other _ _ _ _ (by omega)⟩
/-- An index into an array that is a value. -/
theorem index_agg {P : Program} {w : World} {t e : TypeId} {n : Nat} {cs : Array Value} (hu : P.underlying t = some (.array n e)) (hi : (P.info? e).map (·.size) = some 1) (i : Nat) (h : i < n) (v : Value) (hv : cs[i]? = some v)
    (hs : (isAgg e).run P w = .ok false w) :
    (Instr.index t (.agg cs) (.int .i64 (i : Int))).run P w = .ok v w := by
  cases hq : P.info? e with
  | none => simp [hq] at hi
  | some ie =>
    have hz : ie.size = 1 := by simpa [hq] using hi
    simp [Instr.index, asIntOf, run_underlying hu, sizeOf, typeInfo, hq, hz, part, hs, hv, h]

end Go.Proofs.YtidkakjghimimaaDoor.Sha
