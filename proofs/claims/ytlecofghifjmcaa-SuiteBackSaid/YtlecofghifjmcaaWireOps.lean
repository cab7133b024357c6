/-
  What is read, one thing by one: the program's way, walked.
-/
import Derived.Test.YtlecofghifjmcaaWireG
import Derived.Test.YtlecofghifjmcaaWireItems
namespace Go.Proofs.Ytlecofghifjmcaa.Wire
open Go.RowKit Leb Mem

/-- What reading one thing comes to. -/
structure Out where
  num : Int
  int : Int
  text : List UInt8
  to : Int
  er : Int

/-- What stands at place p, if thing k is asked for, with n. -/
def outOf (S : ByteArray) (p : Nat) (k n : Int) : Out :=
  if k = 0 then (if h : p < S.size then ⟨S[p].toNat, 0, [], (p : Int) + 1, 0⟩ else ⟨0, 0, [], p, 2⟩)
  else if k = 2 then ⟨(lcount S.data.toList p n).1, 0, [], (lcount S.data.toList p n).2.1, (lcount S.data.toList p n).2.2⟩
  else if k = 3 then ⟨0, Zig.zag ((lget S.data.toList p).1 : Nat), [], (lget S.data.toList p).2.1, (lget S.data.toList p).2.2⟩
  else if k = 4 then ⟨0, 0, (ltext S.data.toList p n).1, (ltext S.data.toList p n).2.1, (ltext S.data.toList p n).2.2⟩
  else if k = 5 then ⟨0, 0, (lraw S.data.toList p n).1, (lraw S.data.toList p n).2.1, (lraw S.data.toList p n).2.2⟩
  else ⟨(lget S.data.toList p).1, 0, [], (lget S.data.toList p).2.1, (lget S.data.toList p).2.2⟩

/-- What the reader keeps of it. -/
def Out.fin (er0 p : Int) (o : Out) : Out := if fst0 er0 o.er = 0 then ⟨o.num, o.int, o.text, o.to, 0⟩ else ⟨0, 0, [], p, fst0 er0 o.er⟩
theorem fin_go {er0 p : Int} {o : Out} (h : fst0 er0 o.er = 0) : o.fin er0 p = ⟨o.num, o.int, o.text, o.to, 0⟩ := if_pos h
theorem fin_no {er0 p : Int} {o : Out} (h : fst0 er0 o.er ≠ 0) : o.fin er0 p = ⟨0, 0, [], p, fst0 er0 o.er⟩ := if_neg h

theorem lraw_range (l : List UInt8) (a n : Int) (h0 : 0 ≤ a) (h : (lraw l a n).2.2 = 0) : 0 ≤ (lraw l a n).2.1 ∧ (lraw l a n).2.1 ≤ l.length ∧ a ≤ (lraw l a n).2.1 := by
  unfold lraw at *
  split at h
  · simp at h
  · split at h
    · simp at h
    · rename_i c1 c2
      rw [if_neg c1, if_neg c2]
      simp only
      omega
theorem ltext_range (l : List UInt8) (a m : Int) (h : (ltext l a m).2.2 = 0) : 0 ≤ (ltext l a m).2.1 ∧ (ltext l a m).2.1 ≤ l.length ∧ a ≤ (ltext l a m).2.1 := by
  unfold ltext at *
  split at h
  · rename_i c; exact absurd h c
  · rename_i c
    rw [if_neg c]
    obtain ⟨h1, h2, h3, -, -⟩ := lcount_range l a m (by omega)
    have := lraw_range l _ _ (by omega) h
    omega
/-- A place is never outside. -/
theorem outOf_range (S : ByteArray) (p : Nat) (k n : Int) (h : (outOf S p k n).er = 0) : 0 ≤ (outOf S p k n).to ∧ (outOf S p k n).to ≤ S.size ∧ p ≤ (outOf S p k n).to := by
  have hl : S.data.toList.length = S.size := by simp
  have g1 := fun h => lget_only S.data.toList p h
  have g2 := fun h => lcount_range S.data.toList p n h
  have g3 := fun h => lraw_range S.data.toList p n (by omega) h
  have g4 := fun h => ltext_range S.data.toList p n h
  rw [hl] at g1 g2 g3 g4
  revert h
  unfold outOf
  split
  · split
    · intro _; simp only; omega
    · intro h; simp at h
  · split
    · intro h; have := g2 h; simp only; omega
    · split
      · intro h; have := g1 h; simp only; omega
      · split
        · intro h; have := g4 h; simp only; omega
        · split
          · intro h; have := g3 h; simp only; omega
          · intro h; have := g1 h; simp only; omega
theorem fin_range (S : ByteArray) (p : Nat) (er0 k n : Int) (hp : p ≤ S.size) : 0 ≤ ((outOf S p k n).fin er0 p).to ∧ ((outOf S p k n).fin er0 p).to ≤ S.size ∧ p ≤ ((outOf S p k n).fin er0 p).to := by
  by_cases h : fst0 er0 (outOf S p k n).er = 0
  · rw [fin_go h]
    refine outOf_range S p k n ?_
    unfold fst0 at h
    split at h
    · exact h
    · rename_i c; exact absurd h c
  · rw [fin_no h]; simp only; omega

/-- What one reading ends in. -/
def DoEnds (a : Nat) (S : ByteArray) (f : Out) (w : World) (e : Ending) (w' : World) : Prop :=
  e = .returned (.agg #[.int .u64 f.num, .int .i64 f.int, .string (strB f.text), .int .i64 f.to, .int .i64 (endOf S f.to f.er)]) ∧ Rd w' a S f.to f.er ∧ Kept (· = a) w w'

theorem five {w : World} {g : Nat} {t : TypeId} {x y z u v : Value} (h : Blk w g t #[x, y, z, u, v]) : w.cell? ⟨g, 0, none⟩ = some x ∧ w.cell? ⟨g, 1, none⟩ = some y ∧ w.cell? ⟨g, 2, none⟩ = some z ∧ w.cell? ⟨g, 3, none⟩ = some u ∧ w.cell? ⟨g, 4, none⟩ = some v :=
  ⟨h.cell 0, h.cell 1, h.cell 2, h.cell 3, h.cell 4⟩

/-- The zero of what is told. -/
def z5 : Array Value := #[.int .u64 0, .int .i64 0, .string ⟨#[]⟩, .int .i64 0, .int .i64 0]

/-- What a reader's call ends in, once more. -/
def RF (a : Nat) (S : ByteArray) (f : Out) (v : Value) (w : World) (e : Ending) (w' : World) : Prop := e = .returned v ∧ Rd w' a S f.to f.er ∧ Kept (· = a) w w'

section
variable {a : Nat} {S : ByteArray} {p er0 : Int} {o : Out} {w w' : World} {e : Ending} {K : IntKind}
theorem RdEnds.num (h : RdEnds a S p er0 (.int K o.num) (.int K 0) o.to o.er w e w') : RF a S (o.fin er0 p) (.int K (o.fin er0 p).num) w e w' := by
  obtain ⟨h1, h2, h3⟩ := h
  by_cases c : fst0 er0 o.er = 0
  · rw [sel_go c] at h1
    rw [if_pos c, c] at h2
    rw [fin_go c]; exact ⟨h1, h2, h3⟩
  · rw [sel_no c] at h1
    rw [if_neg c] at h2
    rw [fin_no c]; exact ⟨h1, h2, h3⟩
theorem RdEnds.int (h : RdEnds a S p er0 (.int K o.int) (.int K 0) o.to o.er w e w') : RF a S (o.fin er0 p) (.int K (o.fin er0 p).int) w e w' := by
  obtain ⟨h1, h2, h3⟩ := h
  by_cases c : fst0 er0 o.er = 0
  · rw [sel_go c] at h1
    rw [if_pos c, c] at h2
    rw [fin_go c]; exact ⟨h1, h2, h3⟩
  · rw [sel_no c] at h1
    rw [if_neg c] at h2
    rw [fin_no c]; exact ⟨h1, h2, h3⟩
theorem RdEnds.text (h : RdEnds a S p er0 (.string (strB o.text)) (.string ⟨#[]⟩) o.to o.er w e w') : RF a S (o.fin er0 p) (.string (strB (o.fin er0 p).text)) w e w' := by
  obtain ⟨h1, h2, h3⟩ := h
  by_cases c : fst0 er0 o.er = 0
  · rw [sel_go c] at h1
    rw [if_pos c, c] at h2
    rw [fin_go c]; exact ⟨h1, h2, h3⟩
  · rw [sel_no c] at h1
    rw [if_neg c] at h2
    rw [fin_no c]; exact ⟨h1, h2, h3⟩
end
theorem fin_int0 {er0 p : Int} {o : Out} (h : o.int = 0) : (o.fin er0 p).int = 0 := by unfold Out.fin; split; exact h; rfl
theorem fin_num0 {er0 p : Int} {o : Out} (h : o.num = 0) : (o.fin er0 p).num = 0 := by unfold Out.fin; split; exact h; rfl
theorem fin_text0 {er0 p : Int} {o : Out} (h : o.text = []) : (o.fin er0 p).text = [] := by unfold Out.fin; split; exact h; rfl
theorem fin_num_le {er0 p : Int} {o : Out} {m : Int} (h0 : 0 ≤ o.num) (h1 : o.num ≤ m) : 0 ≤ (o.fin er0 p).num ∧ (o.fin er0 p).num ≤ m := by unfold Out.fin; split; exact ⟨h0, h1⟩; simp only; omega

/-- Behind what was read: the place and what is wrong are told, too. -/
theorem lcount_le (l : List UInt8) (a m : Int) (hm : m ≤ 9223372036854775807) : (((lcount l a m).1 : Nat) : Int) ≤ 9223372036854775807 := by
  unfold lcount
  split
  · simp
  · split
    · simp
    · omega
theorem byte_le (b : UInt8) : (0 : Int) ≤ b.toNat ∧ (b.toNat : Int) ≤ 255 := by have := b.toNat_lt; omega
theorem u64_same {n : Int} (h0 : 0 ≤ n) (h1 : n ≤ 18446744073709551615) : IntKind.u64.wrap n = n := by rw [IntKind.wrap_u64]; omega

theorem rd_of {W w : World} {a : Nat} {S : ByteArray} {p er : Int} (h : Rd w a S p er) (hW : W.heap[a]? = w.heap[a]?) : Rd W a S p er := hW.trans h

end Go.Proofs.Ytlecofghifjmcaa.Wire
