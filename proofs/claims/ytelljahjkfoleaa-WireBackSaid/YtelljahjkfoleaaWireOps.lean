/-
  What is read, one thing by one: the program's way, walked.
-/
import Derived.Test.YtelljahjkfoleaaWireReads
import Derived.Test.YtelljahjkfoleaaWireItems
namespace Go.Proofs.Ytelljahjkfoleaa.Wire
open Go.RowKit Leb Mem

/-- What reading one thing comes to. -/
structure Out where
  num : Int
  int : Int
  text : List UInt8
  to : Int
  er : Int

/-- What stands at place p, if thing k is asked for, with n. -/
def outOf (S : ByteArray) (p : Nat) (k n : Int) : Out :=
  if k = 0 then (if h : p < S.size then ⟨S[p].toNat, 0, [], (p : Int) + 1, 0⟩ else ⟨0, 0, [], p, 2⟩)
  else if k = 2 then ⟨(lcount S.data.toList p n).1, 0, [], (lcount S.data.toList p n).2.1, (lcount S.data.toList p n).2.2⟩
  else if k = 3 then ⟨0, Zig.zag ((lget S.data.toList p).1 : Nat), [], (lget S.data.toList p).2.1, (lget S.data.toList p).2.2⟩
  else if k = 4 then ⟨0, 0, (ltext S.data.toList p n).1, (ltext S.data.toList p n).2.1, (ltext S.data.toList p n).2.2⟩
  else if k = 5 then ⟨0, 0, (lraw S.data.toList p n).1, (lraw S.data.toList p n).2.1, (lraw S.data.toList p n).2.2⟩
  else ⟨(lget S.data.toList p).1, 0, [], (lget S.data.toList p).2.1, (lget S.data.toList p).2.2⟩

/-- What the reader keeps of it. -/
def Out.fin (er0 p : Int) (o : Out) : Out := if fst0 er0 o.er = 0 then ⟨o.num, o.int, o.text, o.to, 0⟩ else ⟨0, 0, [], p, fst0 er0 o.er⟩
theorem fin_go {er0 p : Int} {o : Out} (h : fst0 er0 o.er = 0) : o.fin er0 p = ⟨o.num, o.int, o.text, o.to, 0⟩ := if_pos h
theorem fin_no {er0 p : Int} {o : Out} (h : fst0 er0 o.er ≠ 0) : o.fin er0 p = ⟨0, 0, [], p, fst0 er0 o.er⟩ := if_neg h

theorem lraw_range (l : List UInt8) (a n : Int) (h0 : 0 ≤ a) (h : (lraw l a n).2.2 = 0) : 0 ≤ (lraw l a n).2.1 ∧ (lraw l a n).2.1 ≤ l.length ∧ a ≤ (lraw l a n).2.1 := by
  unfold lraw at *
  split at h
  · simp at h
  · split at h
    · simp at h
    · rename_i c1 c2
      rw [if_neg c1, if_neg c2]
      simp only
      omega
theorem ltext_range (l : List UInt8) (a m : Int) (h : (ltext l a m).2.2 = 0) : 0 ≤ (ltext l a m).2.1 ∧ (ltext l a m).2.1 ≤ l.length ∧ a ≤ (ltext l a m).2.1 := by
  unfold ltext at *
  split at h
  · rename_i c; exact absurd h c
  · rename_i c
    rw [if_neg c]
    obtain ⟨h1, h2, h3, -, -⟩ := lcount_range l a m (by omega)
    have := lraw_range l _ _ (by omega) h
    omega
/-- A place is never outside. -/
theorem outOf_range (S : ByteArray) (p : Nat) (k n : Int) (h : (outOf S p k n).er = 0) : 0 ≤ (outOf S p k n).to ∧ (outOf S p k n).to ≤ S.size ∧ p ≤ (outOf S p k n).to := by
  have hl : S.data.toList.length = S.size := by simp
  have g1 := fun h => lget_only S.data.toList p h
  have g2 := fun h => lcount_range S.data.toList p n h
  have g3 := fun h => lraw_range S.data.toList p n (by omega) h
  have g4 := fun h => ltext_range S.data.toList p n h
  rw [hl] at g1 g2 g3 g4
  revert h
  unfold outOf
  split
  · split
    · intro _; simp only; omega
    · intro h; simp at h
  · split
    · intro h; have := g2 h; simp only; omega
    · split
      · intro h; have := g1 h; simp only; omega
      · split
        · intro h; have := g4 h; simp only; omega
        · split
          · intro h; have := g3 h; simp only; omega
          · intro h; have := g1 h; simp only; omega
theorem fin_range (S : ByteArray) (p : Nat) (er0 k n : Int) (hp : p ≤ S.size) : 0 ≤ ((outOf S p k n).fin er0 p).to ∧ ((outOf S p k n).fin er0 p).to ≤ S.size ∧ p ≤ ((outOf S p k n).fin er0 p).to := by
  by_cases h : fst0 er0 (outOf S p k n).er = 0
  · rw [fin_go h]
    refine outOf_range S p k n ?_
    unfold fst0 at h
    split at h
    · exact h
    · rename_i c; exact absurd h c
  · rw [fin_no h]; simp only; omega

/-- What one reading ends in. -/
def DoEnds (a : Nat) (S : ByteArray) (f : Out) (w : World) (e : Ending) (w' : World) : Prop :=
  e = .returned (.agg #[.int .u64 f.num, .int .i64 f.int, .string (strB f.text), .int .i64 f.to, .int .i64 (endOf S f.to f.er)]) ∧ Rd w' a S f.to f.er ∧ Kept (· = a) w w'

theorem five {w : World} {g : Nat} {t : TypeId} {x y z u v : Value} (h : Blk w g t #[x, y, z, u, v]) : w.cell? ⟨g, 0, none⟩ = some x ∧ w.cell? ⟨g, 1, none⟩ = some y ∧ w.cell? ⟨g, 2, none⟩ = some z ∧ w.cell? ⟨g, 3, none⟩ = some u ∧ w.cell? ⟨g, 4, none⟩ = some v :=
  ⟨h.cell 0, h.cell 1, h.cell 2, h.cell 3, h.cell 4⟩

/-- The zero of what is told. -/
def z5 : Array Value := #[.int .u64 0, .int .i64 0, .string ⟨#[]⟩, .int .i64 0, .int .i64 0]

/-- What a reader's call ends in, once more. -/
def RF (a : Nat) (S : ByteArray) (f : Out) (v : Value) (w : World) (e : Ending) (w' : World) : Prop := e = .returned v ∧ Rd w' a S f.to f.er ∧ Kept (· = a) w w'

section
variable {a : Nat} {S : ByteArray} {p er0 : Int} {o : Out} {w w' : World} {e : Ending} {K : IntKind}
theorem RdEnds.num (h : RdEnds a S p er0 (.int K o.num) (.int K 0) o.to o.er w e w') : RF a S (o.fin er0 p) (.int K (o.fin er0 p).num) w e w' := by
  obtain ⟨h1, h2, h3⟩ := h
  by_cases c : fst0 er0 o.er = 0
  · rw [sel_go c] at h1
    rw [if_pos c, c] at h2
    rw [fin_go c]; exact ⟨h1, h2, h3⟩
  · rw [sel_no c] at h1
    rw [if_neg c] at h2
    rw [fin_no c]; exact ⟨h1, h2, h3⟩
theorem RdEnds.int (h : RdEnds a S p er0 (.int K o.int) (.int K 0) o.to o.er w e w') : RF a S (o.fin er0 p) (.int K (o.fin er0 p).int) w e w' := by
  obtain ⟨h1, h2, h3⟩ := h
  by_cases c : fst0 er0 o.er = 0
  · rw [sel_go c] at h1
    rw [if_pos c, c] at h2
    rw [fin_go c]; exact ⟨h1, h2, h3⟩
  · rw [sel_no c] at h1
    rw [if_neg c] at h2
    rw [fin_no c]; exact ⟨h1, h2, h3⟩
theorem RdEnds.text (h : RdEnds a S p er0 (.string (strB o.text)) (.string ⟨#[]⟩) o.to o.er w e w') : RF a S (o.fin er0 p) (.string (strB (o.fin er0 p).text)) w e w' := by
  obtain ⟨h1, h2, h3⟩ := h
  by_cases c : fst0 er0 o.er = 0
  · rw [sel_go c] at h1
    rw [if_pos c, c] at h2
    rw [fin_go c]; exact ⟨h1, h2, h3⟩
  · rw [sel_no c] at h1
    rw [if_neg c] at h2
    rw [fin_no c]; exact ⟨h1, h2, h3⟩
end
theorem fin_int0 {er0 p : Int} {o : Out} (h : o.int = 0) : (o.fin er0 p).int = 0 := by unfold Out.fin; split; exact h; rfl
theorem fin_num0 {er0 p : Int} {o : Out} (h : o.num = 0) : (o.fin er0 p).num = 0 := by unfold Out.fin; split; exact h; rfl
theorem fin_text0 {er0 p : Int} {o : Out} (h : o.text = []) : (o.fin er0 p).text = [] := by unfold Out.fin; split; exact h; rfl
theorem fin_num_le {er0 p : Int} {o : Out} {m : Int} (h0 : 0 ≤ o.num) (h1 : o.num ≤ m) : 0 ≤ (o.fin er0 p).num ∧ (o.fin er0 p).num ≤ m := by unfold Out.fin; split; exact ⟨h0, h1⟩; simp only; omega

/-- Behind what was read: the place and what is wrong are told, too. -/
theorem lcount_le (l : List UInt8) (a m : Int) (hm : m ≤ 9223372036854775807) : (((lcount l a m).1 : Nat) : Int) ≤ 9223372036854775807 := by
  unfold lcount
  split
  · simp
  · split
    · simp
    · omega
theorem byte_le (b : UInt8) : (0 : Int) ≤ b.toNat ∧ (b.toNat : Int) ≤ 255 := by have := b.toNat_lt; omega
theorem u64_same {n : Int} (h0 : 0 ≤ n) (h1 : n ≤ 18446744073709551615) : IntKind.u64.wrap n = n := by rw [IntKind.wrap_u64]; omega

set_option maxRecDepth 100000 in
set_option maxHeartbeats 1000000 in
theorem do_0 (a : Nat) (S : ByteArray) (q : Nat) (hq : q ≤ S.size) (n : Int) (x : Int) (er : Int) (x0 : 0 ≤ x) (x1 : x ≤ 255) (w : World) (hs : S.size ≤ 1073741824) (ha : a < w.heap.size)
    (hC : ∀ W : World, W.heap[a]? = w.heap[a]? → Calls Try.prog 17 #[.pointer (some ⟨a, 0, none⟩)] W (fun e w' => e = .returned (.int .u8 x) ∧ Rd w' a S q er ∧ Kept (· = a) W w')) :
    Calls Try.prog 11 #[.pointer (some ⟨a, 0, none⟩), .agg #[.int .i64 0, .int .i64 n]] w (DoEnds a S ⟨x, 0, [], q, er⟩ w) := by
  have hw := u64_same x0 (by omega)
  have HC := Lib.hid hC
  clear hC
  have hk0 : Kept (· = a) w (((w.alloc (.cells #[.int .i64 0, .int .i64 n] 34)).alloc (.cells z5 31)).alloc (.cells z5 31)) := (((Kept.refl _ w).alloc _).alloc _).alloc _
  have b4 := (Blk.new (w.alloc (.cells #[.int .i64 0, .int .i64 n] 34)) 31 z5).alloc (.cells z5 31)
  have b5 := Blk.new ((w.alloc (.cells #[.int .i64 0, .int .i64 n] 34)).alloc (.cells z5 31)) 31 z5
  simp only [World.size_alloc] at b4 b5
  have hn4 : w.heap.size + 1 ≠ a := by omega
  have hn5 : w.heap.size + 1 + 1 ≠ a := by omega
  have hh : (((w.alloc (.cells #[.int .i64 0, .int .i64 n] 34)).alloc (.cells z5 31)).alloc (.cells z5 31)).heap[a]? = w.heap[a]? := by
    rw [Below.heap_alloc _ _ _ (by simp; omega), Below.heap_alloc _ _ _ (by simp; omega), Below.heap_alloc _ _ _ ha]
  go_enter Try.func11, Try.ntmps11
  go_wp2_with fail
  change Calls _ _ _ (((w.alloc (.cells #[.int .i64 0, .int .i64 n] 34)).alloc (.cells z5 31)).alloc (.cells z5 31)) _
  refine (HC.out _ hh).mono ?_
  rintro e w1 ⟨rfl, hR1, hk1⟩
  have c4 : Blk w1 (w.heap.size + 1) 31 z5 := b4.kept hk1 hn4
  have c5 : Blk w1 (w.heap.size + 1 + 1) 31 z5 := b5.kept hk1 hn5
  have hkk := hk0.trans hk1
  clear hk0 hk1 b4 b5 hh HC
  obtain ⟨e0, e1, e2, e3, e4⟩ := five c5
  obtain ⟨r0, r1, r2⟩ := hR1.three
  have f5 := c5.frozen
  have hkA := hkk.setCell (p := ⟨w.heap.size + 1 + 1, 0, none⟩) (.inr (by simp; omega)) (.int .u64 x)
  have cA : Blk _ _ 31 #[.int .u64 x, .int .i64 0, .string ⟨#[]⟩, .int .i64 0, .int .i64 0] := c5.set 0 (.int .u64 x)
  have dA := c4.apart (p := ⟨w.heap.size + 1 + 1, 0, none⟩) (by simp) (.int .u64 x)
  have rA : Rd _ a S q er := Blk.apart hR1 (p := ⟨w.heap.size + 1 + 1, 0, none⟩) (Ne.symm hn5) (.int .u64 x)
  clear hkk
  go_wp2_with fail
  refine (At_any S q _).mono ?_
  rintro e w2 ⟨rfl, hb2⟩
  have cB := cA.below hb2 cA.lt
  have dB := dA.below hb2 dA.lt
  have rB : Rd w2 a S q er := Blk.below rA hb2 rA.lt
  have hkB := hkA.below hb2
  clear e0 e1 e2 e3 e4 r0 r1 r2 f5 hkA cA dA rA c4 c5 hR1 hb2 w1
  obtain ⟨e0, e1, e2, e3, e4⟩ := five cB
  have f5 := cB.frozen
  have hkC := hkB.setCell (p := ⟨w.heap.size + 1 + 1, 3, none⟩) (.inr (by simp; omega)) (.int .i64 q)
  have cC : Blk _ _ 31 #[.int .u64 x, .int .i64 0, .string ⟨#[]⟩, .int .i64 q, .int .i64 0] := cB.set 3 (.int .i64 q)
  have dC := dB.apart (p := ⟨w.heap.size + 1 + 1, 3, none⟩) (by simp) (.int .i64 q)
  have rC : Rd _ a S q er := Blk.apart rB (p := ⟨w.heap.size + 1 + 1, 3, none⟩) (Ne.symm hn5) (.int .i64 q)
  clear hkB
  go_wp2_with fail
  refine (End_any a S q er _ hs hq rC).mono ?_
  rintro e w3 ⟨rfl, hb3⟩
  have cD := cC.below hb3 cC.lt
  have dD := dC.below hb3 dC.lt
  have rD : Rd w3 a S q er := Blk.below rC hb3 rC.lt
  have hkD := hkC.below hb3
  clear e0 e1 e2 e3 e4 f5 hkC cC dC rC cB dB rB hb3 w2
  obtain ⟨e0, e1, e2, e3, e4⟩ := five cD
  obtain ⟨d0, d1, d2, d3, d4⟩ := five dD
  have f5 := cD.frozen
  have f4 := dD.frozen
  have hkE := hkD.setCell (p := ⟨w.heap.size + 1 + 1, 4, none⟩) (.inr (by simp; omega)) (.int .i64 (endOf S q er))
  have rE : Rd _ a S q er := Blk.apart rD (p := ⟨w.heap.size + 1 + 1, 4, none⟩) (Ne.symm hn5) (.int .i64 (endOf S q er))
  clear hkD cD dD rD
  obtain ⟨z, hz⟩ : ∃ z, endOf S q er = z := ⟨_, rfl⟩
  rw [hz] at hkE rE ⊢
  have HZ := Lib.hid hz
  clear hz
  go_wp2_with fail
  refine bodyPost_ret (v := .agg #[.int .u64 x, .int .i64 0, .string ⟨#[]⟩, .int .i64 q, .int .i64 z]) (by simp [results, Try.results11, go_sem, d0, d1, d2, d3, d4]) rfl ⟨?_, ?_, ?_⟩
  · have := HZ.out; subst this; rfl
  · exact Blk.apart (Blk.apart (Blk.apart (Blk.apart (Blk.apart rE (p := ⟨w.heap.size + 1, 0, none⟩) (Ne.symm hn4) _) (p := ⟨w.heap.size + 1, 1, none⟩) (Ne.symm hn4) _) (p := ⟨w.heap.size + 1, 2, none⟩) (Ne.symm hn4) _) (p := ⟨w.heap.size + 1, 3, none⟩) (Ne.symm hn4) _) (p := ⟨w.heap.size + 1, 4, none⟩) (Ne.symm hn4) _
  · have hn9 : w.heap.size ≤ w.heap.size + 1 := by omega
    exact ((((hkE.setCell (p := ⟨w.heap.size + 1, 0, none⟩) (.inr hn9) _).setCell (p := ⟨w.heap.size + 1, 1, none⟩) (.inr hn9) _).setCell (p := ⟨w.heap.size + 1, 2, none⟩) (.inr hn9) _).setCell (p := ⟨w.heap.size + 1, 3, none⟩) (.inr hn9) _).setCell (p := ⟨w.heap.size + 1, 4, none⟩) (.inr hn9) _

set_option maxRecDepth 100000 in
set_option maxHeartbeats 1000000 in
theorem do_2 (a : Nat) (S : ByteArray) (q : Nat) (hq : q ≤ S.size) (n : Int) (x : Int) (er : Int) (x0 : 0 ≤ x) (x1 : x ≤ 9223372036854775807) (w : World) (hs : S.size ≤ 1073741824) (ha : a < w.heap.size)
    (hC : ∀ W : World, W.heap[a]? = w.heap[a]? → Calls Try.prog 29 #[.pointer (some ⟨a, 0, none⟩), .int .i64 n] W (fun e w' => e = .returned (.int .i64 x) ∧ Rd w' a S q er ∧ Kept (· = a) W w')) :
    Calls Try.prog 11 #[.pointer (some ⟨a, 0, none⟩), .agg #[.int .i64 2, .int .i64 n]] w (DoEnds a S ⟨x, 0, [], q, er⟩ w) := by
  have hw := u64_same x0 (by omega)
  have HC := Lib.hid hC
  clear hC
  have hk0 : Kept (· = a) w (((w.alloc (.cells #[.int .i64 2, .int .i64 n] 34)).alloc (.cells z5 31)).alloc (.cells z5 31)) := (((Kept.refl _ w).alloc _).alloc _).alloc _
  have b4 := (Blk.new (w.alloc (.cells #[.int .i64 2, .int .i64 n] 34)) 31 z5).alloc (.cells z5 31)
  have b5 := Blk.new ((w.alloc (.cells #[.int .i64 2, .int .i64 n] 34)).alloc (.cells z5 31)) 31 z5
  simp only [World.size_alloc] at b4 b5
  have hn4 : w.heap.size + 1 ≠ a := by omega
  have hn5 : w.heap.size + 1 + 1 ≠ a := by omega
  have hh : (((w.alloc (.cells #[.int .i64 2, .int .i64 n] 34)).alloc (.cells z5 31)).alloc (.cells z5 31)).heap[a]? = w.heap[a]? := by
    rw [Below.heap_alloc _ _ _ (by simp; omega), Below.heap_alloc _ _ _ (by simp; omega), Below.heap_alloc _ _ _ ha]
  go_enter Try.func11, Try.ntmps11
  go_wp2_with fail
  change Calls _ _ _ (((w.alloc (.cells #[.int .i64 2, .int .i64 n] 34)).alloc (.cells z5 31)).alloc (.cells z5 31)) _
  refine (HC.out _ hh).mono ?_
  rintro e w1 ⟨rfl, hR1, hk1⟩
  have c4 : Blk w1 (w.heap.size + 1) 31 z5 := b4.kept hk1 hn4
  have c5 : Blk w1 (w.heap.size + 1 + 1) 31 z5 := b5.kept hk1 hn5
  have hkk := hk0.trans hk1
  clear hk0 hk1 b4 b5 hh HC
  obtain ⟨e0, e1, e2, e3, e4⟩ := five c5
  obtain ⟨r0, r1, r2⟩ := hR1.three
  have f5 := c5.frozen
  have hkA := hkk.setCell (p := ⟨w.heap.size + 1 + 1, 0, none⟩) (.inr (by simp; omega)) (.int .u64 x)
  have cA : Blk _ _ 31 #[.int .u64 x, .int .i64 0, .string ⟨#[]⟩, .int .i64 0, .int .i64 0] := c5.set 0 (.int .u64 x)
  have dA := c4.apart (p := ⟨w.heap.size + 1 + 1, 0, none⟩) (by simp) (.int .u64 x)
  have rA : Rd _ a S q er := Blk.apart hR1 (p := ⟨w.heap.size + 1 + 1, 0, none⟩) (Ne.symm hn5) (.int .u64 x)
  clear hkk
  go_wp2_with fail
  refine (At_any S q _).mono ?_
  rintro e w2 ⟨rfl, hb2⟩
  have cB := cA.below hb2 cA.lt
  have dB := dA.below hb2 dA.lt
  have rB : Rd w2 a S q er := Blk.below rA hb2 rA.lt
  have hkB := hkA.below hb2
  clear e0 e1 e2 e3 e4 r0 r1 r2 f5 hkA cA dA rA c4 c5 hR1 hb2 w1
  obtain ⟨e0, e1, e2, e3, e4⟩ := five cB
  have f5 := cB.frozen
  have hkC := hkB.setCell (p := ⟨w.heap.size + 1 + 1, 3, none⟩) (.inr (by simp; omega)) (.int .i64 q)
  have cC : Blk _ _ 31 #[.int .u64 x, .int .i64 0, .string ⟨#[]⟩, .int .i64 q, .int .i64 0] := cB.set 3 (.int .i64 q)
  have dC := dB.apart (p := ⟨w.heap.size + 1 + 1, 3, none⟩) (by simp) (.int .i64 q)
  have rC : Rd _ a S q er := Blk.apart rB (p := ⟨w.heap.size + 1 + 1, 3, none⟩) (Ne.symm hn5) (.int .i64 q)
  clear hkB
  go_wp2_with fail
  refine (End_any a S q er _ hs hq rC).mono ?_
  rintro e w3 ⟨rfl, hb3⟩
  have cD := cC.below hb3 cC.lt
  have dD := dC.below hb3 dC.lt
  have rD : Rd w3 a S q er := Blk.below rC hb3 rC.lt
  have hkD := hkC.below hb3
  clear e0 e1 e2 e3 e4 f5 hkC cC dC rC cB dB rB hb3 w2
  obtain ⟨e0, e1, e2, e3, e4⟩ := five cD
  obtain ⟨d0, d1, d2, d3, d4⟩ := five dD
  have f5 := cD.frozen
  have f4 := dD.frozen
  have hkE := hkD.setCell (p := ⟨w.heap.size + 1 + 1, 4, none⟩) (.inr (by simp; omega)) (.int .i64 (endOf S q er))
  have rE : Rd _ a S q er := Blk.apart rD (p := ⟨w.heap.size + 1 + 1, 4, none⟩) (Ne.symm hn5) (.int .i64 (endOf S q er))
  clear hkD cD dD rD
  obtain ⟨z, hz⟩ : ∃ z, endOf S q er = z := ⟨_, rfl⟩
  rw [hz] at hkE rE ⊢
  have HZ := Lib.hid hz
  clear hz
  go_wp2_with fail
  refine bodyPost_ret (v := .agg #[.int .u64 x, .int .i64 0, .string ⟨#[]⟩, .int .i64 q, .int .i64 z]) (by simp [results, Try.results11, go_sem, d0, d1, d2, d3, d4]) rfl ⟨?_, ?_, ?_⟩
  · have := HZ.out; subst this; rfl
  · exact Blk.apart (Blk.apart (Blk.apart (Blk.apart (Blk.apart rE (p := ⟨w.heap.size + 1, 0, none⟩) (Ne.symm hn4) _) (p := ⟨w.heap.size + 1, 1, none⟩) (Ne.symm hn4) _) (p := ⟨w.heap.size + 1, 2, none⟩) (Ne.symm hn4) _) (p := ⟨w.heap.size + 1, 3, none⟩) (Ne.symm hn4) _) (p := ⟨w.heap.size + 1, 4, none⟩) (Ne.symm hn4) _
  · have hn9 : w.heap.size ≤ w.heap.size + 1 := by omega
    exact ((((hkE.setCell (p := ⟨w.heap.size + 1, 0, none⟩) (.inr hn9) _).setCell (p := ⟨w.heap.size + 1, 1, none⟩) (.inr hn9) _).setCell (p := ⟨w.heap.size + 1, 2, none⟩) (.inr hn9) _).setCell (p := ⟨w.heap.size + 1, 3, none⟩) (.inr hn9) _).setCell (p := ⟨w.heap.size + 1, 4, none⟩) (.inr hn9) _

set_option maxRecDepth 100000 in
set_option maxHeartbeats 1000000 in
theorem do_3 (a : Nat) (S : ByteArray) (q : Nat) (hq : q ≤ S.size) (n : Int) (x : Int) (er : Int) (w : World) (hs : S.size ≤ 1073741824) (ha : a < w.heap.size)
    (hC : ∀ W : World, W.heap[a]? = w.heap[a]? → Calls Try.prog 19 #[.pointer (some ⟨a, 0, none⟩)] W (fun e w' => e = .returned (.int .i64 x) ∧ Rd w' a S q er ∧ Kept (· = a) W w')) :
    Calls Try.prog 11 #[.pointer (some ⟨a, 0, none⟩), .agg #[.int .i64 3, .int .i64 n]] w (DoEnds a S ⟨0, x, [], q, er⟩ w) := by
  have HC := Lib.hid hC
  clear hC
  have hk0 : Kept (· = a) w (((w.alloc (.cells #[.int .i64 3, .int .i64 n] 34)).alloc (.cells z5 31)).alloc (.cells z5 31)) := (((Kept.refl _ w).alloc _).alloc _).alloc _
  have b4 := (Blk.new (w.alloc (.cells #[.int .i64 3, .int .i64 n] 34)) 31 z5).alloc (.cells z5 31)
  have b5 := Blk.new ((w.alloc (.cells #[.int .i64 3, .int .i64 n] 34)).alloc (.cells z5 31)) 31 z5
  simp only [World.size_alloc] at b4 b5
  have hn4 : w.heap.size + 1 ≠ a := by omega
  have hn5 : w.heap.size + 1 + 1 ≠ a := by omega
  have hh : (((w.alloc (.cells #[.int .i64 3, .int .i64 n] 34)).alloc (.cells z5 31)).alloc (.cells z5 31)).heap[a]? = w.heap[a]? := by
    rw [Below.heap_alloc _ _ _ (by simp; omega), Below.heap_alloc _ _ _ (by simp; omega), Below.heap_alloc _ _ _ ha]
  go_enter Try.func11, Try.ntmps11
  go_wp2_with fail
  change Calls _ _ _ (((w.alloc (.cells #[.int .i64 3, .int .i64 n] 34)).alloc (.cells z5 31)).alloc (.cells z5 31)) _
  refine (HC.out _ hh).mono ?_
  rintro e w1 ⟨rfl, hR1, hk1⟩
  have c4 : Blk w1 (w.heap.size + 1) 31 z5 := b4.kept hk1 hn4
  have c5 : Blk w1 (w.heap.size + 1 + 1) 31 z5 := b5.kept hk1 hn5
  have hkk := hk0.trans hk1
  clear hk0 hk1 b4 b5 hh HC
  obtain ⟨e0, e1, e2, e3, e4⟩ := five c5
  obtain ⟨r0, r1, r2⟩ := hR1.three
  have f5 := c5.frozen
  have hkA := hkk.setCell (p := ⟨w.heap.size + 1 + 1, 1, none⟩) (.inr (by simp; omega)) (.int .i64 x)
  have cA : Blk _ _ 31 #[.int .u64 0, .int .i64 x, .string ⟨#[]⟩, .int .i64 0, .int .i64 0] := c5.set 1 (.int .i64 x)
  have dA := c4.apart (p := ⟨w.heap.size + 1 + 1, 1, none⟩) (by simp) (.int .i64 x)
  have rA : Rd _ a S q er := Blk.apart hR1 (p := ⟨w.heap.size + 1 + 1, 1, none⟩) (Ne.symm hn5) (.int .i64 x)
  clear hkk
  go_wp2_with fail
  refine (At_any S q _).mono ?_
  rintro e w2 ⟨rfl, hb2⟩
  have cB := cA.below hb2 cA.lt
  have dB := dA.below hb2 dA.lt
  have rB : Rd w2 a S q er := Blk.below rA hb2 rA.lt
  have hkB := hkA.below hb2
  clear e0 e1 e2 e3 e4 r0 r1 r2 f5 hkA cA dA rA c4 c5 hR1 hb2 w1
  obtain ⟨e0, e1, e2, e3, e4⟩ := five cB
  have f5 := cB.frozen
  have hkC := hkB.setCell (p := ⟨w.heap.size + 1 + 1, 3, none⟩) (.inr (by simp; omega)) (.int .i64 q)
  have cC : Blk _ _ 31 #[.int .u64 0, .int .i64 x, .string ⟨#[]⟩, .int .i64 q, .int .i64 0] := cB.set 3 (.int .i64 q)
  have dC := dB.apart (p := ⟨w.heap.size + 1 + 1, 3, none⟩) (by simp) (.int .i64 q)
  have rC : Rd _ a S q er := Blk.apart rB (p := ⟨w.heap.size + 1 + 1, 3, none⟩) (Ne.symm hn5) (.int .i64 q)
  clear hkB
  go_wp2_with fail
  refine (End_any a S q er _ hs hq rC).mono ?_
  rintro e w3 ⟨rfl, hb3⟩
  have cD := cC.below hb3 cC.lt
  have dD := dC.below hb3 dC.lt
  have rD : Rd w3 a S q er := Blk.below rC hb3 rC.lt
  have hkD := hkC.below hb3
  clear e0 e1 e2 e3 e4 f5 hkC cC dC rC cB dB rB hb3 w2
  obtain ⟨e0, e1, e2, e3, e4⟩ := five cD
  obtain ⟨d0, d1, d2, d3, d4⟩ := five dD
  have f5 := cD.frozen
  have f4 := dD.frozen
  have hkE := hkD.setCell (p := ⟨w.heap.size + 1 + 1, 4, none⟩) (.inr (by simp; omega)) (.int .i64 (endOf S q er))
  have rE : Rd _ a S q er := Blk.apart rD (p := ⟨w.heap.size + 1 + 1, 4, none⟩) (Ne.symm hn5) (.int .i64 (endOf S q er))
  clear hkD cD dD rD
  obtain ⟨z, hz⟩ : ∃ z, endOf S q er = z := ⟨_, rfl⟩
  rw [hz] at hkE rE ⊢
  have HZ := Lib.hid hz
  clear hz
  go_wp2_with fail
  refine bodyPost_ret (v := .agg #[.int .u64 0, .int .i64 x, .string ⟨#[]⟩, .int .i64 q, .int .i64 z]) (by simp [results, Try.results11, go_sem, d0, d1, d2, d3, d4]) rfl ⟨?_, ?_, ?_⟩
  · have := HZ.out; subst this; rfl
  · exact Blk.apart (Blk.apart (Blk.apart (Blk.apart (Blk.apart rE (p := ⟨w.heap.size + 1, 0, none⟩) (Ne.symm hn4) _) (p := ⟨w.heap.size + 1, 1, none⟩) (Ne.symm hn4) _) (p := ⟨w.heap.size + 1, 2, none⟩) (Ne.symm hn4) _) (p := ⟨w.heap.size + 1, 3, none⟩) (Ne.symm hn4) _) (p := ⟨w.heap.size + 1, 4, none⟩) (Ne.symm hn4) _
  · have hn9 : w.heap.size ≤ w.heap.size + 1 := by omega
    exact ((((hkE.setCell (p := ⟨w.heap.size + 1, 0, none⟩) (.inr hn9) _).setCell (p := ⟨w.heap.size + 1, 1, none⟩) (.inr hn9) _).setCell (p := ⟨w.heap.size + 1, 2, none⟩) (.inr hn9) _).setCell (p := ⟨w.heap.size + 1, 3, none⟩) (.inr hn9) _).setCell (p := ⟨w.heap.size + 1, 4, none⟩) (.inr hn9) _

set_option maxRecDepth 100000 in
set_option maxHeartbeats 1000000 in
theorem do_4 (a : Nat) (S : ByteArray) (q : Nat) (hq : q ≤ S.size) (n : Int) (x : List UInt8) (er : Int) (w : World) (hs : S.size ≤ 1073741824) (ha : a < w.heap.size)
    (hC : ∀ W : World, W.heap[a]? = w.heap[a]? → Calls Try.prog 20 #[.pointer (some ⟨a, 0, none⟩), .int .i64 n] W (fun e w' => e = .returned (.string (strB x)) ∧ Rd w' a S q er ∧ Kept (· = a) W w')) :
    Calls Try.prog 11 #[.pointer (some ⟨a, 0, none⟩), .agg #[.int .i64 4, .int .i64 n]] w (DoEnds a S ⟨0, 0, x, q, er⟩ w) := by
  have HC := Lib.hid hC
  clear hC
  have hk0 : Kept (· = a) w (((w.alloc (.cells #[.int .i64 4, .int .i64 n] 34)).alloc (.cells z5 31)).alloc (.cells z5 31)) := (((Kept.refl _ w).alloc _).alloc _).alloc _
  have b4 := (Blk.new (w.alloc (.cells #[.int .i64 4, .int .i64 n] 34)) 31 z5).alloc (.cells z5 31)
  have b5 := Blk.new ((w.alloc (.cells #[.int .i64 4, .int .i64 n] 34)).alloc (.cells z5 31)) 31 z5
  simp only [World.size_alloc] at b4 b5
  have hn4 : w.heap.size + 1 ≠ a := by omega
  have hn5 : w.heap.size + 1 + 1 ≠ a := by omega
  have hh : (((w.alloc (.cells #[.int .i64 4, .int .i64 n] 34)).alloc (.cells z5 31)).alloc (.cells z5 31)).heap[a]? = w.heap[a]? := by
    rw [Below.heap_alloc _ _ _ (by simp; omega), Below.heap_alloc _ _ _ (by simp; omega), Below.heap_alloc _ _ _ ha]
  go_enter Try.func11, Try.ntmps11
  go_wp2_with fail
  change Calls _ _ _ (((w.alloc (.cells #[.int .i64 4, .int .i64 n] 34)).alloc (.cells z5 31)).alloc (.cells z5 31)) _
  refine (HC.out _ hh).mono ?_
  rintro e w1 ⟨rfl, hR1, hk1⟩
  have c4 : Blk w1 (w.heap.size + 1) 31 z5 := b4.kept hk1 hn4
  have c5 : Blk w1 (w.heap.size + 1 + 1) 31 z5 := b5.kept hk1 hn5
  have hkk := hk0.trans hk1
  clear hk0 hk1 b4 b5 hh HC
  obtain ⟨e0, e1, e2, e3, e4⟩ := five c5
  obtain ⟨r0, r1, r2⟩ := hR1.three
  have f5 := c5.frozen
  have hkA := hkk.setCell (p := ⟨w.heap.size + 1 + 1, 2, none⟩) (.inr (by simp; omega)) (.string (strB x))
  have cA : Blk _ _ 31 #[.int .u64 0, .int .i64 0, .string (strB x), .int .i64 0, .int .i64 0] := c5.set 2 (.string (strB x))
  have dA := c4.apart (p := ⟨w.heap.size + 1 + 1, 2, none⟩) (by simp) (.string (strB x))
  have rA : Rd _ a S q er := Blk.apart hR1 (p := ⟨w.heap.size + 1 + 1, 2, none⟩) (Ne.symm hn5) (.string (strB x))
  clear hkk
  go_wp2_with fail
  refine (At_any S q _).mono ?_
  rintro e w2 ⟨rfl, hb2⟩
  have cB := cA.below hb2 cA.lt
  have dB := dA.below hb2 dA.lt
  have rB : Rd w2 a S q er := Blk.below rA hb2 rA.lt
  have hkB := hkA.below hb2
  clear e0 e1 e2 e3 e4 r0 r1 r2 f5 hkA cA dA rA c4 c5 hR1 hb2 w1
  obtain ⟨e0, e1, e2, e3, e4⟩ := five cB
  have f5 := cB.frozen
  have hkC := hkB.setCell (p := ⟨w.heap.size + 1 + 1, 3, none⟩) (.inr (by simp; omega)) (.int .i64 q)
  have cC : Blk _ _ 31 #[.int .u64 0, .int .i64 0, .string (strB x), .int .i64 q, .int .i64 0] := cB.set 3 (.int .i64 q)
  have dC := dB.apart (p := ⟨w.heap.size + 1 + 1, 3, none⟩) (by simp) (.int .i64 q)
  have rC : Rd _ a S q er := Blk.apart rB (p := ⟨w.heap.size + 1 + 1, 3, none⟩) (Ne.symm hn5) (.int .i64 q)
  clear hkB
  go_wp2_with fail
  refine (End_any a S q er _ hs hq rC).mono ?_
  rintro e w3 ⟨rfl, hb3⟩
  have cD := cC.below hb3 cC.lt
  have dD := dC.below hb3 dC.lt
  have rD : Rd w3 a S q er := Blk.below rC hb3 rC.lt
  have hkD := hkC.below hb3
  clear e0 e1 e2 e3 e4 f5 hkC cC dC rC cB dB rB hb3 w2
  obtain ⟨e0, e1, e2, e3, e4⟩ := five cD
  obtain ⟨d0, d1, d2, d3, d4⟩ := five dD
  have f5 := cD.frozen
  have f4 := dD.frozen
  have hkE := hkD.setCell (p := ⟨w.heap.size + 1 + 1, 4, none⟩) (.inr (by simp; omega)) (.int .i64 (endOf S q er))
  have rE : Rd _ a S q er := Blk.apart rD (p := ⟨w.heap.size + 1 + 1, 4, none⟩) (Ne.symm hn5) (.int .i64 (endOf S q er))
  clear hkD cD dD rD
  obtain ⟨z, hz⟩ : ∃ z, endOf S q er = z := ⟨_, rfl⟩
  rw [hz] at hkE rE ⊢
  have HZ := Lib.hid hz
  clear hz
  go_wp2_with fail
  refine bodyPost_ret (v := .agg #[.int .u64 0, .int .i64 0, .string (strB x), .int .i64 q, .int .i64 z]) (by simp [results, Try.results11, go_sem, d0, d1, d2, d3, d4]) rfl ⟨?_, ?_, ?_⟩
  · have := HZ.out; subst this; rfl
  · exact Blk.apart (Blk.apart (Blk.apart (Blk.apart (Blk.apart rE (p := ⟨w.heap.size + 1, 0, none⟩) (Ne.symm hn4) _) (p := ⟨w.heap.size + 1, 1, none⟩) (Ne.symm hn4) _) (p := ⟨w.heap.size + 1, 2, none⟩) (Ne.symm hn4) _) (p := ⟨w.heap.size + 1, 3, none⟩) (Ne.symm hn4) _) (p := ⟨w.heap.size + 1, 4, none⟩) (Ne.symm hn4) _
  · have hn9 : w.heap.size ≤ w.heap.size + 1 := by omega
    exact ((((hkE.setCell (p := ⟨w.heap.size + 1, 0, none⟩) (.inr hn9) _).setCell (p := ⟨w.heap.size + 1, 1, none⟩) (.inr hn9) _).setCell (p := ⟨w.heap.size + 1, 2, none⟩) (.inr hn9) _).setCell (p := ⟨w.heap.size + 1, 3, none⟩) (.inr hn9) _).setCell (p := ⟨w.heap.size + 1, 4, none⟩) (.inr hn9) _

set_option maxRecDepth 100000 in
set_option maxHeartbeats 1000000 in
theorem do_5 (a : Nat) (S : ByteArray) (q : Nat) (hq : q ≤ S.size) (n : Int) (x : List UInt8) (er : Int) (w : World) (hs : S.size ≤ 1073741824) (ha : a < w.heap.size)
    (hC : ∀ W : World, W.heap[a]? = w.heap[a]? → Calls Try.prog 21 #[.pointer (some ⟨a, 0, none⟩), .int .i64 n] W (fun e w' => e = .returned (.string (strB x)) ∧ Rd w' a S q er ∧ Kept (· = a) W w')) :
    Calls Try.prog 11 #[.pointer (some ⟨a, 0, none⟩), .agg #[.int .i64 5, .int .i64 n]] w (DoEnds a S ⟨0, 0, x, q, er⟩ w) := by
  have HC := Lib.hid hC
  clear hC
  have hk0 : Kept (· = a) w (((w.alloc (.cells #[.int .i64 5, .int .i64 n] 34)).alloc (.cells z5 31)).alloc (.cells z5 31)) := (((Kept.refl _ w).alloc _).alloc _).alloc _
  have b4 := (Blk.new (w.alloc (.cells #[.int .i64 5, .int .i64 n] 34)) 31 z5).alloc (.cells z5 31)
  have b5 := Blk.new ((w.alloc (.cells #[.int .i64 5, .int .i64 n] 34)).alloc (.cells z5 31)) 31 z5
  simp only [World.size_alloc] at b4 b5
  have hn4 : w.heap.size + 1 ≠ a := by omega
  have hn5 : w.heap.size + 1 + 1 ≠ a := by omega
  have hh : (((w.alloc (.cells #[.int .i64 5, .int .i64 n] 34)).alloc (.cells z5 31)).alloc (.cells z5 31)).heap[a]? = w.heap[a]? := by
    rw [Below.heap_alloc _ _ _ (by simp; omega), Below.heap_alloc _ _ _ (by simp; omega), Below.heap_alloc _ _ _ ha]
  go_enter Try.func11, Try.ntmps11
  go_wp2_with fail
  change Calls _ _ _ (((w.alloc (.cells #[.int .i64 5, .int .i64 n] 34)).alloc (.cells z5 31)).alloc (.cells z5 31)) _
  refine (HC.out _ hh).mono ?_
  rintro e w1 ⟨rfl, hR1, hk1⟩
  have c4 : Blk w1 (w.heap.size + 1) 31 z5 := b4.kept hk1 hn4
  have c5 : Blk w1 (w.heap.size + 1 + 1) 31 z5 := b5.kept hk1 hn5
  have hkk := hk0.trans hk1
  clear hk0 hk1 b4 b5 hh HC
  obtain ⟨e0, e1, e2, e3, e4⟩ := five c5
  obtain ⟨r0, r1, r2⟩ := hR1.three
  have f5 := c5.frozen
  have hkA := hkk.setCell (p := ⟨w.heap.size + 1 + 1, 2, none⟩) (.inr (by simp; omega)) (.string (strB x))
  have cA : Blk _ _ 31 #[.int .u64 0, .int .i64 0, .string (strB x), .int .i64 0, .int .i64 0] := c5.set 2 (.string (strB x))
  have dA := c4.apart (p := ⟨w.heap.size + 1 + 1, 2, none⟩) (by simp) (.string (strB x))
  have rA : Rd _ a S q er := Blk.apart hR1 (p := ⟨w.heap.size + 1 + 1, 2, none⟩) (Ne.symm hn5) (.string (strB x))
  clear hkk
  go_wp2_with fail
  refine (At_any S q _).mono ?_
  rintro e w2 ⟨rfl, hb2⟩
  have cB := cA.below hb2 cA.lt
  have dB := dA.below hb2 dA.lt
  have rB : Rd w2 a S q er := Blk.below rA hb2 rA.lt
  have hkB := hkA.below hb2
  clear e0 e1 e2 e3 e4 r0 r1 r2 f5 hkA cA dA rA c4 c5 hR1 hb2 w1
  obtain ⟨e0, e1, e2, e3, e4⟩ := five cB
  have f5 := cB.frozen
  have hkC := hkB.setCell (p := ⟨w.heap.size + 1 + 1, 3, none⟩) (.inr (by simp; omega)) (.int .i64 q)
  have cC : Blk _ _ 31 #[.int .u64 0, .int .i64 0, .string (strB x), .int .i64 q, .int .i64 0] := cB.set 3 (.int .i64 q)
  have dC := dB.apart (p := ⟨w.heap.size + 1 + 1, 3, none⟩) (by simp) (.int .i64 q)
  have rC : Rd _ a S q er := Blk.apart rB (p := ⟨w.heap.size + 1 + 1, 3, none⟩) (Ne.symm hn5) (.int .i64 q)
  clear hkB
  go_wp2_with fail
  refine (End_any a S q er _ hs hq rC).mono ?_
  rintro e w3 ⟨rfl, hb3⟩
  have cD := cC.below hb3 cC.lt
  have dD := dC.below hb3 dC.lt
  have rD : Rd w3 a S q er := Blk.below rC hb3 rC.lt
  have hkD := hkC.below hb3
  clear e0 e1 e2 e3 e4 f5 hkC cC dC rC cB dB rB hb3 w2
  obtain ⟨e0, e1, e2, e3, e4⟩ := five cD
  obtain ⟨d0, d1, d2, d3, d4⟩ := five dD
  have f5 := cD.frozen
  have f4 := dD.frozen
  have hkE := hkD.setCell (p := ⟨w.heap.size + 1 + 1, 4, none⟩) (.inr (by simp; omega)) (.int .i64 (endOf S q er))
  have rE : Rd _ a S q er := Blk.apart rD (p := ⟨w.heap.size + 1 + 1, 4, none⟩) (Ne.symm hn5) (.int .i64 (endOf S q er))
  clear hkD cD dD rD
  obtain ⟨z, hz⟩ : ∃ z, endOf S q er = z := ⟨_, rfl⟩
  rw [hz] at hkE rE ⊢
  have HZ := Lib.hid hz
  clear hz
  go_wp2_with fail
  refine bodyPost_ret (v := .agg #[.int .u64 0, .int .i64 0, .string (strB x), .int .i64 q, .int .i64 z]) (by simp [results, Try.results11, go_sem, d0, d1, d2, d3, d4]) rfl ⟨?_, ?_, ?_⟩
  · have := HZ.out; subst this; rfl
  · exact Blk.apart (Blk.apart (Blk.apart (Blk.apart (Blk.apart rE (p := ⟨w.heap.size + 1, 0, none⟩) (Ne.symm hn4) _) (p := ⟨w.heap.size + 1, 1, none⟩) (Ne.symm hn4) _) (p := ⟨w.heap.size + 1, 2, none⟩) (Ne.symm hn4) _) (p := ⟨w.heap.size + 1, 3, none⟩) (Ne.symm hn4) _) (p := ⟨w.heap.size + 1, 4, none⟩) (Ne.symm hn4) _
  · have hn9 : w.heap.size ≤ w.heap.size + 1 := by omega
    exact ((((hkE.setCell (p := ⟨w.heap.size + 1, 0, none⟩) (.inr hn9) _).setCell (p := ⟨w.heap.size + 1, 1, none⟩) (.inr hn9) _).setCell (p := ⟨w.heap.size + 1, 2, none⟩) (.inr hn9) _).setCell (p := ⟨w.heap.size + 1, 3, none⟩) (.inr hn9) _).setCell (p := ⟨w.heap.size + 1, 4, none⟩) (.inr hn9) _

set_option maxRecDepth 100000 in
set_option maxHeartbeats 1000000 in
theorem do_else (a : Nat) (S : ByteArray) (q : Nat) (hq : q ≤ S.size) (k : Int) (n : Int) (x : Int) (er : Int) (k0 : k ≠ 0) (k2 : k ≠ 2) (k3 : k ≠ 3) (k4 : k ≠ 4) (k5 : k ≠ 5) (w : World) (hs : S.size ≤ 1073741824) (ha : a < w.heap.size)
    (hC : ∀ W : World, W.heap[a]? = w.heap[a]? → Calls Try.prog 18 #[.pointer (some ⟨a, 0, none⟩)] W (fun e w' => e = .returned (.int .u64 x) ∧ Rd w' a S q er ∧ Kept (· = a) W w')) :
    Calls Try.prog 11 #[.pointer (some ⟨a, 0, none⟩), .agg #[.int .i64 k, .int .i64 n]] w (DoEnds a S ⟨x, 0, [], q, er⟩ w) := by
  have i0 : (k == 0) = false := by simpa using k0
  have i2 : (k == 2) = false := by simpa using k2
  have i3 : (k == 3) = false := by simpa using k3
  have i4 : (k == 4) = false := by simpa using k4
  have i5 : (k == 5) = false := by simpa using k5
  have HC := Lib.hid hC
  clear hC
  have hk0 : Kept (· = a) w (((w.alloc (.cells #[.int .i64 k, .int .i64 n] 34)).alloc (.cells z5 31)).alloc (.cells z5 31)) := (((Kept.refl _ w).alloc _).alloc _).alloc _
  have b4 := (Blk.new (w.alloc (.cells #[.int .i64 k, .int .i64 n] 34)) 31 z5).alloc (.cells z5 31)
  have b5 := Blk.new ((w.alloc (.cells #[.int .i64 k, .int .i64 n] 34)).alloc (.cells z5 31)) 31 z5
  simp only [World.size_alloc] at b4 b5
  have hn4 : w.heap.size + 1 ≠ a := by omega
  have hn5 : w.heap.size + 1 + 1 ≠ a := by omega
  have hh : (((w.alloc (.cells #[.int .i64 k, .int .i64 n] 34)).alloc (.cells z5 31)).alloc (.cells z5 31)).heap[a]? = w.heap[a]? := by
    rw [Below.heap_alloc _ _ _ (by simp; omega), Below.heap_alloc _ _ _ (by simp; omega), Below.heap_alloc _ _ _ ha]
  clear k0 k2 k3 k4 k5
  go_enter Try.func11, Try.ntmps11
  go_wp2_with fail
  change Calls _ _ _ (((w.alloc (.cells #[.int .i64 k, .int .i64 n] 34)).alloc (.cells z5 31)).alloc (.cells z5 31)) _
  refine (HC.out _ hh).mono ?_
  rintro e w1 ⟨rfl, hR1, hk1⟩
  have c4 : Blk w1 (w.heap.size + 1) 31 z5 := b4.kept hk1 hn4
  have c5 : Blk w1 (w.heap.size + 1 + 1) 31 z5 := b5.kept hk1 hn5
  have hkk := hk0.trans hk1
  clear hk0 hk1 b4 b5 hh HC
  obtain ⟨e0, e1, e2, e3, e4⟩ := five c5
  obtain ⟨r0, r1, r2⟩ := hR1.three
  have f5 := c5.frozen
  have hkA := hkk.setCell (p := ⟨w.heap.size + 1 + 1, 0, none⟩) (.inr (by simp; omega)) (.int .u64 x)
  have cA : Blk _ _ 31 #[.int .u64 x, .int .i64 0, .string ⟨#[]⟩, .int .i64 0, .int .i64 0] := c5.set 0 (.int .u64 x)
  have dA := c4.apart (p := ⟨w.heap.size + 1 + 1, 0, none⟩) (by simp) (.int .u64 x)
  have rA : Rd _ a S q er := Blk.apart hR1 (p := ⟨w.heap.size + 1 + 1, 0, none⟩) (Ne.symm hn5) (.int .u64 x)
  clear hkk
  go_wp2_with fail
  refine (At_any S q _).mono ?_
  rintro e w2 ⟨rfl, hb2⟩
  have cB := cA.below hb2 cA.lt
  have dB := dA.below hb2 dA.lt
  have rB : Rd w2 a S q er := Blk.below rA hb2 rA.lt
  have hkB := hkA.below hb2
  clear e0 e1 e2 e3 e4 r0 r1 r2 f5 hkA cA dA rA c4 c5 hR1 hb2 w1
  obtain ⟨e0, e1, e2, e3, e4⟩ := five cB
  have f5 := cB.frozen
  have hkC := hkB.setCell (p := ⟨w.heap.size + 1 + 1, 3, none⟩) (.inr (by simp; omega)) (.int .i64 q)
  have cC : Blk _ _ 31 #[.int .u64 x, .int .i64 0, .string ⟨#[]⟩, .int .i64 q, .int .i64 0] := cB.set 3 (.int .i64 q)
  have dC := dB.apart (p := ⟨w.heap.size + 1 + 1, 3, none⟩) (by simp) (.int .i64 q)
  have rC : Rd _ a S q er := Blk.apart rB (p := ⟨w.heap.size + 1 + 1, 3, none⟩) (Ne.symm hn5) (.int .i64 q)
  clear hkB
  go_wp2_with fail
  refine (End_any a S q er _ hs hq rC).mono ?_
  rintro e w3 ⟨rfl, hb3⟩
  have cD := cC.below hb3 cC.lt
  have dD := dC.below hb3 dC.lt
  have rD : Rd w3 a S q er := Blk.below rC hb3 rC.lt
  have hkD := hkC.below hb3
  clear e0 e1 e2 e3 e4 f5 hkC cC dC rC cB dB rB hb3 w2
  obtain ⟨e0, e1, e2, e3, e4⟩ := five cD
  obtain ⟨d0, d1, d2, d3, d4⟩ := five dD
  have f5 := cD.frozen
  have f4 := dD.frozen
  have hkE := hkD.setCell (p := ⟨w.heap.size + 1 + 1, 4, none⟩) (.inr (by simp; omega)) (.int .i64 (endOf S q er))
  have rE : Rd _ a S q er := Blk.apart rD (p := ⟨w.heap.size + 1 + 1, 4, none⟩) (Ne.symm hn5) (.int .i64 (endOf S q er))
  clear hkD cD dD rD
  obtain ⟨z, hz⟩ : ∃ z, endOf S q er = z := ⟨_, rfl⟩
  rw [hz] at hkE rE ⊢
  have HZ := Lib.hid hz
  clear hz
  go_wp2_with fail
  refine bodyPost_ret (v := .agg #[.int .u64 x, .int .i64 0, .string ⟨#[]⟩, .int .i64 q, .int .i64 z]) (by simp [results, Try.results11, go_sem, d0, d1, d2, d3, d4]) rfl ⟨?_, ?_, ?_⟩
  · have := HZ.out; subst this; rfl
  · exact Blk.apart (Blk.apart (Blk.apart (Blk.apart (Blk.apart rE (p := ⟨w.heap.size + 1, 0, none⟩) (Ne.symm hn4) _) (p := ⟨w.heap.size + 1, 1, none⟩) (Ne.symm hn4) _) (p := ⟨w.heap.size + 1, 2, none⟩) (Ne.symm hn4) _) (p := ⟨w.heap.size + 1, 3, none⟩) (Ne.symm hn4) _) (p := ⟨w.heap.size + 1, 4, none⟩) (Ne.symm hn4) _
  · have hn9 : w.heap.size ≤ w.heap.size + 1 := by omega
    exact ((((hkE.setCell (p := ⟨w.heap.size + 1, 0, none⟩) (.inr hn9) _).setCell (p := ⟨w.heap.size + 1, 1, none⟩) (.inr hn9) _).setCell (p := ⟨w.heap.size + 1, 2, none⟩) (.inr hn9) _).setCell (p := ⟨w.heap.size + 1, 3, none⟩) (.inr hn9) _).setCell (p := ⟨w.heap.size + 1, 4, none⟩) (.inr hn9) _

theorem rd_of {W w : World} {a : Nat} {S : ByteArray} {p er : Int} (h : Rd w a S p er) (hW : W.heap[a]? = w.heap[a]?) : Rd W a S p er := hW.trans h

theorem Byte_no' (a : Nat) (S : ByteArray) (p : Nat) (er0 : Int) (w : World) (hs : S.size ≤ 1073741824) (hp : p = S.size) (h : Rd w a S p er0) :
    Calls Try.prog 17 #[.pointer (some ⟨a, 0, none⟩)] w (RdEnds a S p er0 (.int .u8 0) (.int .u8 0) p 2 w) := by
  subst hp; exact Byte_no a S er0 w hs h

/-- One reading, whatever is asked for. -/
theorem do_any (a : Nat) (S : ByteArray) (p : Nat) (er0 k n : Int) (hn : n ≤ 9223372036854775807) (w : World) (hs : S.size ≤ 1073741824) (hp : p ≤ S.size) (h : Rd w a S p er0) :
    Calls Try.prog 11 #[.pointer (some ⟨a, 0, none⟩), .agg #[.int .i64 k, .int .i64 n]] w (DoEnds a S ((outOf S p k n).fin er0 p) w) := by
  obtain ⟨f0, f1, -⟩ := fin_range S p er0 k n hp
  by_cases k0 : k = 0
  · subst k0
    by_cases h1 : p < S.size
    · have e : outOf S p 0 n = ⟨S[p].toNat, 0, [], (p : Int) + 1, 0⟩ := by unfold outOf; rw [if_pos rfl, dif_pos h1]
      rw [e] at f0 f1 ⊢
      have hb := byte_le S[p]
      have hx := fin_num_le (er0 := er0) (p := p) (o := ⟨S[p].toNat, 0, [], (p : Int) + 1, 0⟩) hb.1 hb.2
      have hC := fun W (hW : W.heap[a]? = w.heap[a]?) => (Byte_ok a S p er0 W hs h1 (rd_of h hW)).mono fun e w' hq => RdEnds.num (o := ⟨S[p].toNat, 0, [], (p : Int) + 1, 0⟩) hq
      have z0 := fin_int0 (er0 := er0) (p := p) (o := ⟨S[p].toNat, 0, [], (p : Int) + 1, 0⟩) rfl
      have z1 := fin_text0 (er0 := er0) (p := p) (o := ⟨S[p].toNat, 0, [], (p : Int) + 1, 0⟩) rfl
      generalize Out.fin er0 p ⟨S[p].toNat, 0, [], (p : Int) + 1, 0⟩ = f at *
      obtain ⟨fn, fi, ft, fto, fer⟩ := f
      obtain ⟨q, rfl⟩ := Int.eq_ofNat_of_zero_le f0
      simp only at *
      subst z0 z1
      exact do_0 a S q (by omega) n fn fer hx.1 hx.2 w hs h.lt hC
    · have e : outOf S p 0 n = ⟨0, 0, [], p, 2⟩ := by unfold outOf; rw [if_pos rfl, dif_neg h1]
      rw [e] at f0 f1 ⊢
      have hpe : p = S.size := by omega
      have hx := fin_num_le (er0 := er0) (p := p) (o := ⟨0, 0, [], p, 2⟩) (m := 255) (by simp) (by simp)
      have hC := fun W (hW : W.heap[a]? = w.heap[a]?) => (Byte_no' a S p er0 W hs hpe (rd_of h hW)).mono fun e w' hq => RdEnds.num (o := ⟨0, 0, [], p, 2⟩) hq
      have z0 := fin_int0 (er0 := er0) (p := p) (o := ⟨0, 0, [], p, 2⟩) rfl
      have z1 := fin_text0 (er0 := er0) (p := p) (o := ⟨0, 0, [], p, 2⟩) rfl
      generalize Out.fin er0 p ⟨0, 0, [], p, 2⟩ = f at *
      obtain ⟨fn, fi, ft, fto, fer⟩ := f
      obtain ⟨q, rfl⟩ := Int.eq_ofNat_of_zero_le f0
      simp only at *
      subst z0 z1
      exact do_0 a S q (by omega) n fn fer hx.1 hx.2 w hs h.lt hC
  · by_cases k2 : k = 2
    · subst k2
      have e : outOf S p 2 n = ⟨(lcount S.data.toList p n).1, 0, [], (lcount S.data.toList p n).2.1, (lcount S.data.toList p n).2.2⟩ := by unfold outOf; rw [if_neg (by decide), if_pos rfl]
      rw [e] at f0 f1 ⊢
      have hx := fin_num_le (er0 := er0) (p := p) (o := ⟨(lcount S.data.toList p n).1, 0, [], (lcount S.data.toList p n).2.1, (lcount S.data.toList p n).2.2⟩) (by simp) (lcount_le S.data.toList p n hn)
      have hC := fun W (hW : W.heap[a]? = w.heap[a]?) => (RCount_any a S p er0 n W hs hn (rd_of h hW)).mono fun e w' hq => RdEnds.num (o := ⟨(lcount S.data.toList p n).1, 0, [], (lcount S.data.toList p n).2.1, (lcount S.data.toList p n).2.2⟩) hq
      have z0 := fin_int0 (er0 := er0) (p := p) (o := ⟨(lcount S.data.toList p n).1, 0, [], (lcount S.data.toList p n).2.1, (lcount S.data.toList p n).2.2⟩) rfl
      have z1 := fin_text0 (er0 := er0) (p := p) (o := ⟨(lcount S.data.toList p n).1, 0, [], (lcount S.data.toList p n).2.1, (lcount S.data.toList p n).2.2⟩) rfl
      generalize Out.fin er0 p ⟨(lcount S.data.toList p n).1, 0, [], (lcount S.data.toList p n).2.1, (lcount S.data.toList p n).2.2⟩ = f at *
      obtain ⟨fn, fi, ft, fto, fer⟩ := f
      obtain ⟨q, rfl⟩ := Int.eq_ofNat_of_zero_le f0
      simp only at *
      subst z0 z1
      exact do_2 a S q (by omega) n fn fer hx.1 hx.2 w hs h.lt hC
    · by_cases k3 : k = 3
      · subst k3
        have e : outOf S p 3 n = ⟨0, Zig.zag ((lget S.data.toList p).1 : Nat), [], (lget S.data.toList p).2.1, (lget S.data.toList p).2.2⟩ := by unfold outOf; rw [if_neg (by decide), if_neg (by decide), if_pos rfl]
        rw [e] at f0 f1 ⊢
        have hC := fun W (hW : W.heap[a]? = w.heap[a]?) => (RInt_any a S p er0 W hs (rd_of h hW)).mono fun e w' hq => RdEnds.int (o := ⟨0, Zig.zag ((lget S.data.toList p).1 : Nat), [], (lget S.data.toList p).2.1, (lget S.data.toList p).2.2⟩) hq
        have z0 := fin_num0 (er0 := er0) (p := p) (o := ⟨0, Zig.zag ((lget S.data.toList p).1 : Nat), [], (lget S.data.toList p).2.1, (lget S.data.toList p).2.2⟩) rfl
        have z1 := fin_text0 (er0 := er0) (p := p) (o := ⟨0, Zig.zag ((lget S.data.toList p).1 : Nat), [], (lget S.data.toList p).2.1, (lget S.data.toList p).2.2⟩) rfl
        generalize Out.fin er0 p ⟨0, Zig.zag ((lget S.data.toList p).1 : Nat), [], (lget S.data.toList p).2.1, (lget S.data.toList p).2.2⟩ = f at *
        obtain ⟨fn, fi, ft, fto, fer⟩ := f
        obtain ⟨q, rfl⟩ := Int.eq_ofNat_of_zero_le f0
        simp only at *
        subst z0 z1
        exact do_3 a S q (by omega) n fi fer w hs h.lt hC
      · by_cases k4 : k = 4
        · subst k4
          have e : outOf S p 4 n = ⟨0, 0, (ltext S.data.toList p n).1, (ltext S.data.toList p n).2.1, (ltext S.data.toList p n).2.2⟩ := by unfold outOf; rw [if_neg (by decide), if_neg (by decide), if_neg (by decide), if_pos rfl]
          rw [e] at f0 f1 ⊢
          have hC := fun W (hW : W.heap[a]? = w.heap[a]?) => (RText_any a S p er0 n W hs hn (rd_of h hW)).mono fun e w' hq => RdEnds.text (o := ⟨0, 0, (ltext S.data.toList p n).1, (ltext S.data.toList p n).2.1, (ltext S.data.toList p n).2.2⟩) hq
          have z0 := fin_num0 (er0 := er0) (p := p) (o := ⟨0, 0, (ltext S.data.toList p n).1, (ltext S.data.toList p n).2.1, (ltext S.data.toList p n).2.2⟩) rfl
          have z1 := fin_int0 (er0 := er0) (p := p) (o := ⟨0, 0, (ltext S.data.toList p n).1, (ltext S.data.toList p n).2.1, (ltext S.data.toList p n).2.2⟩) rfl
          generalize Out.fin er0 p ⟨0, 0, (ltext S.data.toList p n).1, (ltext S.data.toList p n).2.1, (ltext S.data.toList p n).2.2⟩ = f at *
          obtain ⟨fn, fi, ft, fto, fer⟩ := f
          obtain ⟨q, rfl⟩ := Int.eq_ofNat_of_zero_le f0
          simp only at *
          subst z0 z1
          exact do_4 a S q (by omega) n ft fer w hs h.lt hC
        · by_cases k5 : k = 5
          · subst k5
            have e : outOf S p 5 n = ⟨0, 0, (lraw S.data.toList p n).1, (lraw S.data.toList p n).2.1, (lraw S.data.toList p n).2.2⟩ := by unfold outOf; rw [if_neg (by decide), if_neg (by decide), if_neg (by decide), if_neg (by decide), if_pos rfl]
            rw [e] at f0 f1 ⊢
            have hC := fun W (hW : W.heap[a]? = w.heap[a]?) => (RRaw_any a S p er0 n W hs hp (rd_of h hW)).mono fun e w' hq => RdEnds.text (o := ⟨0, 0, (lraw S.data.toList p n).1, (lraw S.data.toList p n).2.1, (lraw S.data.toList p n).2.2⟩) hq
            have z0 := fin_num0 (er0 := er0) (p := p) (o := ⟨0, 0, (lraw S.data.toList p n).1, (lraw S.data.toList p n).2.1, (lraw S.data.toList p n).2.2⟩) rfl
            have z1 := fin_int0 (er0 := er0) (p := p) (o := ⟨0, 0, (lraw S.data.toList p n).1, (lraw S.data.toList p n).2.1, (lraw S.data.toList p n).2.2⟩) rfl
            generalize Out.fin er0 p ⟨0, 0, (lraw S.data.toList p n).1, (lraw S.data.toList p n).2.1, (lraw S.data.toList p n).2.2⟩ = f at *
            obtain ⟨fn, fi, ft, fto, fer⟩ := f
            obtain ⟨q, rfl⟩ := Int.eq_ofNat_of_zero_le f0
            simp only at *
            subst z0 z1
            exact do_5 a S q (by omega) n ft fer w hs h.lt hC
          · have e : outOf S p k n = ⟨(lget S.data.toList p).1, 0, [], (lget S.data.toList p).2.1, (lget S.data.toList p).2.2⟩ := by unfold outOf; rw [if_neg k0, if_neg k2, if_neg k3, if_neg k4, if_neg k5]
            rw [e] at f0 f1 ⊢
            have hC := fun W (hW : W.heap[a]? = w.heap[a]?) => (RNum_any a S p er0 W hs (rd_of h hW)).mono fun e w' hq => RdEnds.num (o := ⟨(lget S.data.toList p).1, 0, [], (lget S.data.toList p).2.1, (lget S.data.toList p).2.2⟩) hq
            have z0 := fin_int0 (er0 := er0) (p := p) (o := ⟨(lget S.data.toList p).1, 0, [], (lget S.data.toList p).2.1, (lget S.data.toList p).2.2⟩) rfl
            have z1 := fin_text0 (er0 := er0) (p := p) (o := ⟨(lget S.data.toList p).1, 0, [], (lget S.data.toList p).2.1, (lget S.data.toList p).2.2⟩) rfl
            generalize Out.fin er0 p ⟨(lget S.data.toList p).1, 0, [], (lget S.data.toList p).2.1, (lget S.data.toList p).2.2⟩ = f at *
            obtain ⟨fn, fi, ft, fto, fer⟩ := f
            obtain ⟨q, rfl⟩ := Int.eq_ofNat_of_zero_le f0
            simp only at *
            subst z0 z1
            exact do_else a S q (by omega) k n fn fer k0 k2 k3 k4 k5 w hs h.lt hC

end Go.Proofs.Ytelljahjkfoleaa.Wire
