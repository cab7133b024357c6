/-
  Package zigzag and its reference, walked: each number with a sign is told by one without.
  Package zigzag: Put and Get, walked; the reference's Put.
  Package wire: a place in bytes, walked.
  Package wire: the number, the text and the bytes at a place, walked.
  Package wire: the reader, walked.
  Package wire: what a reader reads, walked.
  Package wire: the writer, walked.
  A writer through several calls: what it holds, and that all but its own blocks is as it was since a world that is past.
-/
import Derived.Test.YtlaidcahkafgoaaLebG
import Derived.BigQuiet
import Derived.Deep.RegionHeld3
import Derived.Lib.Zigzag
import Derived.Laws.EntriesVeiled
import Derived.Deep.DrawnRows
import Derived.Test.YtlaidcahkafgoaaBaseG
import Derived.RegionTactic
import Derived.Outline
import Derived.Lib.Strings
import Derived.Lib.AppendStr
import Derived.Maps.AppendAt
namespace Go.Proofs.Ytlaidcahkafgoaa.Zig
open Go.RowKit Leb

/-- The number that tells one with a sign. -/
def zig (n : Int) : Int := if 0 ≤ n then 2 * n else -2 * n - 1
/-- The number with a sign that is told. -/
def zag (u : Int) : Int := if u % 2 = 0 then u / 2 else -(u / 2) - 1

theorem zig_range {n : Int} (h0 : -9223372036854775808 ≤ n) (h1 : n ≤ 9223372036854775807) : 0 ≤ zig n ∧ zig n ≤ 18446744073709551615 := by unfold zig; split <;> omega
theorem zag_range {u : Int} (h0 : 0 ≤ u) (h1 : u ≤ 18446744073709551615) : -9223372036854775808 ≤ zag u ∧ zag u ≤ 9223372036854775807 := by unfold zag; split <;> omega
theorem zag_zig (n : Int) : zag (zig n) = n := by unfold zig zag; split <;> split <;> omega
theorem zig_zag (u : Int) (h0 : 0 ≤ u) : zig (zag u) = u := by unfold zig zag; split <;> split <;> omega
theorem zig_sign (n : Int) : zig n % 2 = 1 ↔ n < 0 := by unfold zig; split <;> omega
theorem zig_nonneg {n : Int} (h : 0 ≤ n) : zig n = 2 * n := if_pos h
theorem zig_neg {n : Int} (h : ¬ 0 ≤ n) : zig n = -2 * n - 1 := if_neg h
theorem zag_0 : zag 0 = 0 := rfl

theorem ret_u64 {a b : Int} (h : a = b) : Ending.returned (.int .u64 a) = .returned (.int .u64 b) := by rw [h]
theorem ret_i64 {a b : Int} (h : a = b) : Ending.returned (.int .i64 a) = .returned (.int .i64 b) := by rw [h]

theorem xor_zero (x : Int) (h0 : 0 ≤ x) (h1 : x ≤ 18446744073709551615) : bits .xor .u64 x 0 = x := by
  obtain ⟨n, rfl⟩ := Int.eq_ofNat_of_zero_le h0
  have := u64_xor_nat n 0 (by omega) (by omega)
  simpa using this

theorem xor_full (x : Int) (h0 : 0 ≤ x) (h1 : x ≤ 18446744073709551615) : bits .xor .u64 x 18446744073709551615 = 18446744073709551615 - x := by
  obtain ⟨n, rfl⟩ := Int.eq_ofNat_of_zero_le h0
  have := u64_xor_nat n 18446744073709551615 (by omega) (by omega)
  have e : ((18446744073709551615 : Nat) : Int) = 18446744073709551615 := rfl
  rw [e] at this
  rw [this, Nat.xor_comm, show (18446744073709551615 : Nat) = 2 ^ 64 - 1 from rfl, Lib.xor_ones64 n (by omega)]
  omega

theorem zig_bits (n : Int) (h0 : -9223372036854775808 ≤ n) (h1 : n ≤ 9223372036854775807) :
    bits .xor .u64 (IntKind.u64.wrap (IntKind.u64.wrap n * 2)) (IntKind.u64.wrap (-(IntKind.u64.wrap n / 9223372036854775808))) = zig n := by
  simp only [IntKind.wrap_u64]
  by_cases h : 0 ≤ n
  · have e1 : n % 18446744073709551616 = n := by omega
    have e2 : -(n / 9223372036854775808) % 18446744073709551616 = 0 := by omega
    have e3 : n * 2 % 18446744073709551616 = 2 * n := by omega
    rw [e1, e2, e3, xor_zero _ (by omega) (by omega), zig_nonneg h]
  · have e1 : n % 18446744073709551616 = n + 18446744073709551616 := by omega
    rw [e1]
    have e2 : -((n + 18446744073709551616) / 9223372036854775808) % 18446744073709551616 = 18446744073709551615 := by omega
    have e3 : (n + 18446744073709551616) * 2 % 18446744073709551616 = 2 * n + 18446744073709551616 := by omega
    rw [e2, e3, xor_full _ (by omega) (by omega), zig_neg h]
    omega

theorem zag_bits (u : Int) (h0 : 0 ≤ u) (h1 : u ≤ 18446744073709551615) :
    IntKind.i64.wrap (bits .xor .u64 (u / 2) (IntKind.u64.wrap (-bits .and .u64 u 1))) = zag u := by
  rw [Lib.u64_and1 u h0 (by omega)]
  simp only [IntKind.wrap_u64, IntKind.wrap_i64]
  by_cases h : u % 2 = 0
  · rw [h, show (-0 : Int) % 18446744073709551616 = 0 by omega, xor_zero _ (by omega) (by omega)]
    unfold zag
    rw [if_pos h]
    omega
  · rw [show u % 2 = 1 by omega, show (-1 : Int) % 18446744073709551616 = 18446744073709551615 by omega, xor_full _ (by omega) (by omega)]
    unfold zag
    rw [if_neg h]
    omega

end Go.Proofs.Ytlaidcahkafgoaa.Zig

namespace Go.Proofs.Ytlaidcahkafgoaa.Zig
open Go.RowKit Leb

attribute [local go_sem ↓] Go.wp_at_zero Go.wp_at_succ

theorem ret_bool {p q : Bool} (h : p = q) : Ending.returned (.bool p) = .returned (.bool q) := by rw [h]
theorem size_mk (l : List UInt8) : (ByteArray.mk l.toArray).size = l.length := by simp [ByteArray.size]
theorem below2 {w w1 w2 : World} (h1 : Below w.heap.size w w1) (h2 : Below w1.heap.size w1 w2) : Below w.heap.size w w2 := h1.trans (h2.mono h1.size)

theorem wf_u64_bounds {n : Int} (h : (Lit.int .u64 n).wf = true) : 0 ≤ n ∧ n ≤ 18446744073709551615 := by
  simp [Lit.wf, IntKind.min, IntKind.max, IntKind.signed, IntKind.bits] at h
  omega
theorem wf_i64_bounds {n : Int} (h : (Lit.int .i64 n).wf = true) : -9223372036854775808 ≤ n ∧ n ≤ 9223372036854775807 := by
  simp [Lit.wf, IntKind.min, IntKind.max, IntKind.signed, IntKind.bits] at h
  omega

/-- The bytes of a number with a sign. -/
def zput (n : Int) : List UInt8 := lput (zig n).toNat

/-- What Get gives. -/
def ZGetEnds (s : ByteArray) (a : Int) (w : World) (e : Ending) (w' : World) : Prop :=
  e = .returned (.tuple #[.int .i64 (zag ((lget s.data.toList a).1 : Int)), .int .i64 (lget s.data.toList a).2.1, .int .i64 (lget s.data.toList a).2.2]) ∧ Below w.heap.size w w'

theorem ZGetEnds.mk {s : ByteArray} {a : Int} {w w' : World} {m : Int} {n : Nat} {b c : Int} (h : lget s.data.toList a = (n, b, c)) (hm : m = zag (n : Int)) (hb : Below w.heap.size w w') : ZGetEnds s a w (.returned (.tuple #[.int .i64 m, .int .i64 b, .int .i64 c])) w' :=
  ⟨by rw [h, hm], hb⟩

theorem ZGetEnds.to {s : ByteArray} {a : Int} {w w' : World} {e : Ending} {n : Nat} {b c : Int} (h : ZGetEnds s a w e w') (hl : lget s.data.toList a = (n, b, c)) : e = .returned (.tuple #[.int .i64 (zag (n : Int)), .int .i64 b, .int .i64 c]) ∧ Below w.heap.size w w' := by
  obtain ⟨h1, h2⟩ := h
  rw [hl] at h1
  exact ⟨h1, h2⟩

end Go.Proofs.Ytlaidcahkafgoaa.Zig

namespace Go.Proofs.Ytlaidcahkafgoaa.Wire
open Go.RowKit Leb Mem

/-- A place, as a value. -/
def plc (s : ByteArray) (a : Int) : Value := .agg #[.string s, .int .i64 a]

end Go.Proofs.Ytlaidcahkafgoaa.Wire

namespace Go.Proofs.Ytlaidcahkafgoaa.Wire
open Go.RowKit Leb Mem

/-- A list of bytes as a string. -/
def strB (l : List UInt8) : ByteArray := ⟨l.toArray⟩
theorem strB_size (l : List UInt8) : (strB l).size = l.length := by simp [strB, ByteArray.size]
theorem strB_list (l : List UInt8) : (strB l).data.toList = l := by simp [strB]
theorem strB_of (s : ByteArray) : strB s.data.toList = s := rfl
theorem extract_strB (s : ByteArray) (a b : Nat) : s.extract a b = strB ((s.data.toList.drop a).take (b - a)) := by
  apply ByteArray.ext
  apply Array.ext'
  rw [Lib.extract_data]
  simp [strB, List.take_drop]

/-- What stands at a place, no more than m. -/
def lcount (l : List UInt8) (a m : Int) : Nat × Int × Int := if (lget l a).2.2 ≠ 0 then (0, a, (lget l a).2.2) else if m < 0 ∨ m < (lget l a).1 then (0, a, 4) else lget l a
/-- The n bytes at a place. -/
def lraw (l : List UInt8) (a n : Int) : List UInt8 × Int × Int := if n < 0 then ([], a, 1) else if (l.length : Int) - a < n then ([], a, 2) else ((l.drop a.toNat).take n.toNat, a + n, 0)
/-- The text at a place. -/
def ltext (l : List UInt8) (a m : Int) : List UInt8 × Int × Int := if (lcount l a m).2.2 ≠ 0 then ([], a, (lcount l a m).2.2) else lraw l (lcount l a m).2.1 (lcount l a m).1

def CountEnds (s : ByteArray) (a m : Int) (w : World) (e : Ending) (w' : World) : Prop :=
  e = .returned (.tuple #[.int .i64 (lcount s.data.toList a m).1, .int .i64 (lcount s.data.toList a m).2.1, .int .i64 (lcount s.data.toList a m).2.2]) ∧ Below w.heap.size w w'
def TextEnds (r : List UInt8 × Int × Int) (w : World) (e : Ending) (w' : World) : Prop :=
  e = .returned (.tuple #[.string (strB r.1), .int .i64 r.2.1, .int .i64 r.2.2]) ∧ Below w.heap.size w w'
theorem CountEnds.mk {s : ByteArray} {a m : Int} {w w' : World} {n b c : Int} {k : Nat} (h : lcount s.data.toList a m = (k, b, c)) (hn : n = k) (hb : Below w.heap.size w w') : CountEnds s a m w (.returned (.tuple #[.int .i64 n, .int .i64 b, .int .i64 c])) w' :=
  ⟨by rw [h, hn], hb⟩
theorem CountEnds.to {s : ByteArray} {a m : Int} {w w' : World} {e : Ending} {n : Nat} {b c : Int} (h : CountEnds s a m w e w') (hl : lcount s.data.toList a m = (n, b, c)) : e = .returned (.tuple #[.int .i64 n, .int .i64 b, .int .i64 c]) ∧ Below w.heap.size w w' := by
  obtain ⟨h1, h2⟩ := h
  rw [hl] at h1
  exact ⟨h1, h2⟩
theorem TextEnds.mk {r : List UInt8 × Int × Int} {w w' : World} {s : ByteArray} {l : List UInt8} {b c : Int} (h : r = (l, b, c)) (hs : s = strB l) (hb : Below w.heap.size w w') : TextEnds r w (.returned (.tuple #[.string s, .int .i64 b, .int .i64 c])) w' :=
  ⟨by rw [h, hs], hb⟩
theorem TextEnds.to {r : List UInt8 × Int × Int} {w w' : World} {e : Ending} {l : List UInt8} {b c : Int} (h : TextEnds r w e w') (hl : r = (l, b, c)) : e = .returned (.tuple #[.string (strB l), .int .i64 b, .int .i64 c]) ∧ Below w.heap.size w w' := by
  obtain ⟨h1, h2⟩ := h
  rw [hl] at h1
  exact ⟨h1, h2⟩

theorem lcount_err {l : List UInt8} {a m : Int} (h : (lget l a).2.2 ≠ 0) : lcount l a m = (0, a, (lget l a).2.2) := by unfold lcount; rw [if_pos h]
theorem lcount_large {l : List UInt8} {a m : Int} (h : (lget l a).2.2 = 0) (hm : m < 0 ∨ m < (lget l a).1) : lcount l a m = (0, a, 4) := by unfold lcount; rw [if_neg (by omega), if_pos hm]
theorem lcount_ok {l : List UInt8} {a m : Int} (h : (lget l a).2.2 = 0) (h0 : 0 ≤ m) (h1 : (lget l a).1 ≤ m) : lcount l a m = lget l a := by unfold lcount; rw [if_neg (by omega), if_neg (by omega)]
theorem wrap_u64_of {n : Int} (h0 : 0 ≤ n) (h1 : n ≤ 9223372036854775807) : IntKind.u64.wrap n = n := by rw [IntKind.wrap_u64]; omega
theorem wrap_i64_of {n : Int} (h0 : 0 ≤ n) (h1 : n ≤ 9223372036854775807) : IntKind.i64.wrap n = n := by rw [IntKind.wrap_i64]; omega

theorem lcount_range (l : List UInt8) (a m : Int) (h : (lcount l a m).2.2 = 0) : 0 ≤ a ∧ a < (lcount l a m).2.1 ∧ (lcount l a m).2.1 ≤ l.length ∧ (lcount l a m).1 ≤ m ∧ lcount l a m = lget l a := by
  unfold lcount at *
  by_cases c1 : (lget l a).2.2 ≠ 0
  · rw [if_pos c1] at h; exact absurd h c1
  · rw [if_neg c1] at h ⊢
    split at h
    · simp at h
    · rename_i c2
      rw [if_neg c2]
      obtain ⟨h1, h2, h3, -⟩ := lget_only l a h
      exact ⟨h1, h2, h3, by omega, rfl⟩

end Go.Proofs.Ytlaidcahkafgoaa.Wire

namespace Go.Proofs.Ytlaidcahkafgoaa.Wire
open Go.RowKit Leb Mem

/-- What was wrong first. -/
def fst0 (p q : Int) : Int := if p = 0 then q else p
theorem fst0_0 (q : Int) : fst0 0 q = q := if_pos rfl
theorem fst0_n {p : Int} (h : p ≠ 0) (q : Int) : fst0 p q = p := if_neg h

/-- x, or z if something is wrong. -/
def sel (p q : Int) (x z : Value) : Value := if fst0 p q = 0 then x else z
theorem sel_go {p q : Int} (h : fst0 p q = 0) (x z : Value) : sel p q x z = x := if_pos h
theorem sel_no {p q : Int} (h : fst0 p q ≠ 0) (x z : Value) : sel p q x z = z := if_neg h

section
variable {a : Nat} {s : ByteArray} {p er0 to er : Int} {x z : Value} {w w' : World} {e : Ending}
end

end Go.Proofs.Ytlaidcahkafgoaa.Wire

namespace Go.Proofs.Ytlaidcahkafgoaa.Wire
open Go.RowKit Leb Mem

/-- What End tells. -/
def endOf (s : ByteArray) (p er : Int) : Int := if er ≠ 0 then er else if p < s.size then 5 else 0

end Go.Proofs.Ytlaidcahkafgoaa.Wire

namespace Go.Proofs.Ytlaidcahkafgoaa.Wire
open Go.RowKit Leb Mem

theorem strCells_b (s : ByteArray) : Lib.strCells s = Bytes.bcells s.data.toList := by
  simp [Lib.strCells, Bytes.bcells, Bytes.nums]

/-- The row behind a text's append lies where it lay, or is new. -/
theorem append_text_at {P : Program} (w : World) (t u ty e : TypeId) (i : TypeInfo) (ht : P.underlying t = some (.slice e)) (hu : P.underlying u = some .string) (hi : P.info? e = some i) (hz : i.zero = some (.int .u8 0))
    (hsize : i.size = 1) (hby : i.bytes = 1) (v : Value) (n : Nat) (xs : List Value) (hown : w.ownsRow 0 e 1 v n xs) (s : ByteArray) (h63 : n + s.size ≤ maxLen) (hb : n + s.size ≤ 140737488355328) :
    ∃ v' w', (Builtin.append_ #[t, u] ty #[v, .string s]).run P w = .ok v' w' ∧ w'.ownsRow 0 e 1 v' (n + s.size) (xs ++ Lib.strCells s) ∧ w.grownBy w' v.ownBlock ∧
      (∀ k, v'.ownBlock = some k → v.ownBlock = some k ∨ w.heap.size ≤ k) := by
  obtain ⟨v', w', hr, h2, h3, -⟩ := Lib.run_append_own_string (P := P) w 0 t u ty e i ht hu hi hz hsize hby v n xs hown s h63 hb (Nat.zero_le _)
  refine ⟨v', w', hr, h2, h3, ?_⟩
  rcases hown.2 with ⟨rfl, rfl⟩ | ⟨g, cap, cur, rfl, hbg, hg, hnc, hcm, hcs, htake⟩
  · have hx : xs = [] := List.eq_nil_of_length_eq_zero (by simpa using hown.1)
    subst hx
    obtain ⟨v2, w2, hr2, h22, -⟩ := Lib.run_append_own_string (P := P) w w.heap.size t u ty e i ht hu hi hz hsize hby _ 0 [] (World.ownsRow_nil w _ e 1) s h63 hb (Nat.le_refl _)
    rw [hr] at hr2
    cases hr2
    intro k hk
    exact .inr (h22.lt k hk).1
  · have hcs' : cur.size = cap := by simpa using hcs
    have hxl : xs.length = n := by simpa using hown.1
    by_cases hroom : n + s.size ≤ cap
    · have hr2 := Lib.run_append_room_string (P := P) w t u ty e i ht hu hi hsize g n cap cur hg s hroom (by omega)
      rw [hr] at hr2
      cases hr2
      intro k hk
      exact .inl hk
    · have hr2 := Lib.run_append_grow_string (P := P) w t u ty e i (.int .u8 0) ht hu hi hz ⟨g, 0, none⟩ n cap xs (by rw [hsize]; simpa using hxl) (hown.cells (g := g) rfl) s (by omega) (by simp only [maxLen] at h63; omega) (by rw [hby]; exact growslice_fits (by omega) (by omega))
      rw [hr] at hr2
      cases hr2
      intro k hk
      simp [Value.ownBlock] at hk
      exact .inr (by omega)

/-- At the operation. -/
theorem wpList_append_text_at {P : Program} {w : World} {ops : Array Oper} {rest : List Oper} {o : Oper} {a : Act} {Q : Exit → Act → World → Prop} (hgd : o.guard = none) (sl x : Operand) (t u : TypeId)
    (ho : o.op = .call { callee := .builtin .append, args := #[sl, x], argTypes := #[t, u] })
    (e : TypeId) (i : TypeInfo) (ht : P.underlying t = some (.slice e)) (hu : P.underlying u = some .string) (hi : P.info? e = some i) (hz : i.zero = some (.int .u8 0))
    (hsize : i.size = 1) (hby : i.bytes = 1)
    (v : Value) (n : Nat) (xs : List Value) (hs : a.eval sl = v) (hown : w.ownsRow 0 e 1 v n xs) (s : ByteArray) (hx : a.eval x = .string s)
    (h63 : n + s.size ≤ maxLen) (hbytes : n + s.size ≤ 140737488355328)
    (h : ∀ v' w', w'.ownsRow 0 e 1 v' (n + s.size) (xs ++ Lib.strCells s) → w.grownBy w' v.ownBlock → (∀ k, v'.ownBlock = some k → v.ownBlock = some k ∨ w.heap.size ≤ k) → wpList P ops Q rest (a.put o.dst v') w') : wpList P ops Q (o :: rest) a w := by
  refine wpList_plain hgd fun K hK => ?_
  obtain ⟨v', w', hr, h2, h3, h4⟩ := append_text_at (P := P) w t u o.type e i ht hu hi hz hsize hby v n xs hown s h63 hbytes
  unfold Oper.wp execOp
  simp only [ho, resolve, invoke, builtin, Sem.run_bind, Sem.run_pure, Result.andThen_ok, List.map_toArray, List.map_cons, List.map_nil, hs, hx, hr]
  exact hK _ _ (h v' w' h2 h3 h4)

/-- What a writer's calls may turn. -/
def Its (a : Nat) (R : Option Nat) (k : Nat) : Prop := k = a ∨ R = some k

section
variable {w w' : World} {a : Nat} {R : Option Nat} {l : List UInt8}
theorem ownsRow_of_block {base : Nat} {e : TypeId} {size : Nat} {v : Value} {n : Nat} {xs : List Value} (h : w.ownsRow base e size v n xs) (hb : ∀ k, v.ownBlock = some k → w'.heap[k]? = w.heap[k]?) : w'.ownsRow base e size v n xs := by
  refine ⟨h.1, ?_⟩
  rcases h.2 with hn | ⟨g, cap, cur, rfl, hbg, hgg, rest⟩
  · exact .inl hn
  · exact .inr ⟨g, cap, cur, rfl, hbg, (hb g rfl).trans hgg, rest⟩
end

theorem bcells_add (l m : List UInt8) : Bytes.bcells (l ++ m) = Bytes.bcells l ++ Bytes.bcells m := by simp [Bytes.bcells, Bytes.nums]

theorem owns_form {w : World} {base : Nat} {e : TypeId} {size : Nat} {v : Value} {n : Nat} {xs : List Value} (h : w.ownsRow base e size v n xs) : ∃ A c, v = .slice A n c := by
  rcases h.2 with ⟨rfl, rfl⟩ | ⟨g, cap, _, rfl, _⟩
  · exact ⟨_, _, rfl⟩
  · exact ⟨_, _, rfl⟩

/-- A text's bytes: how many, and they. -/
def tput (s : List UInt8) : List UInt8 := lput s.length ++ s

theorem u64_len {n : Nat} (h : n ≤ 1073741824) : IntKind.u64.wrap (n : Int) = (n : Int) := by rw [IntKind.wrap_u64]; omega

end Go.Proofs.Ytlaidcahkafgoaa.Wire

namespace Go.Proofs.Ytlaidcahkafgoaa.Wire
open Go.RowKit Leb Mem

section
variable {g : Nat} {R0 : Option Nat} {W w w' : World} {l m : List UInt8}
end

section
variable {g : Nat} {R0 : Option Nat} {W w : World} {l : List UInt8}
end

end Go.Proofs.Ytlaidcahkafgoaa.Wire
