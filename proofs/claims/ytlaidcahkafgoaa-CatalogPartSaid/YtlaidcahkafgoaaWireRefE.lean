/-
  The document's own text for what is read, walked: a number that is taken as it is, or with its sign.
-/
import Derived.Test.YtlaidcahkafgoaaWireRefD
import Derived.Deep.RegionWith
import Derived.Deep.RegionHeld3
namespace Go.Proofs.Ytlaidcahkafgoaa.Wire
open Go.RowKit Leb Mem

theorem fin0_ok {p : Int} {o : Out} (h : o.er = 0) : o.fin 0 p = ⟨o.num, o.int, o.text, o.to, 0⟩ := fin_go (by rw [fst0_0]; exact h)
theorem fin0_no {p : Int} {o : Out} (h : o.er ≠ 0) : o.fin 0 p = ⟨0, 0, [], p, o.er⟩ := by rw [fin_no (by rw [fst0_0]; exact h), fst0_0]

theorem outOf_0a {S : ByteArray} {p : Nat} {n : Int} (h : p < S.size) : outOf S p 0 n = ⟨S[p].toNat, 0, [], (p : Int) + 1, 0⟩ := by unfold outOf; rw [if_pos rfl, dif_pos h]
theorem outOf_0b {S : ByteArray} {p : Nat} {n : Int} (h : ¬ p < S.size) : outOf S p 0 n = ⟨0, 0, [], p, 2⟩ := by unfold outOf; rw [if_pos rfl, dif_neg h]
theorem outOf_2 {S : ByteArray} {p : Nat} {n : Int} : outOf S p 2 n = ⟨(lcount S.data.toList p n).1, 0, [], (lcount S.data.toList p n).2.1, (lcount S.data.toList p n).2.2⟩ := by unfold outOf; rw [if_neg (by decide), if_pos rfl]
theorem outOf_3 {S : ByteArray} {p : Nat} {n : Int} : outOf S p 3 n = ⟨0, Zig.zag ((lget S.data.toList p).1 : Nat), [], (lget S.data.toList p).2.1, (lget S.data.toList p).2.2⟩ := by unfold outOf; rw [if_neg (by decide), if_neg (by decide), if_pos rfl]
theorem outOf_4 {S : ByteArray} {p : Nat} {n : Int} : outOf S p 4 n = ⟨0, 0, (ltext S.data.toList p n).1, (ltext S.data.toList p n).2.1, (ltext S.data.toList p n).2.2⟩ := by unfold outOf; rw [if_neg (by decide), if_neg (by decide), if_neg (by decide), if_pos rfl]
theorem outOf_5 {S : ByteArray} {p : Nat} {n : Int} : outOf S p 5 n = ⟨0, 0, (lraw S.data.toList p n).1, (lraw S.data.toList p n).2.1, (lraw S.data.toList p n).2.2⟩ := by unfold outOf; rw [if_neg (by decide), if_neg (by decide), if_neg (by decide), if_neg (by decide), if_pos rfl]
theorem outOf_e {S : ByteArray} {p : Nat} {k n : Int} (k0 : k ≠ 0) (k2 : k ≠ 2) (k3 : k ≠ 3) (k4 : k ≠ 4) (k5 : k ≠ 5) : outOf S p k n = ⟨(lget S.data.toList p).1, 0, [], (lget S.data.toList p).2.1, (lget S.data.toList p).2.2⟩ := by unfold outOf; rw [if_neg k0, if_neg k2, if_neg k3, if_neg k4, if_neg k5]
/-- What is wrong with the number is wrong with what hangs on it. -/
theorem outOf_err {S : ByteArray} {p : Nat} {k n : Int} (k0 : k ≠ 0) (k5 : k ≠ 5) (h : (lget S.data.toList p).2.2 ≠ 0) : (outOf S p k n).er = (lget S.data.toList p).2.2 := by
  have hc := lcount_err (m := n) h
  by_cases k2 : k = 2
  · subst k2; rw [outOf_2, hc]
  · by_cases k3 : k = 3
    · subst k3; rw [outOf_3]
    · by_cases k4 : k = 4
      · subst k4; rw [outOf_4]; unfold ltext; rw [hc]; simp only; rw [if_pos h]
      · rw [outOf_e k0 k2 k3 k4 k5]

end Go.Proofs.Ytlaidcahkafgoaa.Wire
