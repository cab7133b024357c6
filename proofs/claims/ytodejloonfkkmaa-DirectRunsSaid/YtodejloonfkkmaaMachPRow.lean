/-
  Package machine: a run in memory: the struct, its variables, its arrays, its events, its stack, each in a block of its own; and what stays as it is.
-/
import Derived.Test.YtodejloonfkkmaaMachH
import Derived.Test.YtodejloonfkkmaaMachSteps
import Derived.Maps.OwnOps
set_option linter.unusedVariables false
namespace Go.Proofs.Ytodejloonfkkmaa.Mach
open Go.RowKit Mem _root_.Go.Proofs.Ytodejloonfkkmaa.Arena _root_.Go.Proofs.Ytodejloonfkkmaa.Kinds _root_.Go.Proofs.Ytodejloonfkkmaa.Path _root_.Go.Proofs.Ytodejloonfkkmaa.Cat _root_.Go.Proofs.Ytodejloonfkkmaa.Suite

/-- What a run is told by, that does not change: where its struct lies, its program, its fuel, the places behind nodes, its variables, its arrays, what nodes do by their tags; which blocks are so. -/
structure PK where
  base : Nat
  g : Nat
  p : Prg
  F : Nat
  eb : Nat
  ec : Nat
  mb : Nat
  vv : Value
  av : Value
  actv : Int → Value
  cst : Nat → Prop
  W0 : World
/-- The blocks of a run are told by labels: 1 the struct, 2 the variables, 3 the row of arrays, 4 the events, 5 the stack, 6 what stays as it is, 7 and so on the arrays; 0: none of its. -/
structure PLab (κ : Nat → Nat) (K : PK) (evv sv : Value) (Y : List ((Option Addr × Nat) × List Int)) (top : Nat) : Prop where
  g : κ K.g = 1
  v : ∀ k, K.vv.ownBlock = some k → κ k = 2
  a : ∀ k, K.av.ownBlock = some k → κ k = 3
  e : ∀ k, evv.ownBlock = some k → κ k = 4
  s : ∀ k, sv.ownBlock = some k → κ k = 5
  c : ∀ k, K.cst k → κ k = 6
  y : ∀ (i : Nat) (y : (Option Addr × Nat) × List Int) (k : Nat), Y[i]? = some y → (Value.slice y.1.1 y.2.length y.1.2).ownBlock = some k → κ k = 7 + i
  lt : ∀ k, κ k ≠ 0 → K.base ≤ k ∧ k < top
section
variable {K : PK} {κ : Nat → Nat} {evv sv : Value} {Y : List ((Option Addr × Nat) × List Int)} {s : St} {S : List Fr} {W W' : World}
theorem PLab.nc (h : PLab κ K evv sv Y W.heap.size) {k : Nat} (q : k < K.base ∨ K.cst k) : κ k = 0 ∨ κ k = 6 := by
  rcases q with q | q
  · left
    by_cases z : κ k = 0
    · exact z
    · have := (h.lt k z).1; omega
  · exact .inr (h.c k q)
/-- The labels behind a row that grew. -/
def relabP (n : Nat) (κ : Nat → Nat) (v : Value) (k : Nat) : Nat := if v.ownBlock = some k then n else if κ k = n then 0 else κ k
end
end Go.Proofs.Ytodejloonfkkmaa.Mach
