/-
  The laws of layer 13, walked on the package.
-/
import Derived.Test.YtlaidcahkafgoaaCatN
import Derived.Test.YtlaidcahkafgoaaDeltaO
import Derived.Test.YtlaidcahkafgoaaDeltaP
import Derived.Test.YtlaidcahkafgoaaCatLawC
import Derived.Test.YtlaidcahkafgoaaCatH
import Derived.Test.YtlaidcahkafgoaaCatLawE
set_option linter.unusedVariables false
namespace Go.Proofs.Ytlaidcahkafgoaa.Cat
open Go.RowKit Mem _root_.Go.Proofs.Ytlaidcahkafgoaa.Arena _root_.Go.Proofs.Ytlaidcahkafgoaa.Delta

theorem dpkg : DPkg where
  apply p d w hp hd hl := Apply_any p d w hp hd hl
  compare a b w ha hb := DCompare_any a b w ha hb
  same a b w ha hb := DSame_any a b w ha hb
theorem catalogTells_walk (A : Option Addr) (c : Nat) (l : List Nd) (hm : l.length ≤ maxLen) (hc : l.length ≤ c) (hA : A = none → c = 0) (a : Int) (wa : (Lit.int .i64 a).wf = true) (op : Int) (wo : (Lit.int .i64 op).wf = true) (n : Int) (wn : (Lit.int .i64 n).wf = true) (w : World) (hx : Nodes w w.heap.size A l) :
    Calls Try.prog 3 #[.slice A l.length c, .int .i64 a, .int .i64 op, .int .i64 n] w fun e w' => e = .returned (.bool true) ∧ Below w.heap.size w w' :=
  catalogTells_of pkg A c l hc hA a op n w hx
theorem catalogJust_walk (A : Option Addr) (c : Nat) (l : List Nd) (hm : l.length ≤ maxLen) (hc : l.length ≤ c) (hA : A = none → c = 0) (a : Int) (wa : (Lit.int .i64 a).wf = true) (op : Int) (wo : (Lit.int .i64 op).wf = true) (n : Int) (wn : (Lit.int .i64 n).wf = true) (w : World) (hx : Nodes w w.heap.size A l) :
    Calls Try.prog 4 #[.slice A l.length c, .int .i64 a, .int .i64 op, .int .i64 n] w fun e w' => e = .returned (.bool true) ∧ Below w.heap.size w w' :=
  catalogJust_of pkg dpkg A c l hc hA a op n w hx
theorem catalogApplies_walk (A : Option Addr) (c : Nat) (l : List Nd) (hm : l.length ≤ maxLen) (hc : l.length ≤ c) (hA : A = none → c = 0) (hl : l.length ≤ 10000000000000) (a : Int) (wa : (Lit.int .i64 a).wf = true) (n : Int) (wn : (Lit.int .i64 n).wf = true) (w : World) (hx : Nodes w w.heap.size A l) :
    Calls Try.prog 5 #[.slice A l.length c, .int .i64 a, .int .i64 n] w fun e w' => e = .returned (.bool true) ∧ Below w.heap.size w w' :=
  catalogApplies_of pkg dpkg A c l hc hA hl a n w hx
theorem catalogPart_walk (A : Option Addr) (c : Nat) (l : List Nd) (hm : l.length ≤ maxLen) (hc : l.length ≤ c) (hA : A = none → c = 0) (a : Int) (wa : (Lit.int .i64 a).wf = true) (w : World) (hx : Nodes w w.heap.size A l) :
    Calls Try.prog 6 #[.slice A l.length c, .int .i64 a] w fun e w' => e = .returned (.bool true) ∧ Below w.heap.size w w' :=
  catalogPart_of pkg dpkg A c l hc hA a w hx
theorem catalogBack_walk (A : Option Addr) (c : Nat) (l : List Nd) (hm : l.length ≤ maxLen) (hc : l.length ≤ c) (hA : A = none → c = 0) (a : Int) (wa : (Lit.int .i64 a).wf = true) (n : Int) (wn : (Lit.int .i64 n).wf = true) (w : World) (hx : Nodes w w.heap.size A l) :
    Calls Try.prog 7 #[.slice A l.length c, .int .i64 a, .int .i64 n] w fun e w' => e = .returned (.bool true) ∧ Below w.heap.size w w' :=
  catalogBack_of pkg dpkg A c l hc hA a n w hx

end Go.Proofs.Ytlaidcahkafgoaa.Cat
