/-
  The laws of layer 15, walked on the package (supkg : SuPkg of SuitePPkg, which is to be written over what has landed).
-/
import Derived.Test.YtlecofghifjmcaaSuitePPkg
import Derived.Test.YtlecofghifjmcaaSuiteWorks
import Derived.Test.YtlecofghifjmcaaSuiteLawA
import Derived.Test.YtlecofghifjmcaaSuiteLawB
import Derived.Test.YtlecofghifjmcaaCodeG
set_option linter.unusedVariables false
namespace Go.Proofs.Ytlecofghifjmcaa.Suite
open Go.RowKit Mem _root_.Go.Proofs.Ytlecofghifjmcaa.Arena _root_.Go.Proofs.Ytlecofghifjmcaa.Delta

theorem works : Works := works_of supkg
theorem suiteChecks_walk (n : Int) (wn : (Lit.int .i64 n).wf = true) (A : Option Addr) (c : Nat) (ts : List (List Int)) (hl : ts.length ≤ maxLen) (hc : ts.length ≤ c) (hA : A = none → c = 0) (h64 : T64 ts) (A' : Option Addr) (c' : Nat) (us : List (List Int)) (hl' : us.length ≤ maxLen) (hc' : us.length ≤ c') (hA' : A' = none → c' = 0) (h64' : T64 us) (f : Int) (wf : (Lit.int .i64 f).wf = true) (w : World) (hR : TRow w A ts) (hR' : TRow w A' us) :
    Calls Try.prog 3 #[.int .i64 n, .slice A ts.length c, .slice A' us.length c', .int .i64 f] w fun e w' => e = .returned (.bool true) ∧ Below w.heap.size w w' :=
  suiteChecks_of supkg works n A c ts hc hA A' c' us hc' hA' f w hR hR'
theorem suiteBytes_walk (A : Option Addr) (c : Nat) (ts : List (List Int)) (hl : ts.length ≤ maxLen) (hc : ts.length ≤ c) (hA : A = none → c = 0) (h64 : T64 ts) (f : Int) (wf : (Lit.int .i64 f).wf = true) (S : ByteArray) (hS : S.size ≤ maxLen) (w : World) (hR : TRow w A ts) :
    Calls Try.prog 4 #[.slice A ts.length c, .int .i64 f, .string S] w fun e w' => e = .returned (.bool true) ∧ Below w.heap.size w w' :=
  suiteBytes_of supkg works A c ts hc hA h64 f (Code.wf_i64 wf) S w hR
theorem suiteBack_walk (A : Option Addr) (c : Nat) (ts : List (List Int)) (hl : ts.length ≤ maxLen) (hc : ts.length ≤ c) (hA : A = none → c = 0) (h64 : T64 ts) (f : Int) (wf : (Lit.int .i64 f).wf = true) (S : ByteArray) (hS : S.size ≤ maxLen) (w : World) (hR : TRow w A ts) :
    Calls Try.prog 5 #[.slice A ts.length c, .int .i64 f, .string S] w fun e w' => e = .returned (.bool true) ∧ Below w.heap.size w w' :=
  suiteBack_of supkg works A c ts hc hA h64 f (Code.wf_i64 wf) S w hR
theorem suiteApart_walk (A : Option Addr) (c : Nat) (ts : List (List Int)) (hl : ts.length ≤ maxLen) (hc : ts.length ≤ c) (hA : A = none → c = 0) (h64 : T64 ts) (A' : Option Addr) (c' : Nat) (us : List (List Int)) (hl' : us.length ≤ maxLen) (hc' : us.length ≤ c') (hA' : A' = none → c' = 0) (h64' : T64 us) (n : Int) (wn : (Lit.int .i64 n).wf = true) (m : Int) (wm : (Lit.int .i64 m).wf = true) (w : World) (hR : TRow w A ts) (hR' : TRow w A' us) :
    Calls Try.prog 6 #[.slice A ts.length c, .slice A' us.length c', .int .i64 n, .int .i64 m] w fun e w' => e = .returned (.bool true) ∧ Below w.heap.size w w' :=
  suiteApart_of supkg works A c ts hc hA h64 A' c' us hc' hA' h64' n (Code.wf_i64 wn) m (Code.wf_i64 wm) w hR hR'

end Go.Proofs.Ytlecofghifjmcaa.Suite
