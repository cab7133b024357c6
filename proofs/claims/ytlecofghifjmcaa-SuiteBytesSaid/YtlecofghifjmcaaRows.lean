/-
  No cell of these rows narrows 'for every input' (looked for: loops, veiled, ifaces, maps, wideKeys, modest, calm, conditions, laid).
  DERIVED. THE GIVEN ROWS OF THIS SEAT. 4 by the template 'for every input the law returns true; each argument reads behind the call as it read before'; 0 by the template 'total and deterministic' (their statements: YtlecofghifjmcaaTotals.lean).
  GIVEN WITH THE SEED: the statements are not yours to turn. If you find one false, say at which input.
  Laid BY PROGRAM, IN A SANDBOX (cutbox-rows.mjs): the forced cells as the released guide's own fill.sh prints them over the translation 06ab416b1b10968a… (all of the seat's roots in one cut). By AI agents, Wed Nov 11 2026. No macro, syntax, notation, axiom, sorry.
-/
import Derived.Test.YtlecofghifjmcaaChecked
import GoSem.Claim
import GoSem.ClaimJoined
import GoSem.ClaimMapViews
import Derived.JoinedTies
import Derived.KernelRfl
namespace Go.Proofs.Ytlecofghifjmcaa
/- THE CELL 'sum', in the pinned program and in every row, IS THE sha256 OF THE DUMP (.gsa) THAT YtlecofghifjmcaaProg.lean LOADS. Nothing in Lean hashes anything: it is a label: what it is worth is what the hold of that sum in a sandbox is worth. -/
noncomputable def Try.pinned : Pinned := { name := "ytlecofghifjmcaa", sum := "06ab416b1b10968a36d833a9ccf8955ceed2fcc3dd265e4d4549b58424521532", checked := Try.checked }
namespace Rows
def none {H : Type} : Left H := { results := [], args := [] }

/-- 'offshootlaw15.SuiteChecks': WHATEVER THE INPUT: true; the input reads as it did. -/
def suiteChecksSpec : ChangeSpec := { name := "suiteChecks", fn := fun _ => fun
  | [d1, d2, d3, d4] => { results := [.lit (.bool true)], args := [d1, d2, d3, d4] }
  | _ => none }
def suiteChecksRow : OpenClaim := { program := "ytlecofghifjmcaa", sum := "06ab416b1b10968a36d833a9ccf8955ceed2fcc3dd265e4d4549b58424521532", func := "offshoot/offshootlaw15.SuiteChecks", spec := "suiteChecks", unfollowed := true, recurses := true, apart := false }
def SuiteChecksSaid : Prop := suiteChecksRow.holds Try.pinned (OpenSpec.ofChange suiteChecksSpec)

/-- ITS FALSE NEIGHBOUR: 'it returns false'. Refute it at one input. -/
def suiteChecksWrong : ChangeSpec := { name := "suiteChecks", fn := fun _ => fun
  | [d1, d2, d3, d4] => { results := [.lit (.bool false)], args := [d1, d2, d3, d4] }
  | _ => none }
def SuiteChecksWrongFalsely : Prop := suiteChecksRow.holds Try.pinned (OpenSpec.ofChange suiteChecksWrong)

/-- 'offshootlaw15.SuiteBytes': WHATEVER THE INPUT: true; the input reads as it did. -/
def suiteBytesSpec : ChangeSpec := { name := "suiteBytes", fn := fun _ => fun
  | [d1, d2, d3] => { results := [.lit (.bool true)], args := [d1, d2, d3] }
  | _ => none }
def suiteBytesRow : OpenClaim := { program := "ytlecofghifjmcaa", sum := "06ab416b1b10968a36d833a9ccf8955ceed2fcc3dd265e4d4549b58424521532", func := "offshoot/offshootlaw15.SuiteBytes", spec := "suiteBytes", unfollowed := true, recurses := true, apart := false }
def SuiteBytesSaid : Prop := suiteBytesRow.holds Try.pinned (OpenSpec.ofChange suiteBytesSpec)

/-- ITS FALSE NEIGHBOUR: 'it returns false'. Refute it at one input. -/
def suiteBytesWrong : ChangeSpec := { name := "suiteBytes", fn := fun _ => fun
  | [d1, d2, d3] => { results := [.lit (.bool false)], args := [d1, d2, d3] }
  | _ => none }
def SuiteBytesWrongFalsely : Prop := suiteBytesRow.holds Try.pinned (OpenSpec.ofChange suiteBytesWrong)

/-- 'offshootlaw15.SuiteBack': WHATEVER THE INPUT: true; the input reads as it did. -/
def suiteBackSpec : ChangeSpec := { name := "suiteBack", fn := fun _ => fun
  | [d1, d2, d3] => { results := [.lit (.bool true)], args := [d1, d2, d3] }
  | _ => none }
def suiteBackRow : OpenClaim := { program := "ytlecofghifjmcaa", sum := "06ab416b1b10968a36d833a9ccf8955ceed2fcc3dd265e4d4549b58424521532", func := "offshoot/offshootlaw15.SuiteBack", spec := "suiteBack", unfollowed := true, recurses := true, apart := false }
def SuiteBackSaid : Prop := suiteBackRow.holds Try.pinned (OpenSpec.ofChange suiteBackSpec)

/-- ITS FALSE NEIGHBOUR: 'it returns false'. Refute it at one input. -/
def suiteBackWrong : ChangeSpec := { name := "suiteBack", fn := fun _ => fun
  | [d1, d2, d3] => { results := [.lit (.bool false)], args := [d1, d2, d3] }
  | _ => none }
def SuiteBackWrongFalsely : Prop := suiteBackRow.holds Try.pinned (OpenSpec.ofChange suiteBackWrong)

/-- 'offshootlaw15.SuiteApart': WHATEVER THE INPUT: true; the input reads as it did. -/
def suiteApartSpec : ChangeSpec := { name := "suiteApart", fn := fun _ => fun
  | [d1, d2, d3, d4] => { results := [.lit (.bool true)], args := [d1, d2, d3, d4] }
  | _ => none }
def suiteApartRow : OpenClaim := { program := "ytlecofghifjmcaa", sum := "06ab416b1b10968a36d833a9ccf8955ceed2fcc3dd265e4d4549b58424521532", func := "offshoot/offshootlaw15.SuiteApart", spec := "suiteApart", unfollowed := true, recurses := true, apart := false }
def SuiteApartSaid : Prop := suiteApartRow.holds Try.pinned (OpenSpec.ofChange suiteApartSpec)

/-- ITS FALSE NEIGHBOUR: 'it returns false'. Refute it at one input. -/
def suiteApartWrong : ChangeSpec := { name := "suiteApart", fn := fun _ => fun
  | [d1, d2, d3, d4] => { results := [.lit (.bool false)], args := [d1, d2, d3, d4] }
  | _ => none }
def SuiteApartWrongFalsely : Prop := suiteApartRow.holds Try.pinned (OpenSpec.ofChange suiteApartWrong)

/- THE SECOND FORM. 'bulk': how many values and letters a reading holds, each counted each time it is reached (what is shared counts as often as it is met; a slice's spare places count too). A statement '..UptoSaid' is the law's where the arguments, and the package variables that the reading takes, are together of bulk at most 1048576: NARROWER than '..Said'. Prove '..Said' where nothing that the law and all that it calls make is longer than what came in: it says more and counts as full. Else prove '..UptoSaid'. A law counts once. -/
mutual
def uptoBulk {H : Type} : DataW H → Nat
  | .lit (.string bytes) => bytes.length + 1
  | .lit _ => 1
  | .nil => 1
  | .ptr d => uptoBulk d + 1
  | .slice elems spare => uptoBulkAll elems + uptoBulkAll spare + 1
  | .agg parts => uptoBulkAll parts + 1
  | .iface _ d => uptoBulk d + 1
  | .map entries => uptoBulkEntries entries + 1
  | .held _ => 1
def uptoBulkAll {H : Type} : List (DataW H) → Nat
  | [] => 0
  | d :: r => uptoBulk d + uptoBulkAll r
def uptoBulkEntries {H : Type} : List (Lit × DataW H) → Nat
  | [] => 0
  | x :: r => uptoBulkEntry x + uptoBulkEntries r
def uptoBulkEntry {H : Type} : Lit × DataW H → Nat
  | (.string bytes, d) => bytes.length + uptoBulk d + 1
  | (_, d) => uptoBulk d + 1
 end
def uptoSmall : (H : Type) → List (DataW H) → Bool := fun _ ds => decide (uptoBulkAll ds ≤ 1048576)
def OpenSpec.upto (s : _root_.Go.ChangeSpec) : _root_.Go.OpenSpec := { _root_.Go.OpenSpec.ofChange s with cond := some uptoSmall }

/-- 'offshootlaw15.SuiteChecks', WHERE WHAT IT READS IS OF BULK AT MOST 1048576: true; the input reads as it did. -/
def suiteChecksUptoRow : OpenClaim := { program := "ytlecofghifjmcaa", sum := "06ab416b1b10968a36d833a9ccf8955ceed2fcc3dd265e4d4549b58424521532", func := "offshoot/offshootlaw15.SuiteChecks", spec := "suiteChecks", unfollowed := true, recurses := true, apart := false, narrowed := true }
def SuiteChecksUptoSaid : Prop := suiteChecksUptoRow.holds Try.pinned (OpenSpec.upto suiteChecksSpec)

/-- 'offshootlaw15.SuiteBytes', WHERE WHAT IT READS IS OF BULK AT MOST 1048576: true; the input reads as it did. -/
def suiteBytesUptoRow : OpenClaim := { program := "ytlecofghifjmcaa", sum := "06ab416b1b10968a36d833a9ccf8955ceed2fcc3dd265e4d4549b58424521532", func := "offshoot/offshootlaw15.SuiteBytes", spec := "suiteBytes", unfollowed := true, recurses := true, apart := false, narrowed := true }
def SuiteBytesUptoSaid : Prop := suiteBytesUptoRow.holds Try.pinned (OpenSpec.upto suiteBytesSpec)

/-- 'offshootlaw15.SuiteBack', WHERE WHAT IT READS IS OF BULK AT MOST 1048576: true; the input reads as it did. -/
def suiteBackUptoRow : OpenClaim := { program := "ytlecofghifjmcaa", sum := "06ab416b1b10968a36d833a9ccf8955ceed2fcc3dd265e4d4549b58424521532", func := "offshoot/offshootlaw15.SuiteBack", spec := "suiteBack", unfollowed := true, recurses := true, apart := false, narrowed := true }
def SuiteBackUptoSaid : Prop := suiteBackUptoRow.holds Try.pinned (OpenSpec.upto suiteBackSpec)

/-- 'offshootlaw15.SuiteApart', WHERE WHAT IT READS IS OF BULK AT MOST 1048576: true; the input reads as it did. -/
def suiteApartUptoRow : OpenClaim := { program := "ytlecofghifjmcaa", sum := "06ab416b1b10968a36d833a9ccf8955ceed2fcc3dd265e4d4549b58424521532", func := "offshoot/offshootlaw15.SuiteApart", spec := "suiteApart", unfollowed := true, recurses := true, apart := false, narrowed := true }
def SuiteApartUptoSaid : Prop := suiteApartUptoRow.holds Try.pinned (OpenSpec.upto suiteApartSpec)

end Rows
end Go.Proofs.Ytlecofghifjmcaa
