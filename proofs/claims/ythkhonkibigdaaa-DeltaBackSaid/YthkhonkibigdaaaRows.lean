/-
  No cell of these rows narrows 'for every input' (looked for: loops, veiled, ifaces, maps, wideKeys, modest, calm, conditions, laid).
  DERIVED. THE GIVEN ROWS OF THIS SEAT. 5 by the template 'for every input the law returns true; each argument reads behind the call as it read before'; 0 by the template 'total and deterministic' (their statements: YthkhonkibigdaaaTotals.lean).
  GIVEN WITH THE SEED: the statements are not yours to turn. If you find one false, say at which input.
  Laid BY PROGRAM, IN A SANDBOX (cutbox-rows.mjs): the forced cells as the released guide's own fill.sh prints them over the translation dd5239ced7606d40… (all of the seat's roots in one cut). By AI agents, Wed Nov 11 2026. No macro, syntax, notation, axiom, sorry.
-/
import Derived.Test.YthkhonkibigdaaaChecked
import GoSem.Claim
import GoSem.ClaimJoined
import GoSem.ClaimMapViews
import Derived.JoinedTies
import Derived.KernelRfl
namespace Go.Proofs.Ythkhonkibigdaaa
/- THE CELL 'sum', in the pinned program and in every row, IS THE sha256 OF THE DUMP (.gsa) THAT YthkhonkibigdaaaProg.lean LOADS. Nothing in Lean hashes anything: it is a label: what it is worth is what the hold of that sum in a sandbox is worth. -/
noncomputable def Try.pinned : Pinned := { name := "ythkhonkibigdaaa", sum := "dd5239ced7606d40f40d4845bd0c534484301d8500abba1c78515b59dac3c54e", checked := Try.checked }
namespace Rows
def none {H : Type} : Left H := { results := [], args := [] }

/-- 'offshootlaw12.DeltaApplies': WHATEVER THE INPUT: true; the input reads as it did. -/
def deltaAppliesSpec : ChangeSpec := { name := "deltaApplies", fn := fun _ => fun
  | [d1, d2] => { results := [.lit (.bool true)], args := [d1, d2] }
  | _ => none }
def deltaAppliesRow : OpenClaim := { program := "ythkhonkibigdaaa", sum := "dd5239ced7606d40f40d4845bd0c534484301d8500abba1c78515b59dac3c54e", func := "offshoot/offshootlaw12.DeltaApplies", spec := "deltaApplies", inPlace := ["slices.overlaps[offshoot/api.Node]"], unfollowed := true, recurses := true, apart := false }
def DeltaAppliesSaid : Prop := deltaAppliesRow.holds Try.pinned (OpenSpec.ofChange deltaAppliesSpec)

/-- ITS FALSE NEIGHBOUR: 'it returns false'. Refute it at one input. -/
def deltaAppliesWrong : ChangeSpec := { name := "deltaApplies", fn := fun _ => fun
  | [d1, d2] => { results := [.lit (.bool false)], args := [d1, d2] }
  | _ => none }
def DeltaAppliesWrongFalsely : Prop := deltaAppliesRow.holds Try.pinned (OpenSpec.ofChange deltaAppliesWrong)

/-- 'offshootlaw12.DeltaBack': WHATEVER THE INPUT: true; the input reads as it did. -/
def deltaBackSpec : ChangeSpec := { name := "deltaBack", fn := fun _ => fun
  | [d1, d2] => { results := [.lit (.bool true)], args := [d1, d2] }
  | _ => none }
def deltaBackRow : OpenClaim := { program := "ythkhonkibigdaaa", sum := "dd5239ced7606d40f40d4845bd0c534484301d8500abba1c78515b59dac3c54e", func := "offshoot/offshootlaw12.DeltaBack", spec := "deltaBack", inPlace := ["slices.overlaps[offshoot/api.Node]"], unfollowed := true, recurses := true, apart := false }
def DeltaBackSaid : Prop := deltaBackRow.holds Try.pinned (OpenSpec.ofChange deltaBackSpec)

/-- ITS FALSE NEIGHBOUR: 'it returns false'. Refute it at one input. -/
def deltaBackWrong : ChangeSpec := { name := "deltaBack", fn := fun _ => fun
  | [d1, d2] => { results := [.lit (.bool false)], args := [d1, d2] }
  | _ => none }
def DeltaBackWrongFalsely : Prop := deltaBackRow.holds Try.pinned (OpenSpec.ofChange deltaBackWrong)

/-- 'offshootlaw12.DeltaElse': WHATEVER THE INPUT: true; the input reads as it did. -/
def deltaElseSpec : ChangeSpec := { name := "deltaElse", fn := fun _ => fun
  | [d1, d2, d3] => { results := [.lit (.bool true)], args := [d1, d2, d3] }
  | _ => none }
def deltaElseRow : OpenClaim := { program := "ythkhonkibigdaaa", sum := "dd5239ced7606d40f40d4845bd0c534484301d8500abba1c78515b59dac3c54e", func := "offshoot/offshootlaw12.DeltaElse", spec := "deltaElse", inPlace := ["slices.overlaps[offshoot/api.Node]"], unfollowed := true, recurses := true, apart := false }
def DeltaElseSaid : Prop := deltaElseRow.holds Try.pinned (OpenSpec.ofChange deltaElseSpec)

/-- ITS FALSE NEIGHBOUR: 'it returns false'. Refute it at one input. -/
def deltaElseWrong : ChangeSpec := { name := "deltaElse", fn := fun _ => fun
  | [d1, d2, d3] => { results := [.lit (.bool false)], args := [d1, d2, d3] }
  | _ => none }
def DeltaElseWrongFalsely : Prop := deltaElseRow.holds Try.pinned (OpenSpec.ofChange deltaElseWrong)

/-- 'offshootlaw12.DeltaOrder': WHATEVER THE INPUT: true; the input reads as it did. -/
def deltaOrderSpec : ChangeSpec := { name := "deltaOrder", fn := fun _ => fun
  | [d1, d2, d3] => { results := [.lit (.bool true)], args := [d1, d2, d3] }
  | _ => none }
def deltaOrderRow : OpenClaim := { program := "ythkhonkibigdaaa", sum := "dd5239ced7606d40f40d4845bd0c534484301d8500abba1c78515b59dac3c54e", func := "offshoot/offshootlaw12.DeltaOrder", spec := "deltaOrder", inPlace := ["slices.overlaps[offshoot/api.Node]"], unfollowed := true, recurses := true, apart := false }
def DeltaOrderSaid : Prop := deltaOrderRow.holds Try.pinned (OpenSpec.ofChange deltaOrderSpec)

/-- ITS FALSE NEIGHBOUR: 'it returns false'. Refute it at one input. -/
def deltaOrderWrong : ChangeSpec := { name := "deltaOrder", fn := fun _ => fun
  | [d1, d2, d3] => { results := [.lit (.bool false)], args := [d1, d2, d3] }
  | _ => none }
def DeltaOrderWrongFalsely : Prop := deltaOrderRow.holds Try.pinned (OpenSpec.ofChange deltaOrderWrong)

/-- 'offshootlaw12.DeltaTwice': WHATEVER THE INPUT: true; the input reads as it did. -/
def deltaTwiceSpec : ChangeSpec := { name := "deltaTwice", fn := fun _ => fun
  | [d1, d2] => { results := [.lit (.bool true)], args := [d1, d2] }
  | _ => none }
def deltaTwiceRow : OpenClaim := { program := "ythkhonkibigdaaa", sum := "dd5239ced7606d40f40d4845bd0c534484301d8500abba1c78515b59dac3c54e", func := "offshoot/offshootlaw12.DeltaTwice", spec := "deltaTwice", inPlace := ["slices.overlaps[offshoot/api.Node]"], unfollowed := true, recurses := true, apart := false }
def DeltaTwiceSaid : Prop := deltaTwiceRow.holds Try.pinned (OpenSpec.ofChange deltaTwiceSpec)

/-- ITS FALSE NEIGHBOUR: 'it returns false'. Refute it at one input. -/
def deltaTwiceWrong : ChangeSpec := { name := "deltaTwice", fn := fun _ => fun
  | [d1, d2] => { results := [.lit (.bool false)], args := [d1, d2] }
  | _ => none }
def DeltaTwiceWrongFalsely : Prop := deltaTwiceRow.holds Try.pinned (OpenSpec.ofChange deltaTwiceWrong)

/- THE SECOND FORM. 'bulk': how many values and letters a reading holds, each counted each time it is reached (what is shared counts as often as it is met; a slice's spare places count too). A statement '..UptoSaid' is the law's where the arguments, and the package variables that the reading takes, are together of bulk at most 1048576: NARROWER than '..Said'. Prove '..Said' where nothing that the law and all that it calls make is longer than what came in: it says more and counts as full. Else prove '..UptoSaid'. A law counts once. -/
mutual
def uptoBulk {H : Type} : DataW H → Nat
  | .lit (.string bytes) => bytes.length + 1
  | .lit _ => 1
  | .nil => 1
  | .ptr d => uptoBulk d + 1
  | .slice elems spare => uptoBulkAll elems + uptoBulkAll spare + 1
  | .agg parts => uptoBulkAll parts + 1
  | .iface _ d => uptoBulk d + 1
  | .map entries => uptoBulkEntries entries + 1
  | .held _ => 1
def uptoBulkAll {H : Type} : List (DataW H) → Nat
  | [] => 0
  | d :: r => uptoBulk d + uptoBulkAll r
def uptoBulkEntries {H : Type} : List (Lit × DataW H) → Nat
  | [] => 0
  | x :: r => uptoBulkEntry x + uptoBulkEntries r
def uptoBulkEntry {H : Type} : Lit × DataW H → Nat
  | (.string bytes, d) => bytes.length + uptoBulk d + 1
  | (_, d) => uptoBulk d + 1
 end
def uptoSmall : (H : Type) → List (DataW H) → Bool := fun _ ds => decide (uptoBulkAll ds ≤ 1048576)
def OpenSpec.upto (s : _root_.Go.ChangeSpec) : _root_.Go.OpenSpec := { _root_.Go.OpenSpec.ofChange s with cond := some uptoSmall }

/-- 'offshootlaw12.DeltaApplies', WHERE WHAT IT READS IS OF BULK AT MOST 1048576: true; the input reads as it did. -/
def deltaAppliesUptoRow : OpenClaim := { program := "ythkhonkibigdaaa", sum := "dd5239ced7606d40f40d4845bd0c534484301d8500abba1c78515b59dac3c54e", func := "offshoot/offshootlaw12.DeltaApplies", spec := "deltaApplies", inPlace := ["slices.overlaps[offshoot/api.Node]"], unfollowed := true, recurses := true, apart := false, narrowed := true }
def DeltaAppliesUptoSaid : Prop := deltaAppliesUptoRow.holds Try.pinned (OpenSpec.upto deltaAppliesSpec)

/-- 'offshootlaw12.DeltaBack', WHERE WHAT IT READS IS OF BULK AT MOST 1048576: true; the input reads as it did. -/
def deltaBackUptoRow : OpenClaim := { program := "ythkhonkibigdaaa", sum := "dd5239ced7606d40f40d4845bd0c534484301d8500abba1c78515b59dac3c54e", func := "offshoot/offshootlaw12.DeltaBack", spec := "deltaBack", inPlace := ["slices.overlaps[offshoot/api.Node]"], unfollowed := true, recurses := true, apart := false, narrowed := true }
def DeltaBackUptoSaid : Prop := deltaBackUptoRow.holds Try.pinned (OpenSpec.upto deltaBackSpec)

/-- 'offshootlaw12.DeltaElse', WHERE WHAT IT READS IS OF BULK AT MOST 1048576: true; the input reads as it did. -/
def deltaElseUptoRow : OpenClaim := { program := "ythkhonkibigdaaa", sum := "dd5239ced7606d40f40d4845bd0c534484301d8500abba1c78515b59dac3c54e", func := "offshoot/offshootlaw12.DeltaElse", spec := "deltaElse", inPlace := ["slices.overlaps[offshoot/api.Node]"], unfollowed := true, recurses := true, apart := false, narrowed := true }
def DeltaElseUptoSaid : Prop := deltaElseUptoRow.holds Try.pinned (OpenSpec.upto deltaElseSpec)

/-- 'offshootlaw12.DeltaOrder', WHERE WHAT IT READS IS OF BULK AT MOST 1048576: true; the input reads as it did. -/
def deltaOrderUptoRow : OpenClaim := { program := "ythkhonkibigdaaa", sum := "dd5239ced7606d40f40d4845bd0c534484301d8500abba1c78515b59dac3c54e", func := "offshoot/offshootlaw12.DeltaOrder", spec := "deltaOrder", inPlace := ["slices.overlaps[offshoot/api.Node]"], unfollowed := true, recurses := true, apart := false, narrowed := true }
def DeltaOrderUptoSaid : Prop := deltaOrderUptoRow.holds Try.pinned (OpenSpec.upto deltaOrderSpec)

/-- 'offshootlaw12.DeltaTwice', WHERE WHAT IT READS IS OF BULK AT MOST 1048576: true; the input reads as it did. -/
def deltaTwiceUptoRow : OpenClaim := { program := "ythkhonkibigdaaa", sum := "dd5239ced7606d40f40d4845bd0c534484301d8500abba1c78515b59dac3c54e", func := "offshoot/offshootlaw12.DeltaTwice", spec := "deltaTwice", inPlace := ["slices.overlaps[offshoot/api.Node]"], unfollowed := true, recurses := true, apart := false, narrowed := true }
def DeltaTwiceUptoSaid : Prop := deltaTwiceUptoRow.holds Try.pinned (OpenSpec.upto deltaTwiceSpec)

end Rows
end Go.Proofs.Ythkhonkibigdaaa
