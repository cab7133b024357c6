/-
  No cell of these rows narrows 'for every input' (looked for: loops, veiled, ifaces, maps, wideKeys, modest, calm, conditions, laid).
  DERIVED. THE GIVEN ROWS OF THIS SEAT. 5 by the template 'for every input the law returns true; each argument reads behind the call as it read before'; 0 by the template 'total and deterministic' (their statements: YtlaidcahkafgoaaTotals.lean).
  GIVEN WITH THE SEED: the statements are not yours to turn. If you find one false, say at which input.
  Laid BY PROGRAM, IN A SANDBOX (cutbox-rows.mjs): the forced cells as the released guide's own fill.sh prints them over the translation 7c4bff9c6f2d3521… (all of the seat's roots in one cut). By AI agents, Wed Nov 11 2026. No macro, syntax, notation, axiom, sorry.
-/
import Derived.Test.YtlaidcahkafgoaaChecked
import GoSem.Claim
import GoSem.ClaimJoined
import GoSem.ClaimMapViews
import Derived.JoinedTies
import Derived.KernelRfl
namespace Go.Proofs.Ytlaidcahkafgoaa
/- THE CELL 'sum', in the pinned program and in every row, IS THE sha256 OF THE DUMP (.gsa) THAT YtlaidcahkafgoaaProg.lean LOADS. Nothing in Lean hashes anything: it is a label: what it is worth is what the hold of that sum in a sandbox is worth. -/
noncomputable def Try.pinned : Pinned := { name := "ytlaidcahkafgoaa", sum := "7c4bff9c6f2d3521e69743dcd935f61ad754bf64adad9416faafd5794910e840", checked := Try.checked }
namespace Rows
def none {H : Type} : Left H := { results := [], args := [] }

/-- 'offshootlaw13.CatalogTells': WHATEVER THE INPUT: true; the input reads as it did. -/
def catalogTellsSpec : ChangeSpec := { name := "catalogTells", fn := fun _ => fun
  | [d1, d2, d3, d4] => { results := [.lit (.bool true)], args := [d1, d2, d3, d4] }
  | _ => none }
def catalogTellsRow : OpenClaim := { program := "ytlaidcahkafgoaa", sum := "7c4bff9c6f2d3521e69743dcd935f61ad754bf64adad9416faafd5794910e840", func := "offshoot/offshootlaw13.CatalogTells", spec := "catalogTells", unfollowed := true, recurses := true, apart := false }
def CatalogTellsSaid : Prop := catalogTellsRow.holds Try.pinned (OpenSpec.ofChange catalogTellsSpec)

/-- ITS FALSE NEIGHBOUR: 'it returns false'. Refute it at one input. -/
def catalogTellsWrong : ChangeSpec := { name := "catalogTells", fn := fun _ => fun
  | [d1, d2, d3, d4] => { results := [.lit (.bool false)], args := [d1, d2, d3, d4] }
  | _ => none }
def CatalogTellsWrongFalsely : Prop := catalogTellsRow.holds Try.pinned (OpenSpec.ofChange catalogTellsWrong)

/-- 'offshootlaw13.CatalogJust': WHATEVER THE INPUT: true; the input reads as it did. -/
def catalogJustSpec : ChangeSpec := { name := "catalogJust", fn := fun _ => fun
  | [d1, d2, d3, d4] => { results := [.lit (.bool true)], args := [d1, d2, d3, d4] }
  | _ => none }
def catalogJustRow : OpenClaim := { program := "ytlaidcahkafgoaa", sum := "7c4bff9c6f2d3521e69743dcd935f61ad754bf64adad9416faafd5794910e840", func := "offshoot/offshootlaw13.CatalogJust", spec := "catalogJust", unfollowed := true, recurses := true, apart := false }
def CatalogJustSaid : Prop := catalogJustRow.holds Try.pinned (OpenSpec.ofChange catalogJustSpec)

/-- ITS FALSE NEIGHBOUR: 'it returns false'. Refute it at one input. -/
def catalogJustWrong : ChangeSpec := { name := "catalogJust", fn := fun _ => fun
  | [d1, d2, d3, d4] => { results := [.lit (.bool false)], args := [d1, d2, d3, d4] }
  | _ => none }
def CatalogJustWrongFalsely : Prop := catalogJustRow.holds Try.pinned (OpenSpec.ofChange catalogJustWrong)

/-- 'offshootlaw13.CatalogApplies': WHATEVER THE INPUT: true; the input reads as it did. -/
def catalogAppliesSpec : ChangeSpec := { name := "catalogApplies", fn := fun _ => fun
  | [d1, d2, d3] => { results := [.lit (.bool true)], args := [d1, d2, d3] }
  | _ => none }
def catalogAppliesRow : OpenClaim := { program := "ytlaidcahkafgoaa", sum := "7c4bff9c6f2d3521e69743dcd935f61ad754bf64adad9416faafd5794910e840", func := "offshoot/offshootlaw13.CatalogApplies", spec := "catalogApplies", inPlace := ["slices.overlaps[offshoot/api.Node]"], unfollowed := true, recurses := true, apart := false }
def CatalogAppliesSaid : Prop := catalogAppliesRow.holds Try.pinned (OpenSpec.ofChange catalogAppliesSpec)

/-- ITS FALSE NEIGHBOUR: 'it returns false'. Refute it at one input. -/
def catalogAppliesWrong : ChangeSpec := { name := "catalogApplies", fn := fun _ => fun
  | [d1, d2, d3] => { results := [.lit (.bool false)], args := [d1, d2, d3] }
  | _ => none }
def CatalogAppliesWrongFalsely : Prop := catalogAppliesRow.holds Try.pinned (OpenSpec.ofChange catalogAppliesWrong)

/-- 'offshootlaw13.CatalogPart': WHATEVER THE INPUT: true; the input reads as it did. -/
def catalogPartSpec : ChangeSpec := { name := "catalogPart", fn := fun _ => fun
  | [d1, d2] => { results := [.lit (.bool true)], args := [d1, d2] }
  | _ => none }
def catalogPartRow : OpenClaim := { program := "ytlaidcahkafgoaa", sum := "7c4bff9c6f2d3521e69743dcd935f61ad754bf64adad9416faafd5794910e840", func := "offshoot/offshootlaw13.CatalogPart", spec := "catalogPart", unfollowed := true, recurses := true, apart := false }
def CatalogPartSaid : Prop := catalogPartRow.holds Try.pinned (OpenSpec.ofChange catalogPartSpec)

/-- ITS FALSE NEIGHBOUR: 'it returns false'. Refute it at one input. -/
def catalogPartWrong : ChangeSpec := { name := "catalogPart", fn := fun _ => fun
  | [d1, d2] => { results := [.lit (.bool false)], args := [d1, d2] }
  | _ => none }
def CatalogPartWrongFalsely : Prop := catalogPartRow.holds Try.pinned (OpenSpec.ofChange catalogPartWrong)

/-- 'offshootlaw13.CatalogBack': WHATEVER THE INPUT: true; the input reads as it did. -/
def catalogBackSpec : ChangeSpec := { name := "catalogBack", fn := fun _ => fun
  | [d1, d2, d3] => { results := [.lit (.bool true)], args := [d1, d2, d3] }
  | _ => none }
def catalogBackRow : OpenClaim := { program := "ytlaidcahkafgoaa", sum := "7c4bff9c6f2d3521e69743dcd935f61ad754bf64adad9416faafd5794910e840", func := "offshoot/offshootlaw13.CatalogBack", spec := "catalogBack", inPlace := ["slices.overlaps[offshoot/api.Node]"], unfollowed := true, recurses := true, apart := false }
def CatalogBackSaid : Prop := catalogBackRow.holds Try.pinned (OpenSpec.ofChange catalogBackSpec)

/-- ITS FALSE NEIGHBOUR: 'it returns false'. Refute it at one input. -/
def catalogBackWrong : ChangeSpec := { name := "catalogBack", fn := fun _ => fun
  | [d1, d2, d3] => { results := [.lit (.bool false)], args := [d1, d2, d3] }
  | _ => none }
def CatalogBackWrongFalsely : Prop := catalogBackRow.holds Try.pinned (OpenSpec.ofChange catalogBackWrong)

/- THE SECOND FORM. 'bulk': how many values and letters a reading holds, each counted each time it is reached (what is shared counts as often as it is met; a slice's spare places count too). A statement '..UptoSaid' is the law's where the arguments, and the package variables that the reading takes, are together of bulk at most 1048576: NARROWER than '..Said'. Prove '..Said' where nothing that the law and all that it calls make is longer than what came in: it says more and counts as full. Else prove '..UptoSaid'. A law counts once. -/
mutual
def uptoBulk {H : Type} : DataW H → Nat
  | .lit (.string bytes) => bytes.length + 1
  | .lit _ => 1
  | .nil => 1
  | .ptr d => uptoBulk d + 1
  | .slice elems spare => uptoBulkAll elems + uptoBulkAll spare + 1
  | .agg parts => uptoBulkAll parts + 1
  | .iface _ d => uptoBulk d + 1
  | .map entries => uptoBulkEntries entries + 1
  | .held _ => 1
def uptoBulkAll {H : Type} : List (DataW H) → Nat
  | [] => 0
  | d :: r => uptoBulk d + uptoBulkAll r
def uptoBulkEntries {H : Type} : List (Lit × DataW H) → Nat
  | [] => 0
  | x :: r => uptoBulkEntry x + uptoBulkEntries r
def uptoBulkEntry {H : Type} : Lit × DataW H → Nat
  | (.string bytes, d) => bytes.length + uptoBulk d + 1
  | (_, d) => uptoBulk d + 1
 end
def uptoSmall : (H : Type) → List (DataW H) → Bool := fun _ ds => decide (uptoBulkAll ds ≤ 1048576)
def OpenSpec.upto (s : _root_.Go.ChangeSpec) : _root_.Go.OpenSpec := { _root_.Go.OpenSpec.ofChange s with cond := some uptoSmall }

/-- 'offshootlaw13.CatalogTells', WHERE WHAT IT READS IS OF BULK AT MOST 1048576: true; the input reads as it did. -/
def catalogTellsUptoRow : OpenClaim := { program := "ytlaidcahkafgoaa", sum := "7c4bff9c6f2d3521e69743dcd935f61ad754bf64adad9416faafd5794910e840", func := "offshoot/offshootlaw13.CatalogTells", spec := "catalogTells", unfollowed := true, recurses := true, apart := false, narrowed := true }
def CatalogTellsUptoSaid : Prop := catalogTellsUptoRow.holds Try.pinned (OpenSpec.upto catalogTellsSpec)

/-- 'offshootlaw13.CatalogJust', WHERE WHAT IT READS IS OF BULK AT MOST 1048576: true; the input reads as it did. -/
def catalogJustUptoRow : OpenClaim := { program := "ytlaidcahkafgoaa", sum := "7c4bff9c6f2d3521e69743dcd935f61ad754bf64adad9416faafd5794910e840", func := "offshoot/offshootlaw13.CatalogJust", spec := "catalogJust", unfollowed := true, recurses := true, apart := false, narrowed := true }
def CatalogJustUptoSaid : Prop := catalogJustUptoRow.holds Try.pinned (OpenSpec.upto catalogJustSpec)

/-- 'offshootlaw13.CatalogApplies', WHERE WHAT IT READS IS OF BULK AT MOST 1048576: true; the input reads as it did. -/
def catalogAppliesUptoRow : OpenClaim := { program := "ytlaidcahkafgoaa", sum := "7c4bff9c6f2d3521e69743dcd935f61ad754bf64adad9416faafd5794910e840", func := "offshoot/offshootlaw13.CatalogApplies", spec := "catalogApplies", inPlace := ["slices.overlaps[offshoot/api.Node]"], unfollowed := true, recurses := true, apart := false, narrowed := true }
def CatalogAppliesUptoSaid : Prop := catalogAppliesUptoRow.holds Try.pinned (OpenSpec.upto catalogAppliesSpec)

/-- 'offshootlaw13.CatalogPart', WHERE WHAT IT READS IS OF BULK AT MOST 1048576: true; the input reads as it did. -/
def catalogPartUptoRow : OpenClaim := { program := "ytlaidcahkafgoaa", sum := "7c4bff9c6f2d3521e69743dcd935f61ad754bf64adad9416faafd5794910e840", func := "offshoot/offshootlaw13.CatalogPart", spec := "catalogPart", unfollowed := true, recurses := true, apart := false, narrowed := true }
def CatalogPartUptoSaid : Prop := catalogPartUptoRow.holds Try.pinned (OpenSpec.upto catalogPartSpec)

/-- 'offshootlaw13.CatalogBack', WHERE WHAT IT READS IS OF BULK AT MOST 1048576: true; the input reads as it did. -/
def catalogBackUptoRow : OpenClaim := { program := "ytlaidcahkafgoaa", sum := "7c4bff9c6f2d3521e69743dcd935f61ad754bf64adad9416faafd5794910e840", func := "offshoot/offshootlaw13.CatalogBack", spec := "catalogBack", inPlace := ["slices.overlaps[offshoot/api.Node]"], unfollowed := true, recurses := true, apart := false, narrowed := true }
def CatalogBackUptoSaid : Prop := catalogBackUptoRow.holds Try.pinned (OpenSpec.upto catalogBackSpec)

end Rows
end Go.Proofs.Ytlaidcahkafgoaa
