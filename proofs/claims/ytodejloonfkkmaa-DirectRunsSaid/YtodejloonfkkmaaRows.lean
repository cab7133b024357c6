/-
  No cell of these rows narrows 'for every input' (looked for: loops, veiled, ifaces, maps, wideKeys, modest, calm, conditions, laid).
  DERIVED. THE GIVEN ROWS OF THIS SEAT. 3 by the template 'for every input the law returns true; each argument reads behind the call as it read before'; 0 by the template 'total and deterministic' (their statements: YtodejloonfkkmaaTotals.lean).
  GIVEN WITH THE SEED: the statements are not yours to turn. If you find one false, say at which input.
  Laid BY PROGRAM, IN A SANDBOX (cutbox-rows.mjs): the forced cells as the released guide's own fill.sh prints them over the translation 51d25956921bc709… (all of the seat's roots in one cut). By AI agents, Wed Nov 11 2026. No macro, syntax, notation, axiom, sorry.
-/
import Derived.Test.YtodejloonfkkmaaChecked
import GoSem.Claim
import GoSem.ClaimJoined
import GoSem.ClaimMapViews
import Derived.JoinedTies
import Derived.KernelRfl
namespace Go.Proofs.Ytodejloonfkkmaa
/- THE CELL 'sum', in the pinned program and in every row, IS THE sha256 OF THE DUMP (.gsa) THAT YtodejloonfkkmaaProg.lean LOADS. Nothing in Lean hashes anything: it is a label: what it is worth is what the hold of that sum in a sandbox is worth. -/
noncomputable def Try.pinned : Pinned := { name := "ytodejloonfkkmaa", sum := "51d25956921bc70956c8d68cff856bd8572d380c9ffcca2a2e979d36573e88a4", checked := Try.checked }
namespace Rows
def none {H : Type} : Left H := { results := [], args := [] }

/-- 'offshootlaw17.DirectRuns': WHATEVER THE INPUT: true; the input reads as it did. -/
def directRunsSpec : ChangeSpec := { name := "directRuns", fn := fun _ => fun
  | [d1, d2, d3] => { results := [.lit (.bool true)], args := [d1, d2, d3] }
  | _ => none }
def directRunsRow : OpenClaim := { program := "ytodejloonfkkmaa", sum := "51d25956921bc70956c8d68cff856bd8572d380c9ffcca2a2e979d36573e88a4", func := "offshoot/offshootlaw17.DirectRuns", spec := "directRuns", unfollowed := true, recurses := true, apart := false }
def DirectRunsSaid : Prop := directRunsRow.holds Try.pinned (OpenSpec.ofChange directRunsSpec)

/-- ITS FALSE NEIGHBOUR: 'it returns false'. Refute it at one input. -/
def directRunsWrong : ChangeSpec := { name := "directRuns", fn := fun _ => fun
  | [d1, d2, d3] => { results := [.lit (.bool false)], args := [d1, d2, d3] }
  | _ => none }
def DirectRunsWrongFalsely : Prop := directRunsRow.holds Try.pinned (OpenSpec.ofChange directRunsWrong)

/-- 'offshootlaw17.DirectTurned': WHATEVER THE INPUT: true; the input reads as it did. -/
def directTurnedSpec : ChangeSpec := { name := "directTurned", fn := fun _ => fun
  | [d1, d2, d3] => { results := [.lit (.bool true)], args := [d1, d2, d3] }
  | _ => none }
def directTurnedRow : OpenClaim := { program := "ytodejloonfkkmaa", sum := "51d25956921bc70956c8d68cff856bd8572d380c9ffcca2a2e979d36573e88a4", func := "offshoot/offshootlaw17.DirectTurned", spec := "directTurned", unfollowed := true, recurses := true, apart := false }
def DirectTurnedSaid : Prop := directTurnedRow.holds Try.pinned (OpenSpec.ofChange directTurnedSpec)

/-- ITS FALSE NEIGHBOUR: 'it returns false'. Refute it at one input. -/
def directTurnedWrong : ChangeSpec := { name := "directTurned", fn := fun _ => fun
  | [d1, d2, d3] => { results := [.lit (.bool false)], args := [d1, d2, d3] }
  | _ => none }
def DirectTurnedWrongFalsely : Prop := directTurnedRow.holds Try.pinned (OpenSpec.ofChange directTurnedWrong)

/-- 'offshootlaw17.DirectUnused': WHATEVER THE INPUT: true; the input reads as it did. -/
def directUnusedSpec : ChangeSpec := { name := "directUnused", fn := fun _ => fun
  | [d1, d2, d3, d4] => { results := [.lit (.bool true)], args := [d1, d2, d3, d4] }
  | _ => none }
def directUnusedRow : OpenClaim := { program := "ytodejloonfkkmaa", sum := "51d25956921bc70956c8d68cff856bd8572d380c9ffcca2a2e979d36573e88a4", func := "offshoot/offshootlaw17.DirectUnused", spec := "directUnused", unfollowed := true, recurses := true, apart := false }
def DirectUnusedSaid : Prop := directUnusedRow.holds Try.pinned (OpenSpec.ofChange directUnusedSpec)

/-- ITS FALSE NEIGHBOUR: 'it returns false'. Refute it at one input. -/
def directUnusedWrong : ChangeSpec := { name := "directUnused", fn := fun _ => fun
  | [d1, d2, d3, d4] => { results := [.lit (.bool false)], args := [d1, d2, d3, d4] }
  | _ => none }
def DirectUnusedWrongFalsely : Prop := directUnusedRow.holds Try.pinned (OpenSpec.ofChange directUnusedWrong)

/- THE SECOND FORM. 'bulk': how many values and letters a reading holds, each counted each time it is reached (what is shared counts as often as it is met; a slice's spare places count too). A statement '..UptoSaid' is the law's where the arguments, and the package variables that the reading takes, are together of bulk at most 1048576: NARROWER than '..Said'. Prove '..Said' where nothing that the law and all that it calls make is longer than what came in: it says more and counts as full. Else prove '..UptoSaid'. A law counts once. -/
mutual
def uptoBulk {H : Type} : DataW H → Nat
  | .lit (.string bytes) => bytes.length + 1
  | .lit _ => 1
  | .nil => 1
  | .ptr d => uptoBulk d + 1
  | .slice elems spare => uptoBulkAll elems + uptoBulkAll spare + 1
  | .agg parts => uptoBulkAll parts + 1
  | .iface _ d => uptoBulk d + 1
  | .map entries => uptoBulkEntries entries + 1
  | .held _ => 1
def uptoBulkAll {H : Type} : List (DataW H) → Nat
  | [] => 0
  | d :: r => uptoBulk d + uptoBulkAll r
def uptoBulkEntries {H : Type} : List (Lit × DataW H) → Nat
  | [] => 0
  | x :: r => uptoBulkEntry x + uptoBulkEntries r
def uptoBulkEntry {H : Type} : Lit × DataW H → Nat
  | (.string bytes, d) => bytes.length + uptoBulk d + 1
  | (_, d) => uptoBulk d + 1
 end
def uptoSmall : (H : Type) → List (DataW H) → Bool := fun _ ds => decide (uptoBulkAll ds ≤ 1048576)
def OpenSpec.upto (s : _root_.Go.ChangeSpec) : _root_.Go.OpenSpec := { _root_.Go.OpenSpec.ofChange s with cond := some uptoSmall }

/-- 'offshootlaw17.DirectRuns', WHERE WHAT IT READS IS OF BULK AT MOST 1048576: true; the input reads as it did. -/
def directRunsUptoRow : OpenClaim := { program := "ytodejloonfkkmaa", sum := "51d25956921bc70956c8d68cff856bd8572d380c9ffcca2a2e979d36573e88a4", func := "offshoot/offshootlaw17.DirectRuns", spec := "directRuns", unfollowed := true, recurses := true, apart := false, narrowed := true }
def DirectRunsUptoSaid : Prop := directRunsUptoRow.holds Try.pinned (OpenSpec.upto directRunsSpec)

/-- 'offshootlaw17.DirectTurned', WHERE WHAT IT READS IS OF BULK AT MOST 1048576: true; the input reads as it did. -/
def directTurnedUptoRow : OpenClaim := { program := "ytodejloonfkkmaa", sum := "51d25956921bc70956c8d68cff856bd8572d380c9ffcca2a2e979d36573e88a4", func := "offshoot/offshootlaw17.DirectTurned", spec := "directTurned", unfollowed := true, recurses := true, apart := false, narrowed := true }
def DirectTurnedUptoSaid : Prop := directTurnedUptoRow.holds Try.pinned (OpenSpec.upto directTurnedSpec)

/-- 'offshootlaw17.DirectUnused', WHERE WHAT IT READS IS OF BULK AT MOST 1048576: true; the input reads as it did. -/
def directUnusedUptoRow : OpenClaim := { program := "ytodejloonfkkmaa", sum := "51d25956921bc70956c8d68cff856bd8572d380c9ffcca2a2e979d36573e88a4", func := "offshoot/offshootlaw17.DirectUnused", spec := "directUnused", unfollowed := true, recurses := true, apart := false, narrowed := true }
def DirectUnusedUptoSaid : Prop := directUnusedUptoRow.holds Try.pinned (OpenSpec.upto directUnusedSpec)

end Rows
end Go.Proofs.Ytodejloonfkkmaa
