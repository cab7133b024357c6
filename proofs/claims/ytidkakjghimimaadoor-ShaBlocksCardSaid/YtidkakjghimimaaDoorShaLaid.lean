/-
  The program's own variable, listed: what it holds at the call.
-/
import Derived.LaidMore
import Derived.OpenShut
import Derived.ProofKit
import Derived.Stop.Joined
import Derived.Test.YtidkakjghimimaaDoorShaBlock
namespace Go.Proofs.YtidkakjghimimaaDoor.Sha
open Go.ChangeShapes Go.WideShapes Go.ChangeAt Go.WideElems Go.RowKit

def laid1 : List (String × DataW Unit) := [("offshoot/sha.roots", Rows.laid_offshoot_sha_roots)]
theorem gRoots : Tryd.prog.globalNamed "offshoot/sha.roots" = some 0 := by kernel_rfl
theorem tRoots : (Tryd.prog.globals[0]?).map (·.type) = some 46 := by kernel_rfl
theorem laid_cubes : (Rows.laid_offshoot_sha_roots : DataW Unit) = .agg (cubes.map fun n => .lit (.int .u32 ((n : Nat) : Int))) := rfl

/-- The door's own heap meets the condition: three closed facts. -/
theorem door_met (os : Os) (args : Array Value) : laidMetH Tryd.prog laid1 ((World.doorLaid Tryd.prog 400 os).forCall (fun _ _ => 0) ⟨#[], args, []⟩).memory :=
  laidMetH_of_parts3 (fuel := 8) (laidMet_of_run' 8 (by kernel_rfl) (by kernel_rfl)) (by kernel_rfl) (by kernel_rfl)

theorem of_laid {W : World} (h : laidMetH Tryd.prog laid1 W) : Cubes W := by
  rw [MakeChecks.laidMetH_plain _ _ _ (by kernel_rfl)] at h
  obtain ⟨ps, ⟨g0, t0, cs0, f0, p0, q0, hg0, ht0, hv0, hd0, _⟩, _, _⟩ := h
  obtain rfl := Option.some.inj (gRoots.symm.trans hg0)
  obtain rfl := Option.some.inj (tRoots.symm.trans ht0)
  obtain ⟨xs, m1, rfl, hx1, hlen, hn3, hel⟩ := DataW.trod_array Tryd.underlying46 hd0
  have c25 : Tryd.prog.cellsOf 25 = 1 := by kernel_rfl
  simp only [Prod.mk.injEq] at hx1
  rw [laid_cubes] at hx1
  have hxs := hx1.1
  rw [DataW.agg.injEq] at hxs
  have hcell : ∀ i, i < 64 → cs0[i]? = some (.int .u32 ((cubes.getD i 0 : Nat) : Int)) := by
    intro i hi
    have h0 := hel i hi
    rw [c25, Nat.mul_one, List.getElem?_eq_getElem (by omega)] at h0
    obtain ⟨k, e1, e2, _⟩ := DataW.trod_int Tryd.underlying25 h0
    have h2 := congrArg (fun l => l[i]?) hxs
    simp only [List.getElem?_map] at h2
    rw [List.getElem?_eq_getElem (show i < xs.length by omega), List.getElem?_eq_getElem (show i < cubes.length by rw [cubes_len]; exact hi), e2] at h2
    simp only [Option.map_some, Option.some.injEq, DataW.lit.injEq, Lit.int.injEq, true_and] at h2
    have h3 : cs0.toList[i]? = some (.int .u32 k) := by
      have := congrArg (fun l => l[0]?) e1
      simpa [List.getElem?_take, List.getElem?_drop] using this
    rw [← Array.getElem?_toList, h3, ← h2, List.getD_eq_getElem?_getD, List.getElem?_eq_getElem (show i < cubes.length by rw [cubes_len]; exact hi)]
    rfl
  have hc := fun i hi => (World.var?_cell hg0 hv0 i).trans (hcell i hi)
  exact ⟨World.block_lt_of_cell? W _ (hc 0 (by omega)), hc⟩

theorem own : ownKnob Tryd.prog.godebug = none := by kernel_rfl

end Go.Proofs.YtidkakjghimimaaDoor.Sha
