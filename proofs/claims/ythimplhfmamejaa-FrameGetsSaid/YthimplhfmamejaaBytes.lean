/-
  Rows of bytes that a call owns: what one more byte does, and what they are as a string.
-/
import Derived.WalkKit
import Derived.OwnWalk
import Derived.Laws.BytesArg
import Derived.Maps.AppendAt
import Derived.RangeFuncBox
import Derived.Shelf.Abstract
import Derived.Test.YthimplhfmamejaaRows
namespace Go.Proofs.Ythimplhfmamejaa.Bytes
open Go.RowKit

theorem info_u8 : (Try.prog.info? 5).map (fun i => (i.zero, i.size, i.bytes)) = some (some (.int .u8 0), 1, 1) := by kernel_rfl

/-- A list's bytes as numbers. -/
def nums (l : List UInt8) : List Int := l.map fun b => (b.toNat : Int)
theorem nums_len (l : List UInt8) : (nums l).length = l.length := by simp [nums]
theorem nums_append (a b : List UInt8) : nums (a ++ b) = nums a ++ nums b := by simp [nums]
theorem str_nums (l : List UInt8) : strOfNums (nums l) = ⟨l.toArray⟩ := by
  unfold strOfNums nums
  congr 2
  rw [List.map_map]
  conv => rhs; rw [← List.map_id l]
  apply List.map_congr_left
  intro b _
  simp

/-- The cells of a list of bytes. -/
def bcells (l : List UInt8) : List Value := (nums l).map (Value.int .u8)
theorem bcells_len (l : List UInt8) : (bcells l).length = l.length := by simp [bcells, nums]
theorem bcells_snoc (l : List UInt8) (b : UInt8) : bcells (l ++ [b]) = bcells l ++ [.int .u8 (b.toNat : Int)] := by simp [bcells, nums]

/-- A row that the call owns, as a string. -/
theorem conv_owned (W : World) (base : Nat) (v : Value) (l : List UInt8) (hrow : W.ownsRow base 5 1 v l.length (bcells l)) :
    (convert 42 9 v).run Try.prog W = .ok (.string ⟨l.toArray⟩) W := by
  cases l with
  | nil =>
    obtain ⟨-, h | ⟨g, cap, cur, hv, hg, hh, r⟩⟩ := hrow
    · obtain ⟨rfl, _⟩ := h
      exact run_convert_bytes_nil W _ _ Try.underlying42 Try.underlying5 0 0 _ Try.underlying9
    · subst hv
      have := run_convert_bytes_arg (P := Try.prog) W 42 5 Try.underlying42 Try.underlying5 g 0 0 cap [] rfl (fun i hi => by omega) 9 Try.underlying9
      exact this
  | cons b t =>
    obtain ⟨g, cap, rfl⟩ := ownsRow_succ (k := t.length) hrow
    rw [← str_nums]
    refine run_convert_bytes_arg W _ _ Try.underlying42 Try.underlying5 g 0 _ cap (nums (b :: t)) (nums_len _) (fun i hi => ?_) _ Try.underlying9
    have hi' : i < (nums (b :: t)).length := by rw [nums_len]; exact hi
    have := hrow.cells (g := g) rfl i (.int .u8 ((nums (b :: t)).getD i 0)) (by simp [bcells, List.getElem?_eq_getElem hi'])
    unfold Addr.add at this
    split at this
    · rename_i h; subst h; simpa using this
    · simpa using this

end Go.Proofs.Ythimplhfmamejaa.Bytes
