/-
  The reference of containers, walked: all frames up to a place.
-/
import Derived.Test.YtfjdbbhaigjbmaaContGets
import Derived.Maps.AppendAt
import Derived.Deep.AppendLies
namespace Go.Proofs.Ytfjdbbhaigjbmaa.Cont
open Go.RowKit Leb Mem _root_.Go.Proofs.Ytfjdbbhaigjbmaa.Frame

theorem info_sec : (Try.prog.info? 35).map (fun i => (i.zero, i.size, i.bytes)) = some (some (.agg #[.int .i64 0, .string ⟨#[]⟩]), 2, 24) := by kernel_rfl

/-- What stands behind so many frames. -/
def Upto (S : List UInt8) (n a : Nat) (pre : List Sec) : Prop := ∃ k, S.length - a ≤ k ∧ gets S n 7 = (gets S k a).map (pre ++ ·)
theorem Upto.start (S : List UInt8) (n : Nat) (h : S.length - 7 ≤ n) : Upto S n 7 [] := ⟨n, h, by simp⟩
theorem Upto.done {S : List UInt8} {n a : Nat} {pre : List Sec} (h : Upto S n a pre) (ha : S.length ≤ a) : gets S n 7 = some pre := by
  obtain ⟨k, -, hg⟩ := h
  rw [hg]
  cases k with
  | zero => simp [gets]
  | succ k => rw [gets, if_pos ha]; simp
theorem Upto.bad {S : List UInt8} {n a : Nat} {pre : List Sec} (h : Upto S n a pre) (ha : a < S.length) (he : (fget S a).2.2 ≠ 0) : gets S n 7 = none := by
  obtain ⟨k, hk, hg⟩ := h
  obtain ⟨k, rfl⟩ : ∃ j, k = j + 1 := ⟨k - 1, by omega⟩
  rw [hg, gets, if_neg (by omega), if_pos he]; rfl
theorem Upto.more {S : List UInt8} {n a q : Nat} {pre : List Sec} {x : Sec} (h : Upto S n a pre) (ha : a < S.length) (he : fget S a = (x, (q : Int), 0)) (hq : a < q) : Upto S n q (pre ++ [x]) := by
  obtain ⟨k, hk, hg⟩ := h
  obtain ⟨k, rfl⟩ : ∃ j, k = j + 1 := ⟨k - 1, by omega⟩
  refine ⟨k, by omega, ?_⟩
  rw [hg, gets, if_neg (by omega), he, if_neg (by simp)]
  simp only [Int.toNat_natCast, Option.map_map]
  congr 1
  funext l
  simp

/-- What the frames come to. -/
def FramesEnds (r : Option (List Sec)) (w : World) (e : Ending) (w' : World) : Prop :=
  Below w.heap.size w w' ∧ ((r = none ∧ e = .returned (.tuple #[.slice none 0 0, .bool false])) ∨
    ∃ (A : Option Addr) (cap : Nat) (ys : List Sect), r = some (secs ys) ∧ e = .returned (.tuple #[.slice A ys.length cap, .bool true]) ∧ Sects w' w'.heap.size A ys ∧ (A = none → ys = []))

theorem secs_snoc (ys : List Sect) (t : Int) (d : List UInt8) : secs (ys ++ [⟨t, str d⟩]) = secs ys ++ [(t, d)] := by
  unfold secs; rw [List.map_append]; simp [str_list]

end Go.Proofs.Ytfjdbbhaigjbmaa.Cont
