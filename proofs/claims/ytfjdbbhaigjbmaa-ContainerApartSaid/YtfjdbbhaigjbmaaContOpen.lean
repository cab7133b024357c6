/-
  The reference of containers, walked: what is opened.
-/
import Derived.Test.YtfjdbbhaigjbmaaContFrames
import Derived.BigQuiet
namespace Go.Proofs.Ytfjdbbhaigjbmaa.Cont
open Go.RowKit Leb Mem _root_.Go.Proofs.Ytfjdbbhaigjbmaa.Frame

/-- What opening comes to. -/
def OpenEnds (l : List UInt8) (w : World) (e : Ending) (w' : World) : Prop :=
  Below w.heap.size w w' ∧ ∃ (A : Option Addr) (cap : Nat) (ys : List Sect), openC l = (secs ys, (openC l).2) ∧ e = .returned (.tuple #[.slice A ys.length cap, .int .i64 (openC l).2]) ∧ Sects w' w'.heap.size A ys ∧ (A = none → ys = [])
theorem OpenEnds.none {l : List UInt8} {w w' : World} {c : Int} (h : openC l = ([], c)) (hb : Below w.heap.size w w') : OpenEnds l w (.returned (.tuple #[.slice none 0 0, .int .i64 c])) w' :=
  ⟨hb, .none, 0, [], by rw [h]; rfl, by rw [h]; rfl, fun i x hx => by simp at hx, fun _ => rfl⟩

/-! ### The ways through -/
section
variable {l : List UInt8}
theorem open_large (h : 1048576 < l.length) : openC l = ([], 4) := by unfold openC; rw [if_pos h]
theorem open_magic (h : ¬ 1048576 < l.length) (h2 : l.length < 15 ∨ l.take 7 ≠ magic ∨ l.drop (l.length - 4) ≠ theEnd) : openC l = ([], 7) := by unfold openC; rw [if_neg h, if_pos h2]
theorem open_place {n : Nat} (h : ¬ 1048576 < l.length) (h2 : ¬ (l.length < 15 ∨ l.take 7 ≠ magic ∨ l.drop (l.length - 4) ≠ theEnd)) (hn : num ((l.drop (l.length - 8)).take 4) = n) (h3 : n < 7 ∨ l.length - 8 < n) : openC l = ([], 9) := by
  unfold openC; rw [if_neg h, if_neg h2, hn, if_pos h3]
theorem open_frame {n : Nat} (h : ¬ 1048576 < l.length) (h2 : ¬ (l.length < 15 ∨ l.take 7 ≠ magic ∨ l.drop (l.length - 4) ≠ theEnd)) (hn : num ((l.drop (l.length - 8)).take 4) = n) (h3 : ¬ (n < 7 ∨ l.length - 8 < n))
    (hg : gets (l.take n) n 7 = none) : openC l = ([], 8) := by
  unfold openC; rw [if_neg h, if_neg h2, hn, if_neg h3, hg]
theorem open_order {n : Nat} {r : List Sec} (h : ¬ 1048576 < l.length) (h2 : ¬ (l.length < 15 ∨ l.take 7 ≠ magic ∨ l.drop (l.length - 4) ≠ theEnd)) (hn : num ((l.drop (l.length - 8)).take 4) = n) (h3 : ¬ (n < 7 ∨ l.length - 8 < n))
    (hg : gets (l.take n) n 7 = some r) (ho : ord r = false) : openC l = ([], 20) := by
  unfold openC; rw [if_neg h, if_neg h2, hn, if_neg h3, hg]; simp only; rw [if_pos ho]
theorem open_index {n : Nat} {r : List Sec} (h : ¬ 1048576 < l.length) (h2 : ¬ (l.length < 15 ∨ l.take 7 ≠ magic ∨ l.drop (l.length - 4) ≠ theEnd)) (hn : num ((l.drop (l.length - 8)).take 4) = n) (h3 : ¬ (n < 7 ∨ l.length - 8 < n))
    (hg : gets (l.take n) n 7 = some r) (ho : ord r = true) (hi : l.drop n ≠ index r ++ Crc.tail (index r) ++ foot n) : openC l = ([], 9) := by
  unfold openC; rw [if_neg h, if_neg h2, hn, if_neg h3, hg]; simp only; rw [if_neg (by simp [ho]), if_pos hi]
theorem open_ok {n : Nat} {r : List Sec} (h : ¬ 1048576 < l.length) (h2 : ¬ (l.length < 15 ∨ l.take 7 ≠ magic ∨ l.drop (l.length - 4) ≠ theEnd)) (hn : num ((l.drop (l.length - 8)).take 4) = n) (h3 : ¬ (n < 7 ∨ l.length - 8 < n))
    (hg : gets (l.take n) n 7 = some r) (ho : ord r = true) (hi : l.drop n = index r ++ Crc.tail (index r) ++ foot n) : openC l = (r, 0) := by
  unfold openC; rw [if_neg h, if_neg h2, hn, if_neg h3, hg]; simp only; rw [if_neg (by simp [ho]), if_neg (by simp [hi])]
end

theorem secs_onto : ∀ r : List Sec, ∃ ys : List Sect, r = secs ys
  | [] => ⟨[], rfl⟩
  | x :: r => by
    obtain ⟨ys, h⟩ := secs_onto r
    exact ⟨⟨x.1, str x.2⟩ :: ys, by unfold secs at h ⊢; rw [List.map_cons, ← h]; simp only [str_list]⟩
theorem body_ge (l : List Sec) : (l.map (·.2.length)).sum + 6 * l.length ≤ (body l).length := by
  induction l with
  | nil => simp [body]
  | cons y l ih =>
    have h1 := size_eq y
    have h2 := head_len y.1 y.2
    have h3 := lput_pos y.2.length
    rw [body, List.length_append, show (fput y.1 y.2).length = size y from rfl]
    simp
    omega
theorem lim_of_gets {l : List UInt8} {n : Nat} {ys : List Sect} (hl : l.length ≤ 1048576) (hn : n ≤ l.length) (h7 : 7 ≤ n) (h : gets (l.take n) n 7 = some (secs ys)) : Lim ys := by
  have ht : (l.take n).length = n := by rw [List.length_take]; omega
  obtain ⟨h1, -⟩ := gets_only n (l.take n) 7 (secs ys) (by omega) (by omega) h
  have h2 := congrArg List.length h1
  rw [List.length_drop, ht] at h2
  have h3 := body_ge (secs ys)
  rw [total_secs, secs_len] at h3
  exact ⟨by omega, by omega⟩

end Go.Proofs.Ytfjdbbhaigjbmaa.Cont
