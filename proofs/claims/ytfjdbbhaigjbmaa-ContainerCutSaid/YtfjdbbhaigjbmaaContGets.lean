/-
  The reference of containers, walked: frame behind frame.
-/
import Derived.Test.YtfjdbbhaigjbmaaContIdx
import Derived.Test.YtfjdbbhaigjbmaaFrameG
namespace Go.Proofs.Ytfjdbbhaigjbmaa.Cont
open Go.RowKit Leb Mem _root_.Go.Proofs.Ytfjdbbhaigjbmaa.Frame

/-! ### A number of four bytes -/
/-! ### Sections that a call owns -/
def scells (ys : List Sect) : List Value := ys.flatMap fun x => [.int .i64 x.t, .string x.d]
theorem scells_snoc (ys : List Sect) (x : Sect) : scells (ys ++ [x]) = scells ys ++ [.int .i64 x.t, .string x.d] := by simp [scells]
theorem scells_len (ys : List Sect) : (scells ys).length = ys.length * 2 := by
  induction ys with
  | nil => rfl
  | cons y ys ih => simp [scells] at ih ⊢; omega
theorem scells_at (ys : List Sect) (i : Nat) (x : Sect) (h : ys[i]? = some x) : (scells ys)[i * 2]? = some (.int .i64 x.t) ∧ (scells ys)[i * 2 + 1]? = some (.string x.d) := by
  induction ys generalizing i with
  | nil => simp at h
  | cons y ys ih =>
    have hc : scells (y :: ys) = .int .i64 y.t :: .string y.d :: scells ys := rfl
    rw [hc]
    cases i with
    | zero => simp at h; subst h; exact ⟨rfl, rfl⟩
    | succ i =>
      have := ih i (by simpa using h)
      rw [show (i + 1) * 2 = i * 2 + 2 by omega, show i * 2 + 2 + 1 = (i * 2 + 1) + 2 by omega]
      simpa using this

theorem own_of_block {w w' : World} {base : Nat} {e : TypeId} {size : Nat} {v : Value} {n : Nat} {xs : List Value} (h : w.ownsRow base e size v n xs) (hb : ∀ k, v.ownBlock = some k → w'.heap[k]? = w.heap[k]?) : w'.ownsRow base e size v n xs := by
  refine ⟨h.1, ?_⟩
  rcases h.2 with hn | ⟨g, cap, cur, rfl, hbg, hgg, rest⟩
  · exact .inl hn
  · exact .inr ⟨g, cap, cur, rfl, hbg, (hb g rfl).trans hgg, rest⟩
/-- A row that is owned is a row of sections. -/
theorem sects_of_own {w : World} {base : Nat} {v : Value} {ys : List Sect} (h : w.ownsRow base 35 2 v ys.length (scells ys)) (hd : ∀ x ∈ ys, x.d.size ≤ 140737488351232) :
    ∃ (A : Option Addr) (cap : Nat), v = .slice A ys.length cap ∧ Sects w w.heap.size A ys ∧ (A = none → ys = []) := by
  rcases h.2 with ⟨rfl, h0⟩ | ⟨g, cap, cur, rfl, -, hg, -, -, -, hc⟩
  · have : ys = [] := List.length_eq_zero_iff.1 h0
    subst this
    exact ⟨none, 0, rfl, fun i x hx => by simp at hx, fun _ => rfl⟩
  · refine ⟨some ⟨g, 0, none⟩, cap, rfl, ?_, fun h => by cases h⟩
    intro i x hx
    have hi := (List.getElem?_eq_some_iff.1 hx).1
    obtain ⟨c0, c1⟩ := scells_at ys i x hx
    have hget : ∀ j, j < ys.length * 2 → cur[j]? = (scells ys)[j]? := by
      intro j hj
      rw [← hc, List.getElem?_take, if_pos hj]
      simp
    have e0 : (⟨g, 0, none⟩ : Addr).add (i * 2) = ⟨g, i * 2, none⟩ := by
      rcases Nat.eq_zero_or_pos i with rfl | hp
      · rfl
      · obtain ⟨j, hj⟩ : ∃ j, i * 2 = j + 1 := ⟨i * 2 - 1, by omega⟩
        rw [hj, add_posS]; simp
    refine ⟨⟨g, 0, none⟩, rfl, (Array.getElem?_eq_some_iff.1 hg).1, hd x (List.mem_of_getElem? hx), ?_, ?_⟩
    · rw [e0, cell_of_row w g (i * 2) cur _ _ hg, hget _ (by omega), c0]
    · rw [e0]
      show w.cell? ⟨g, i * 2 + 1, none⟩ = _
      rw [cell_of_row w g (i * 2 + 1) cur _ _ hg, hget _ (by omega), c1]

end Go.Proofs.Ytfjdbbhaigjbmaa.Cont
