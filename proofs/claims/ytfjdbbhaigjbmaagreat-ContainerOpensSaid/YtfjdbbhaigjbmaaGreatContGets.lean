/-
  The reference of containers, walked: frame behind frame.
-/
import Derived.Test.YtfjdbbhaigjbmaaGreatContIdx
import Derived.Test.YtfjdbbhaigjbmaaGreatFrameG
namespace Go.Proofs.YtfjdbbhaigjbmaaGreat.Cont
open Go.RowKit Leb Mem _root_.Go.Proofs.YtfjdbbhaigjbmaaGreat.Frame

/-! ### A number of four bytes -/
set_option maxRecDepth 100000 in
theorem ref_number_any (s : ByteArray) (hs : s.size = 4) (w : World) :
    Calls Tryz.prog 30 #[.string s] w fun e w' => e = .returned (.int .i64 (num s.data.toList)) ∧ Below w.heap.size w w' := by
  have hlen := len_of s
  go_enter Tryz.func30, Tryz.ntmps30
  go_wp2
  go_loopw [3, 4] (fun n i wr => ∃ k : Nat, k ≤ 4 ∧ i = .int .i64 ((k : Int) - 1) ∧ n = .int .i64 (num (s.data.toList.drop k)) ∧ Below w.heap.size w wr) (fun _ i _ => (intOf i + 1).toNat)
  case atStart => exact ⟨4, by omega, rfl, by rw [List.drop_eq_nil_of_le (by omega)]; rfl, Below.refl _ _⟩
  case round =>
    obtain ⟨k, hk, rfl, rfl, hB⟩ := hrel
    have hnl : ∀ l : List UInt8, num l < 256 ^ l.length := by
      intro l
      induction l with
      | nil => simp [num]
      | cons b l ih => have := b.toNat_lt; rw [num, List.length_cons, Nat.pow_succ]; omega
    have hnk := hnl (s.data.toList.drop k)
    rw [List.length_drop, hlen, hs] at hnk
    have hnk4 : num (s.data.toList.drop k) < 4294967296 := Nat.lt_of_lt_of_le hnk (by
      have : (256 : Nat) ^ (4 - k) ≤ 256 ^ 4 := Nat.pow_le_pow_right (by omega) (by omega)
      exact this)
    by_cases h0 : k = 0
    · subst h0
      have HE := Lib.hid (show s.data.toList.drop 0 = s.data.toList from rfl)
      go_wp2_with fail
      go_ret
      exact ⟨rfl, hB⟩
    · obtain ⟨j, rfl⟩ : ∃ j, k = j + 1 := ⟨k - 1, by omega⟩
      have hj : j < s.size := by omega
      have hd : s.data.toList.drop j = s[j] :: s.data.toList.drop (j + 1) := by
        rw [List.drop_eq_getElem_cons (by omega)]; rfl
      have hn : num (s.data.toList.drop j) = num (s.data.toList.drop (j + 1)) * 256 + s[j].toNat := by rw [hd, num]
      have e1 : ((j + 1 : Nat) : Int) - 1 = (j : Int) := by omega
      rw [e1]
      have hb := s[j].toNat_lt
      have b1 : (0 : Int) ≤ (j : Int) := by omega
      have b2 : (j : Int) < (s.size : Int) := by omega
      generalize num (s.data.toList.drop (j + 1)) = m at *
      have w1 : IntKind.i64.wrap ((m : Int) * 256) = (m : Int) * 256 := IntWalk.i64_in _ (by omega)
      have w2 : IntKind.i64.wrap (s[j].toNat : Int) = (s[j].toNat : Int) := IntWalk.i64_in _ (by omega)
      have w3 : IntKind.i64.wrap ((m : Int) * 256 + (s[j].toNat : Int)) = (m : Int) * 256 + (s[j].toNat : Int) := IntWalk.i64_in _ (by omega)
      have w4 : IntKind.i64.wrap ((j : Int) - 1) = (j : Int) - 1 := IntWalk.i64_in _ (by omega)
      have HN := Lib.hid hn
      clear hnl hnk hnk4 hd hn hlen hs
      go_wp2_with fail
      go_roundw
      case rel => exact ⟨j, by omega, rfl, by rw [HN.out]; simp, hB⟩
      case measure => simp [intOf]

/-! ### Sections that a call owns -/
def scells (ys : List Sect) : List Value := ys.flatMap fun x => [.int .i64 x.t, .string x.d]
theorem scells_snoc (ys : List Sect) (x : Sect) : scells (ys ++ [x]) = scells ys ++ [.int .i64 x.t, .string x.d] := by simp [scells]
theorem scells_len (ys : List Sect) : (scells ys).length = ys.length * 2 := by
  induction ys with
  | nil => rfl
  | cons y ys ih => simp [scells] at ih ⊢; omega
theorem scells_at (ys : List Sect) (i : Nat) (x : Sect) (h : ys[i]? = some x) : (scells ys)[i * 2]? = some (.int .i64 x.t) ∧ (scells ys)[i * 2 + 1]? = some (.string x.d) := by
  induction ys generalizing i with
  | nil => simp at h
  | cons y ys ih =>
    have hc : scells (y :: ys) = .int .i64 y.t :: .string y.d :: scells ys := rfl
    rw [hc]
    cases i with
    | zero => simp at h; subst h; exact ⟨rfl, rfl⟩
    | succ i =>
      have := ih i (by simpa using h)
      rw [show (i + 1) * 2 = i * 2 + 2 by omega, show i * 2 + 2 + 1 = (i * 2 + 1) + 2 by omega]
      simpa using this

theorem own_of_block {w w' : World} {base : Nat} {e : TypeId} {size : Nat} {v : Value} {n : Nat} {xs : List Value} (h : w.ownsRow base e size v n xs) (hb : ∀ k, v.ownBlock = some k → w'.heap[k]? = w.heap[k]?) : w'.ownsRow base e size v n xs := by
  refine ⟨h.1, ?_⟩
  rcases h.2 with hn | ⟨g, cap, cur, rfl, hbg, hgg, rest⟩
  · exact .inl hn
  · exact .inr ⟨g, cap, cur, rfl, hbg, (hb g rfl).trans hgg, rest⟩
/-- A row that is owned is a row of sections. -/
theorem sects_of_own {w : World} {base : Nat} {v : Value} {ys : List Sect} (h : w.ownsRow base 34 2 v ys.length (scells ys)) (hd : ∀ x ∈ ys, x.d.size ≤ 140737488351232) :
    ∃ (A : Option Addr) (cap : Nat), v = .slice A ys.length cap ∧ Sects w w.heap.size A ys ∧ (A = none → ys = []) := by
  rcases h.2 with ⟨rfl, h0⟩ | ⟨g, cap, cur, rfl, -, hg, -, -, -, hc⟩
  · have : ys = [] := List.length_eq_zero_iff.1 h0
    subst this
    exact ⟨none, 0, rfl, fun i x hx => by simp at hx, fun _ => rfl⟩
  · refine ⟨some ⟨g, 0, none⟩, cap, rfl, ?_, fun h => by cases h⟩
    intro i x hx
    have hi := (List.getElem?_eq_some_iff.1 hx).1
    obtain ⟨c0, c1⟩ := scells_at ys i x hx
    have hget : ∀ j, j < ys.length * 2 → cur[j]? = (scells ys)[j]? := by
      intro j hj
      rw [← hc, List.getElem?_take, if_pos hj]
      simp
    have e0 : (⟨g, 0, none⟩ : Addr).add (i * 2) = ⟨g, i * 2, none⟩ := by
      rcases Nat.eq_zero_or_pos i with rfl | hp
      · rfl
      · obtain ⟨j, hj⟩ : ∃ j, i * 2 = j + 1 := ⟨i * 2 - 1, by omega⟩
        rw [hj, add_posS]; simp
    refine ⟨⟨g, 0, none⟩, rfl, (Array.getElem?_eq_some_iff.1 hg).1, hd x (List.mem_of_getElem? hx), ?_, ?_⟩
    · rw [e0, cell_of_row w g (i * 2) cur _ _ hg, hget _ (by omega), c0]
    · rw [e0]
      show w.cell? ⟨g, i * 2 + 1, none⟩ = _
      rw [cell_of_row w g (i * 2 + 1) cur _ _ hg, hget _ (by omega), c1]

end Go.Proofs.YtfjdbbhaigjbmaaGreat.Cont
