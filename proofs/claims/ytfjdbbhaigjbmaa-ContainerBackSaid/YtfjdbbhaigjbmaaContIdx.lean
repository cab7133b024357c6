/-
  The reference of containers, walked: the index.
-/
import Derived.Test.YtfjdbbhaigjbmaaContRef
namespace Go.Proofs.Ytfjdbbhaigjbmaa.Cont
open Go.RowKit Leb Mem _root_.Go.Proofs.Ytfjdbbhaigjbmaa.Frame

theorem idx_snoc : ∀ (l : List Sec) (a : Nat) (x : Sec), idx a (l ++ [x]) = idx a l ++ (lput (u64 x.1) ++ lput (a + (body l).length) ++ lput (size x))
  | [], a, x => by simp [idx, body]
  | y :: l, a, x => by
    rw [List.cons_append, idx, idx, idx_snoc l (a + size y) x, body, List.length_append, show (fput y.1 y.2).length = size y from rfl, Nat.add_assoc]
    simp [List.append_assoc]
theorem body_snoc (l : List Sec) (x : Sec) : (body (l ++ [x])).length = (body l).length + size x := by
  rw [body_append, List.length_append]; simp [body, size]
theorem idx_len (l : List Sec) (a : Nat) (hl : l.length ≤ 1000000) (hb : a + (body l).length ≤ 18446744073709551615) : (idx a l).length ≤ 30 * l.length := by
  induction l generalizing a with
  | nil => simp [idx]
  | cons y l ih =>
    have h0 := lput_len10 (n := u64 y.1) (by unfold u64; omega)
    rw [body, List.length_append, show (fput y.1 y.2).length = size y from rfl] at hb
    have h1 := lput_len10 (n := a) (by omega)
    have h2 := lput_len10 (n := size y) (by omega)
    have := ih (a + size y) (by simp at hl; omega) (by omega)
    rw [idx]
    simp
    omega
/-- How many bytes all frames have. -/
theorem body_le (l : List Sec) : (body l).length ≤ (l.map (·.2.length)).sum + 15 * l.length ∨ ∃ x ∈ l, 18446744073709551615 < x.2.length := by
  induction l with
  | nil => simp [body]
  | cons y l ih =>
    rcases ih with h | ⟨x, hx, hh⟩
    · by_cases c : y.2.length ≤ 18446744073709551615
      · left
        have := lput_len10 c
        have h1 := size_eq y
        rw [head_len] at h1
        rw [body, List.length_append, show (fput y.1 y.2).length = size y from rfl]
        simp
        omega
      · exact .inr ⟨y, by simp, by omega⟩
    · exact .inr ⟨x, by simp [hx], hh⟩

/-- Sections that are looked at by the reference. -/
def Lim (xs : List Sect) : Prop := xs.length ≤ 1000000 ∧ total xs ≤ 536870912
theorem secs_len (xs : List Sect) : (secs xs).length = xs.length := by simp [secs]
theorem total_secs (xs : List Sect) : ((secs xs).map (·.2.length)).sum = total xs := by
  unfold secs total
  rw [List.map_map]
  congr 1
theorem total_mem {xs : List Sect} {i : Nat} {x : Sect} (h : xs[i]? = some x) : x.d.size ≤ total xs := by
  have := total_take xs i x h
  have := total_take_le xs (i + 1)
  omega
theorem body_lim {xs : List Sect} (h : Lim xs) (k : Nat) : (body (secs (xs.take k))).length ≤ total xs + 15 * k := by
  have h1 := total_take_le xs k
  rcases body_le (secs (xs.take k)) with h2 | ⟨x, hx, hh⟩
  · rw [total_secs, secs_len, List.length_take] at h2
    omega
  · unfold secs at hx
    rw [List.mem_map] at hx
    obtain ⟨y, hy, rfl⟩ := hx
    obtain ⟨i, hi⟩ := List.mem_iff_getElem?.1 hy
    have := total_mem hi
    rw [len_of] at hh
    have := h.2
    omega

/-- The index, so far. -/
def ixs (n : Nat) (l : List Sec) : List UInt8 := lput n ++ idx 7 l
theorem ixs_snoc (n : Nat) (l : List Sec) (x : Sec) : str (ixs n l) ++ str (lput (u64 x.1)) ++ str (lput (7 + (body l).length)) ++ str (lput (size x)) = str (ixs n (l ++ [x])) := by
  rw [str_app, str_app, str_app]
  unfold ixs
  rw [idx_snoc]
  simp [List.append_assoc]
theorem ixs_size {xs : List Sect} (h : Lim xs) (k : Nat) : (str (ixs xs.length (secs (xs.take k)))).size ≤ 30000010 := by
  have h1 := body_lim h k
  have h2 := lput_len10 (n := xs.length) (by have := h.1; omega)
  have hb : 7 + (body (secs (xs.take k))).length ≤ 18446744073709551615 := by
    by_cases c : k ≤ xs.length
    · have := h.1; have := h.2; omega
    · rw [List.take_of_length_le (by omega)] at h1 ⊢
      have h3 := body_lim h xs.length
      rw [List.take_length] at h3
      have := h.1; have := h.2; omega
  have h3 := idx_len (secs (xs.take k)) 7 (by rw [secs_len, List.length_take]; have := h.1; omega) hb
  rw [secs_len, List.length_take] at h3
  rw [str_size]
  unfold ixs
  rw [List.length_append]
  have := h.1
  omega

theorem u64_wrap (t : Int) : IntKind.u64.wrap t = ((u64 t : Nat) : Int) := by
  unfold u64
  rw [IntKind.wrap_u64]
  omega

end Go.Proofs.Ytfjdbbhaigjbmaa.Cont
