/-
  Plain facts on depths: read from the right, a node's kids' depths lie on top of a row of depths. No program is met here.
-/
import Derived.Test.YteknfglfbkknaaaArenaMath
namespace Go.Proofs.Yteknfglfbkknaaa.Arena

/-- The depths of the nodes that stand side by side, the first one first. -/
def stk : List Nd → List Nat
  | [] => []
  | x :: X => (1 + most ((stk X).take (ar x).toNat)) :: (stk X).drop (ar x).toNat
theorem most_append (a b : List Nat) : most (a ++ b) = max (most a) (most b) := by
  induction a with
  | nil => simp [most]
  | cons x a ih =>
    show max x (most (a ++ b)) = max (max x (most a)) (most b)
    rw [ih]; omega
theorem most_one (x : Nat) : most [x] = x := by simp [most]
theorem most_reverse (l : List Nat) : most l.reverse = most l := by
  induction l with
  | nil => rfl
  | cons x l ih =>
    rw [List.reverse_cons, most_append, ih, most_one]
    show max (most l) x = max x (most l)
    omega
theorem most_le_all {l : List Nat} {n : Nat} (h : ∀ x ∈ l, x ≤ n) : most l ≤ n := by
  induction l with
  | nil => simp [most]
  | cons x l ih =>
    have h1 := h x (List.mem_cons_self ..)
    have h2 := ih (fun y hy => h y (List.mem_cons_of_mem _ hy))
    show max x (most l) ≤ n
    omega
theorem stk_le : ∀ (X : List Nd), ∀ d ∈ stk X, d ≤ X.length
  | [], d, h => by cases h
  | x :: X, d, h => by
    rw [stk] at h
    rcases List.mem_cons.1 h with rfl | h
    · have := most_le_all (l := (stk X).take (ar x).toNat) (n := X.length) (fun y hy => stk_le X y (List.mem_of_mem_take hy))
      rw [List.length_cons]; omega
    · have := stk_le X d (List.mem_of_mem_drop h)
      rw [List.length_cons]; omega

theorem kids_add (l : List Nd) : ∀ (a b p n : Nat), scan a (l.drop p) = some n → kidsFrom l (a + b) (p : Int) = kidsFrom l a (p : Int) ++ kidsFrom l b ((p + n : Nat) : Int)
  | 0, b, p, n, h => by rw [scan_0] at h; simp at h; subst h; simp [kidsFrom]
  | a + 1, b, p, n, h => by
    rw [Nat.add_comm, scan_add] at h
    cases h1 : scan 1 (l.drop p) with
    | none => rw [h1] at h; cases h
    | some n1 =>
      rw [h1] at h
      simp only [Option.bind_some, Option.map_eq_some_iff, List.drop_drop] at h
      obtain ⟨m, h2, rfl⟩ := h
      have ek : aend l (p : Int) = ((p + n1 : Nat) : Int) := by rw [aend_some h1]; omega
      rw [show a + 1 + b = (a + b) + 1 by omega, kidsFrom, kidsFrom, ek, kids_add l a b (p + n1) m h2, List.cons_append, Nat.add_assoc]

/-- Of nodes that are just so many parts: the depths of the parts. -/
theorem stk_kids (l : List Nd) : ∀ (n c j : Nat), scan c ((l.drop j).take n) = some n → stk ((l.drop j).take n) = (kidsFrom l c (j : Int)).map (adep l)
  | 0, 0, j, _ => by simp [stk, kidsFrom]
  | 0, c + 1, j, h => by rw [List.take_zero, scan_nil] at h; cases h
  | n + 1, 0, j, h => by rw [scan_0] at h; simp at h
  | n + 1, c + 1, j, h => by
    have hle := (scan_le _ _ _ h).2
    rw [List.length_take, List.length_drop] at hle
    have hj : j < l.length := by omega
    have hd : l.drop j = l[j] :: l.drop (j + 1) := List.drop_eq_getElem_cons hj
    have hX : (l.drop j).take (n + 1) = l[j] :: (l.drop (j + 1)).take n := by rw [hd, List.take_succ_cons]
    have hx : 0 ≤ ar l[j] := by
      rcases Int.lt_or_le (ar l[j]) 0 with q | q
      · rw [hX, scan_bad q] at h; cases h
      · exact q
    have h0 := h
    rw [hX, scan_good hx, Option.map_eq_some_iff] at h
    obtain ⟨n', h, hn'⟩ := h
    obtain rfl : n' = n := by omega
    have ih := stk_kids l n' (c + (ar l[j]).toNat) (j + 1) h
    rw [hX, stk, ih]
    -- the first part
    rw [Nat.add_comm c 1, scan_add] at h0
    cases h1 : scan 1 ((l.drop j).take (n' + 1)) with
    | none => rw [h1] at h0; cases h0
    | some m =>
      have hp := scan_prefix _ _ _ ((((l.drop j).take (n' + 1)).drop m) ++ (l.drop j).drop (n' + 1)) h1
      rw [← List.append_assoc, List.take_append_drop, List.take_append_drop] at hp
      obtain ⟨x, hxj, hx0, ek, hsk, hm1, hm2⟩ := node_kids hp
      obtain rfl : l[j] = x := by rw [List.getElem?_eq_getElem hj] at hxj; exact Option.some.inj hxj
      have ea := kids_add l (ar l[j]).toNat c (j + 1) (m - 1) hsk
      rw [show c + (ar l[j]).toNat = (ar l[j]).toNat + c by omega, ea, List.map_append]
      have hlen : ((kidsFrom l (ar l[j]).toNat ((j + 1 : Nat) : Int)).map (adep l)).length = (ar l[j]).toNat := by rw [List.length_map, kids_len]
      rw [List.take_left' hlen, List.drop_left' hlen, kidsFrom, List.map_cons, adep_good hp, ek, aend_some hp, Nat.add_comm 1]
      congr 3
      rw [show j + 1 + (m - 1) = j + m by omega]
      omega
theorem scan_rest : ∀ (X : List Nd) (c i : Nat), scan c X = some X.length → i ≤ X.length → ∃ c', scan c' (X.drop i) = some (X.length - i)
  | X, c, 0, h, _ => ⟨c, by rw [List.drop_zero, Nat.sub_zero]; exact h⟩
  | [], c, i + 1, h, hi => by simp at hi
  | x :: X, c, i + 1, h, hi => by
    cases c with
    | zero => rw [scan_0] at h; simp at h
    | succ c =>
      have hx : 0 ≤ ar x := by
        rcases Int.lt_or_le (ar x) 0 with q | q
        · rw [scan_bad q] at h; cases h
        · exact q
      rw [scan_good hx, Option.map_eq_some_iff] at h
      obtain ⟨n, h, hn⟩ := h
      rw [List.length_cons] at hn hi
      obtain rfl : n = X.length := by omega
      obtain ⟨c', h'⟩ := scan_rest X _ i h (by omega)
      exact ⟨c', by rw [List.drop_succ_cons, List.length_cons, h']; congr 1; omega⟩
/-- Behind each place there are kids enough. -/
theorem stk_enough {l : List Nd} {k n : Nat} (h : scan 1 (l.drop k) = some n) (t : Nat) (ht : t < n) : ∃ x, l[k + t]? = some x ∧ 0 ≤ ar x ∧ ((l.drop k).take n).drop t = x :: ((l.drop k).take n).drop (t + 1) ∧ (ar x).toNat ≤ (stk (((l.drop k).take n).drop (t + 1))).length := by
  have hle := (scan_le _ _ _ h).2
  rw [List.length_drop] at hle
  have hp := scan_prefix _ _ _ [] h
  rw [List.append_nil] at hp
  have hlen : ((l.drop k).take n).length = n := by rw [List.length_take, List.length_drop]; omega
  obtain ⟨c, hc⟩ := scan_rest _ 1 t (by rw [hlen]; exact hp) (by omega)
  rw [hlen] at hc
  have hkt : k + t < l.length := by omega
  have hx : ((l.drop k).take n)[t]? = some l[k + t] := by
    rw [List.getElem?_take_of_lt ht, List.getElem?_drop, List.getElem?_eq_getElem hkt]
  obtain ⟨h1, h2⟩ := List.getElem?_eq_some_iff.1 hx
  have hd : ((l.drop k).take n).drop t = l[k + t] :: ((l.drop k).take n).drop (t + 1) := by rw [List.drop_eq_getElem_cons h1, h2]
  refine ⟨l[k + t], List.getElem?_eq_getElem hkt, ?_, hd, ?_⟩
  · rcases Int.lt_or_le (ar l[k + t]) 0 with q | q
    · cases c with
      | zero => rw [scan_0] at hc; simp at hc; omega
      | succ c => rw [hd, scan_bad q] at hc; cases hc
    · exact q
  · cases c with
    | zero => rw [scan_0] at hc; simp at hc; omega
    | succ c =>
      have h0 : 0 ≤ ar l[k + t] := by
        rcases Int.lt_or_le (ar l[k + t]) 0 with q | q
        · rw [hd, scan_bad q] at hc; cases hc
        · exact q
      rw [hd, scan_good h0, Option.map_eq_some_iff] at hc
      obtain ⟨n', hc, hn'⟩ := hc
      have e : ((l.drop k).take n).drop (t + 1) = (l.drop (k + t + 1)).take n' := by
        rw [List.drop_take, List.drop_drop]
        congr 1
        omega
      rw [e] at hc ⊢
      have hc' : scan (c + (ar l[k + t]).toNat) ((l.drop (k + t + 1)).take n') = some n' := hc
      rw [stk_kids l n' _ (k + t + 1) hc', List.length_map, kids_len]
      omega
theorem stk_whole {l : List Nd} {k n : Nat} (h : scan 1 (l.drop k) = some n) : stk ((l.drop k).take n) = [adep l k] := by
  have hp := scan_prefix _ _ _ [] h
  rw [List.append_nil] at hp
  rw [stk_kids l n 1 k hp]
  rfl

end Go.Proofs.Yteknfglfbkknaaa.Arena
