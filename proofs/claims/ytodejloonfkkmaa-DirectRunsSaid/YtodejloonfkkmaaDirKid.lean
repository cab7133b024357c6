/-
  Where a node's kids stand, one behind the other; what an If's branches tell (plain).
-/
import Derived.Test.YtodejloonfkkmaaMachG
set_option linter.unusedVariables false
namespace Go.Proofs.Ytodejloonfkkmaa.Dir
open _root_.Go.Proofs.Ytodejloonfkkmaa.Arena _root_.Go.Proofs.Ytodejloonfkkmaa.Kinds _root_.Go.Proofs.Ytodejloonfkkmaa.Mach

theorem drow_scan (l : List Nd) : ∀ (c s n : Nat), scan c (l.drop s) = some n → ∀ j, j < c → ∃ r m : Nat, scan j (l.drop s) = some r ∧ (kidsFrom l c s)[j]? = some ((s + r : Nat) : Int) ∧ scan 1 (l.drop (s + r)) = some m ∧ scan (j + 1) (l.drop s) = some (r + m) ∧ r + m ≤ n
  | 0, s, n, h, j, hj => absurd hj (by omega)
  | c + 1, s, n, h, j, hj => by
    rw [Nat.add_comm, scan_add] at h
    cases h1 : scan 1 (l.drop s) with
    | none => rw [h1] at h; cases h
    | some n1 =>
      rw [h1] at h
      simp only [Option.bind_some, Option.map_eq_some_iff, List.drop_drop] at h
      obtain ⟨m, h2, rfl⟩ := h
      have ek : aend l (s : Int) = ((s + n1 : Nat) : Int) := by rw [aend_some h1]; omega
      cases j with
      | zero => exact ⟨0, n1, scan_0 _, by rw [kidsFrom]; rfl, h1, by rw [h1, Nat.zero_add], by omega⟩
      | succ j =>
        obtain ⟨r, m', r1, r2, r3, r4, r5⟩ := drow_scan l c (s + n1) m h2 j (by omega)
        refine ⟨n1 + r, m', ?_, ?_, by rw [← Nat.add_assoc]; exact r3, ?_, by omega⟩
        · rw [Nat.add_comm j 1, scan_add, h1]
          simp only [Option.bind_some, List.drop_drop, r1, Option.map_some]
        · rw [kidsFrom, ek, List.getElem?_cons_succ, r2, Nat.add_assoc]
        · rw [Nat.add_comm (j + 1) 1, scan_add, h1]
          simp only [Option.bind_some, List.drop_drop, r4, Option.map_some, Nat.add_assoc]
theorem dkid_scan {l : List Nd} {a n : Nat} (h : scan 1 (l.drop a) = some n) : ∃ x c, l[a]? = some x ∧ ar x = ((c : Nat) : Int) ∧ c ≤ 200 ∧ (akids l a).length = c ∧ scan c (l.drop (a + 1)) = some (n - 1) ∧ 1 ≤ n ∧ a + n ≤ l.length ∧
    ∀ j, j < c → ∃ r m : Nat, scan j (l.drop (a + 1)) = some r ∧ (akids l a)[j]? = some ((a + 1 + r : Nat) : Int) ∧ scan 1 (l.drop (a + 1 + r)) = some m ∧ scan (j + 1) (l.drop (a + 1)) = some (r + m) ∧ r + m ≤ n - 1 := by
  obtain ⟨x, h1, h2, h3, h4, h5, h6⟩ := node_kids h
  have := (ar_le x).2
  refine ⟨x, (ar x).toNat, h1, by omega, by omega, by rw [h3, kids_len], h4, h5, h6, fun j hj => ?_⟩
  rw [h3]
  exact drow_scan l _ _ _ h4 j hj
section
variable {l : List Nd} {k n : Nat}
theorem kids_none (h : scan 1 (l.drop k) = some n) (hq : akids l k = []) : n = 1 := by
  obtain ⟨x, c, -, -, -, hc, hs, h1, -, -⟩ := dkid_scan h
  rw [hq] at hc
  obtain rfl : c = 0 := by simpa using hc.symm
  rw [scan_0] at hs
  have := Option.some.inj hs
  omega
theorem kids_one {q : Int} (h : scan 1 (l.drop k) = some n) (hq : akids l k = [q]) : ∃ n1, q = ((k + 1 : Nat) : Int) ∧ scan 1 (l.drop (k + 1)) = some n1 ∧ n = 1 + n1 := by
  obtain ⟨x, c, -, -, -, hc, hs, h1, -, hk⟩ := dkid_scan h
  rw [hq] at hc hk
  obtain rfl : c = 1 := by simpa using hc.symm
  obtain ⟨r, m, r1, r2, -, -, -⟩ := hk 0 (by omega)
  rw [scan_0] at r1
  obtain rfl : 0 = r := Option.some.inj r1
  exact ⟨n - 1, by simpa using r2, hs, by omega⟩
theorem kids_two {q q2 : Int} (h : scan 1 (l.drop k) = some n) (hq : akids l k = [q, q2]) : ∃ n1 n2, q = ((k + 1 : Nat) : Int) ∧ scan 1 (l.drop (k + 1)) = some n1 ∧ q2 = ((k + 1 + n1 : Nat) : Int) ∧ scan 1 (l.drop (k + 1 + n1)) = some n2 ∧ n = 1 + n1 + n2 := by
  obtain ⟨x, c, -, -, -, hc, hs, h1, -, hk⟩ := dkid_scan h
  rw [hq] at hc hk
  obtain rfl : c = 2 := by simpa using hc.symm
  obtain ⟨r, m, r1, r2, r3, r4, -⟩ := hk 0 (by omega)
  rw [scan_0] at r1
  obtain rfl : 0 = r := Option.some.inj r1
  obtain ⟨r', m', p1, p2, p3, p4, -⟩ := hk 1 (by omega)
  rw [Nat.add_zero] at r3
  rw [r3] at p1
  obtain rfl : m = r' := Option.some.inj p1
  rw [hs] at p4
  have := Option.some.inj p4
  exact ⟨m, m', by simpa using r2, r3, by simpa using p2, p3, by omega⟩
theorem kids_three {q q2 q3 : Int} (h : scan 1 (l.drop k) = some n) (hq : akids l k = [q, q2, q3]) : ∃ n1 n2 n3, q = ((k + 1 : Nat) : Int) ∧ scan 1 (l.drop (k + 1)) = some n1 ∧ q2 = ((k + 1 + n1 : Nat) : Int) ∧ scan 1 (l.drop (k + 1 + n1)) = some n2 ∧ q3 = ((k + 1 + n1 + n2 : Nat) : Int) ∧ scan 1 (l.drop (k + 1 + n1 + n2)) = some n3 ∧ n = 1 + n1 + n2 + n3 := by
  obtain ⟨x, c, -, -, -, hc, hs, h1, -, hk⟩ := dkid_scan h
  rw [hq] at hc hk
  obtain rfl : c = 3 := by simpa using hc.symm
  obtain ⟨r, m, r1, r2, r3, r4, -⟩ := hk 0 (by omega)
  rw [scan_0] at r1
  obtain rfl : 0 = r := Option.some.inj r1
  obtain ⟨r', m', p1, p2, p3, p4, -⟩ := hk 1 (by omega)
  rw [Nat.add_zero] at r3
  rw [r3] at p1
  obtain rfl : m = r' := Option.some.inj p1
  obtain ⟨r'', m'', t1, t2, t3, t4, -⟩ := hk 2 (by omega)
  rw [p4] at t1
  obtain rfl : m + m' = r'' := Option.some.inj t1
  rw [hs] at t4
  have := Option.some.inj t4
  rw [← Nat.add_assoc] at t2 t3
  exact ⟨m, m', m'', by simpa using r2, r3, by simpa using p2, p3, by simpa using t2, t3, by omega⟩
/-- Of a row of kids, where each one stands. -/
theorem kids_many (h : scan 1 (l.drop k) = some n) : ∃ P : Nat → Nat, P 0 = k + 1 ∧ P (akids l k).length = k + n ∧ ∀ j, j < (akids l k).length → (akids l k)[j]? = some ((P j : Nat) : Int) ∧ ∃ m, scan 1 (l.drop (P j)) = some m ∧ P (j + 1) = P j + m ∧ m < n := by
  obtain ⟨x, c, -, -, -, hc, hs, h1, -, hk⟩ := dkid_scan h
  rw [hc]
  refine ⟨fun j => k + 1 + (scan j (l.drop (k + 1))).getD 0, by simp only; rw [scan_0]; rfl, by simp only; rw [hs]; simp only [Option.getD_some]; omega, fun j hj => ?_⟩
  obtain ⟨r, m, r1, r2, r3, r4, r5⟩ := hk j hj
  simp only
  rw [r1, r4]
  simp only [Option.getD_some]
  exact ⟨r2, m, r3, by omega, by omega⟩
/-- The branches of a typed If are Blocks. -/
theorem if_tags {vs : List Int} {N q q2 q3 : Int} (h : scan 1 (l.drop k) = some n) (hx : l[k]? = some (23, N)) (hk : 0 ≤ okind vs l k) (hq : akids l k = [q, q2, q3]) : otag l q2 = 20 ∧ otag l q3 = 20 := by
  obtain ⟨x', hx', -, -, e'⟩ := okind_kids (vs := vs) h
  obtain rfl : (23, N) = x' := by rw [hx] at hx'; exact Option.some.inj hx'
  rw [e', hq] at hk
  unfold rule at hk
  simp at hk
  have := (ifso_ge hk).2
  simp [blks] at this
  exact this
theorem otag_at {x : Nd} (hx : l[k]? = some x) : otag l k = x.1 := by
  unfold otag
  rw [List.getD_eq_getElem?_getD, Int.toNat_natCast, hx]; rfl
/-- A Block tells 0. -/
theorem blk_zero (h : scan 1 (l.drop k) = some n) (ht : otag l k = 20) (s : St) : (mean l k s).2 = 0 := by
  obtain ⟨⟨t, v⟩, hx, -, -, e⟩ := mean_kids h
  have h1 := otag_at hx
  rw [ht] at h1
  simp only at h1
  subst h1
  have hr : ∀ m ∈ (akids l k).map (mean l), Rests m := fun m hm => by
    obtain ⟨q, hq, rfl⟩ := List.mem_map.1 hm
    obtain ⟨j, n', rfl, hj⟩ := kid_node h hq
    exact fun s' hs => mean_over hj hs
  rw [e]
  show (enterM (innerM (20, v) _) s).2 = 0
  by_cases ho : s.over = true
  · rw [enter_over ho]
  have ho : s.over = false := by simpa using ho
  by_cases h0 : s.fuel = 0
  · rw [enter_out ho h0]
  rw [Mach.enter_on ho h0]
  show (seqM _ s.tick).2 = 0
  rw [seq_run _ hr]
end
end Go.Proofs.Ytodejloonfkkmaa.Dir
