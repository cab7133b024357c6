/-
  Nodes, and numbers, in a row: are two rows alike? The reference's, and the package's by slices.Equal, walked.
-/
import Derived.Test.YteknfglfbkknaaaArenaEnd
import Derived.Deep.QuietTactic
namespace Go.Proofs.Yteknfglfbkknaaa.Arena
open Go.RowKit Mem

theorem take_snoc {α : Type} (xs : List α) (k : Nat) (x : α) (h : xs[k]? = some x) : xs.take (k + 1) = xs.take k ++ [x] := by
  obtain ⟨hk, rfl⟩ := List.getElem?_eq_some_iff.1 h
  rw [List.take_succ_eq_append_getElem hk]
theorem rows_differ {α : Type} [DecidableEq α] {xs ys : List α} {i : Nat} {x y : α} (hx : xs[i]? = some x) (hy : ys[i]? = some y) (h : x ≠ y) : decide (xs = ys) = false := by
  apply decide_eq_false
  rintro rfl
  rw [hx] at hy
  exact h (Option.some.inj hy)
theorem rows_alike {α : Type} [DecidableEq α] {xs ys : List α} {n : Nat} (h : xs.take n = ys.take n) (h1 : n = xs.length) (h2 : ys.length = n) : decide (xs = ys) = true := by
  apply decide_eq_true
  rwa [List.take_of_length_le (by omega), List.take_of_length_le (by omega)] at h

/-- Numbers that lie in a row, all below B. -/
def IRow (w : World) (B : Nat) (A : Option Addr) (ks : List Int) : Prop :=
  ∀ (i : Nat) (x : Int), ks[i]? = some x → ∃ ad, A = some ad ∧ ad.block < B ∧ w.cell? (ad.add i) = some (.int .i64 x)
theorem IRow.keep {w w' : World} {B : Nat} {A : Option Addr} {xs : List Int} (h : IRow w B A xs) (hb : ∀ k, k < B → w'.heap[k]? = w.heap[k]?) : IRow w' B A xs := by
  intro i x hx
  obtain ⟨ad, h0, h1, h3⟩ := h i x hx
  refine ⟨ad, h0, h1, ?_⟩
  rw [← h3]
  unfold World.cell?
  rw [add_blockN, hb _ h1]
theorem IRow.below {w w' : World} {B : Nat} {A : Option Addr} {xs : List Int} (h : IRow w B A xs) (hb : Below B w w') : IRow w' B A xs := h.keep hb.block
theorem IRow.at {w w' : World} {A : Option Addr} {xs : List Int} (h : IRow w w.heap.size A xs) (hb : Below w.heap.size w w') : IRow w' w'.heap.size A xs := by
  intro i x hx
  obtain ⟨ad, e, hlt, r⟩ := (IRow.below h hb) i x hx
  exact ⟨ad, e, Nat.lt_of_lt_of_le hlt hb.size, r⟩

set_option maxRecDepth 100000 in
set_option maxHeartbeats 1000000 in
theorem ref_Same_any (A : Option Addr) (cap : Nat) (xs : List Nd) (A' : Option Addr) (cap' : Nat) (ys : List Nd) (w : World) (hx : Nodes w w.heap.size A xs) (hy : Nodes w w.heap.size A' ys) (hlen : xs.length ≤ 1000000) :
    Calls Try.prog 27 #[.slice A xs.length cap, .slice A' ys.length cap'] w fun e w' => e = .returned (.bool (decide (xs = ys))) ∧ Below w.heap.size w w' := by
  by_cases hll : xs.length = ys.length
  · have HX := Lib.hid hx
    have HY := Lib.hid hy
    clear hx hy
    obtain ⟨n, hn⟩ : ∃ n, n = xs.length := ⟨_, rfl⟩
    have hn' : ys.length = n := by omega
    rw [hn', ← hn]
    have HN := Lib.hid hn
    have HN' := Lib.hid hn'
    rw [← hn] at hlen
    clear hn hn' hll
    go_enter Try.func27, Try.ntmps27
    go_wp2
    go_loopw [5] (fun i wr => ∃ k : Nat, k ≤ n ∧ xs.take k = ys.take k ∧ i = .int .i64 k ∧ Below w.heap.size w wr) (fun i _ => n - (intOf i).toNat)
    case atStart => exact ⟨0, by omega, rfl, rfl, Below.refl _ _⟩
    case round =>
      obtain ⟨k, hk, hs, rfl, hB⟩ := hrel
      by_cases hlt : k < n
      · obtain ⟨⟨x1, x2⟩, hxk⟩ : ∃ x, xs[k]? = some x := ⟨_, List.getElem?_eq_getElem (show k < xs.length by rw [← HN.out]; exact hlt)⟩
        obtain ⟨⟨y1, y2⟩, hyk⟩ : ∃ y, ys[k]? = some y := ⟨_, List.getElem?_eq_getElem (show k < ys.length by rw [HN'.out]; exact hlt)⟩
        obtain ⟨ad, rfl, hb, h0, h1⟩ := (Nodes.below HX.out hB) k _ hxk
        obtain ⟨ad', rfl, hb', g0, g1⟩ := (Nodes.below HY.out hB) k _ hyk
        simp only at h0 h1 g0 g1
        by_cases htu : x1 = y1
        · by_cases hdf : x2 = y2
          · have HS := Lib.hid (show xs.take (k + 1) = ys.take (k + 1) by rw [take_snoc xs k _ hxk, take_snoc ys k _ hyk, hs, htu, hdf])
            subst htu hdf
            clear hxk hyk hs
            go_wp2
            go_quiet (fail)
            go_wp2
            go_roundw
            case rel => exact ⟨k + 1, by omega, HS.out, by go_num, belowN hB _⟩
            case measure => simp [intOf]; omega
          · have HS := Lib.hid (rows_differ hxk hyk (by simp; intro _; exact hdf))
            have e2 : (x2 == y2) = false := by simpa using hdf
            subst htu
            clear hxk hyk hs hdf
            go_wp2
            go_quiet (fail)
            go_wp2
            go_ret
            exact ⟨by rw [HS.out]; rfl, belowN hB _⟩
        · have HS := Lib.hid (rows_differ hxk hyk (by simp; intro q; exact absurd q htu))
          have e2 : (x1 == y1) = false := by simpa using htu
          clear hxk hyk hs htu
          go_wp2
          go_quiet (fail)
          go_wp2
          go_ret
          exact ⟨by rw [HS.out]; rfl, belowN hB _⟩
      · have hk9 : k = n := by omega
        subst hk9
        have HF := Lib.hid (rows_alike hs HN.out HN'.out)
        clear hs
        go_wp2
        go_ret
        exact ⟨by rw [HF.out]; rfl, hB⟩
  · have HF := Lib.hid (show decide (xs = ys) = false by
      apply decide_eq_false
      rintro rfl
      exact hll rfl)
    have hne : ((xs.length : Int) == (ys.length : Int)) = false := by rw [beq_eq_false_iff_ne]; omega
    have hne2 : ((xs.length : Int) != (ys.length : Int)) = true := by simp; omega
    go_enter Try.func27, Try.ntmps27
    go_wp2
    go_ret
    exact ⟨by rw [HF.out]; rfl, Below.refl _ _⟩

set_option maxRecDepth 100000 in
set_option maxHeartbeats 1000000 in
theorem equal_any (A : Option Addr) (cap : Nat) (xs : List Nd) (A' : Option Addr) (cap' : Nat) (ys : List Nd) (w : World) (hx : Nodes w w.heap.size A xs) (hy : Nodes w w.heap.size A' ys) (hlen : xs.length ≤ 1000000) :
    Calls Try.prog 54 #[.slice A xs.length cap, .slice A' ys.length cap'] w fun e w' => e = .returned (.bool (decide (xs = ys))) ∧ Below w.heap.size w w' := by
  by_cases hll : xs.length = ys.length
  · have HX := Lib.hid hx
    have HY := Lib.hid hy
    clear hx hy
    obtain ⟨n, hn⟩ : ∃ n, n = xs.length := ⟨_, rfl⟩
    have hn' : ys.length = n := by omega
    rw [hn', ← hn]
    have HN := Lib.hid hn
    have HN' := Lib.hid hn'
    rw [← hn] at hlen
    clear hn hn' hll
    go_enter Try.func54, Try.ntmps54
    go_wp2
    go_loopw [5, 13] (fun _ i wr => ∃ k : Nat, k ≤ n ∧ xs.take k = ys.take k ∧ i = .int .i64 k ∧ Below w.heap.size w wr) (fun _ i _ => n - (intOf i).toNat)
    case atStart => exact ⟨0, by omega, rfl, rfl, Below.refl _ _⟩
    case round =>
      obtain ⟨k, hk, hs, rfl, hB⟩ := hrel
      by_cases hlt : k < n
      · obtain ⟨⟨x1, x2⟩, hxk⟩ : ∃ x, xs[k]? = some x := ⟨_, List.getElem?_eq_getElem (show k < xs.length by rw [← HN.out]; exact hlt)⟩
        obtain ⟨⟨y1, y2⟩, hyk⟩ : ∃ y, ys[k]? = some y := ⟨_, List.getElem?_eq_getElem (show k < ys.length by rw [HN'.out]; exact hlt)⟩
        obtain ⟨ad, rfl, hb, h0, h1⟩ := (Nodes.below HX.out hB) k _ hxk
        obtain ⟨ad', rfl, hb', g0, g1⟩ := (Nodes.below HY.out hB) k _ hyk
        simp only at h0 h1 g0 g1
        by_cases htu : x1 = y1
        · by_cases hdf : x2 = y2
          · have HS := Lib.hid (show xs.take (k + 1) = ys.take (k + 1) by rw [take_snoc xs k _ hxk, take_snoc ys k _ hyk, hs, htu, hdf])
            subst htu hdf
            clear hxk hyk hs
            go_wp2
            go_quiet (fail)
            go_wp2
            go_roundw
            case rel => exact ⟨k + 1, by omega, HS.out, by go_num, belowN hB _⟩
            case measure => simp [intOf]; omega
          · have HS := Lib.hid (rows_differ hxk hyk (by simp; intro _; exact hdf))
            have e2 : (x2 == y2) = false := by simpa using hdf
            subst htu
            clear hxk hyk hs hdf
            go_wp2
            go_quiet (fail)
            go_wp2
            go_ret
            exact ⟨by rw [HS.out]; rfl, belowN hB _⟩
        · have HS := Lib.hid (rows_differ hxk hyk (by simp; intro q; exact absurd q htu))
          have e2 : (x1 == y1) = false := by simpa using htu
          clear hxk hyk hs htu
          go_wp2
          go_quiet (fail)
          go_wp2
          go_ret
          exact ⟨by rw [HS.out]; rfl, belowN hB _⟩
      · have hk9 : k = n := by omega
        subst hk9
        have HF := Lib.hid (rows_alike hs HN.out HN'.out)
        clear hs
        go_wp2
        go_ret
        exact ⟨by rw [HF.out]; rfl, hB⟩
  · have HF := Lib.hid (show decide (xs = ys) = false by
      apply decide_eq_false
      rintro rfl
      exact hll rfl)
    have hne : ((xs.length : Int) == (ys.length : Int)) = false := by rw [beq_eq_false_iff_ne]; omega
    have hne2 : ((xs.length : Int) != (ys.length : Int)) = true := by simp; omega
    go_enter Try.func54, Try.ntmps54
    go_wp2
    go_ret
    exact ⟨by rw [HF.out]; rfl, Below.refl _ _⟩

set_option maxRecDepth 100000 in
theorem Same_any (A : Option Addr) (cap : Nat) (xs : List Nd) (A' : Option Addr) (cap' : Nat) (ys : List Nd) (w : World) (hx : Nodes w w.heap.size A xs) (hy : Nodes w w.heap.size A' ys) (hlen : xs.length ≤ 1000000) :
    Calls Try.prog 35 #[.slice A xs.length cap, .slice A' ys.length cap'] w fun e w' => e = .returned (.bool (decide (xs = ys))) ∧ Below w.heap.size w w' := by
  have H := Lib.hid (equal_any A cap xs A' cap' ys w hx hy hlen)
  generalize decide (xs = ys) = b at *
  go_enter Try.func35, Try.ntmps35
  go_wp2_with (go_at_call 54; refine H.out.mono ?_; rintro e w1 ⟨rfl, hb⟩)
  go_ret
  exact ⟨rfl, hb⟩

set_option maxRecDepth 100000 in
set_option maxHeartbeats 1000000 in
theorem Ints_any (A : Option Addr) (cap : Nat) (xs : List Int) (A' : Option Addr) (cap' : Nat) (ys : List Int) (w : World) (hx : IRow w w.heap.size A xs) (hy : IRow w w.heap.size A' ys) (hlen : xs.length ≤ 1000000) :
    Calls Try.prog 26 #[.slice A xs.length cap, .slice A' ys.length cap'] w fun e w' => e = .returned (.bool (decide (xs = ys))) ∧ Below w.heap.size w w' := by
  by_cases hll : xs.length = ys.length
  · have HX := Lib.hid hx
    have HY := Lib.hid hy
    clear hx hy
    obtain ⟨n, hn⟩ : ∃ n, n = xs.length := ⟨_, rfl⟩
    have hn' : ys.length = n := by omega
    rw [hn', ← hn]
    have HN := Lib.hid hn
    have HN' := Lib.hid hn'
    rw [← hn] at hlen
    clear hn hn' hll
    go_enter Try.func26, Try.ntmps26
    go_wp2
    go_loopw [5] (fun i wr => ∃ k : Nat, k ≤ n ∧ xs.take k = ys.take k ∧ i = .int .i64 k ∧ Below w.heap.size w wr) (fun i _ => n - (intOf i).toNat)
    case atStart => exact ⟨0, by omega, rfl, rfl, Below.refl _ _⟩
    case round =>
      obtain ⟨k, hk, hs, rfl, hB⟩ := hrel
      by_cases hlt : k < n
      · obtain ⟨x, hxk⟩ : ∃ x, xs[k]? = some x := ⟨_, List.getElem?_eq_getElem (show k < xs.length by rw [← HN.out]; exact hlt)⟩
        obtain ⟨y, hyk⟩ : ∃ y, ys[k]? = some y := ⟨_, List.getElem?_eq_getElem (show k < ys.length by rw [HN'.out]; exact hlt)⟩
        obtain ⟨ad, rfl, hb, h0⟩ := (IRow.below HX.out hB) k _ hxk
        obtain ⟨ad', rfl, hb', g0⟩ := (IRow.below HY.out hB) k _ hyk
        by_cases htu : x = y
        · have HS := Lib.hid (show xs.take (k + 1) = ys.take (k + 1) by rw [take_snoc xs k _ hxk, take_snoc ys k _ hyk, hs, htu])
          subst htu
          clear hxk hyk hs
          go_wp2
          go_quiet (fail)
          go_wp2
          go_roundw
          case rel => exact ⟨k + 1, by omega, HS.out, by go_num, belowN hB _⟩
          case measure => simp [intOf]; omega
        · have HS := Lib.hid (rows_differ hxk hyk htu)
          have e2 : (x == y) = false := by simpa using htu
          clear hxk hyk hs htu
          go_wp2
          go_quiet (fail)
          go_wp2
          go_ret
          exact ⟨by rw [HS.out]; rfl, belowN hB _⟩
      · have hk9 : k = n := by omega
        subst hk9
        have HF := Lib.hid (rows_alike hs HN.out HN'.out)
        clear hs
        go_wp2
        go_ret
        exact ⟨by rw [HF.out]; rfl, hB⟩
  · have HF := Lib.hid (show decide (xs = ys) = false by
      apply decide_eq_false
      rintro rfl
      exact hll rfl)
    have hne : ((xs.length : Int) == (ys.length : Int)) = false := by rw [beq_eq_false_iff_ne]; omega
    have hne2 : ((xs.length : Int) != (ys.length : Int)) = true := by simp; omega
    go_enter Try.func26, Try.ntmps26
    go_wp2
    go_ret
    exact ⟨by rw [HF.out]; rfl, Below.refl _ _⟩

end Go.Proofs.Yteknfglfbkknaaa.Arena
