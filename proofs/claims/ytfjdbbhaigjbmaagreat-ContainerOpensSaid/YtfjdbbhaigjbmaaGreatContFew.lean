/-
  The reference of containers, walked: are sections few, may they be sealed, are they alike.
-/
import Derived.Test.YtfjdbbhaigjbmaaGreatFrameArgs
import Derived.Test.YtfjdbbhaigjbmaaGreatContMath
import Derived.Deep.DrawnRows
namespace Go.Proofs.YtfjdbbhaigjbmaaGreat.Cont
open Go.RowKit Leb Mem _root_.Go.Proofs.YtfjdbbhaigjbmaaGreat.Frame

theorem Sects.below {w w' : World} {B : Nat} {A : Option Addr} {xs : List Sect} (h : Sects w B A xs) (hb : Below B w w') : Sects w' B A xs := h.keep hb.block
theorem Sects.at {w w' : World} {A : Option Addr} {xs : List Sect} (h : Sects w w.heap.size A xs) (hb : Below w.heap.size w w') : Sects w' w'.heap.size A xs := by
  intro i x hx
  obtain ⟨ad, e, hlt, r⟩ := (Sects.below h hb) i x hx
  exact ⟨ad, e, Nat.lt_of_lt_of_le hlt hb.size, r⟩

/-- Sections as plain values. -/
def secs (xs : List Sect) : List Sec := xs.map fun x => (x.t, x.d.data.toList)

/-- How many letters in all. -/
def total (xs : List Sect) : Nat := (xs.map (·.d.size)).sum
theorem total_take (xs : List Sect) (i : Nat) (x : Sect) (h : xs[i]? = some x) : total (xs.take (i + 1)) = total (xs.take i) + x.d.size := by
  obtain ⟨hi, rfl⟩ := List.getElem?_eq_some_iff.1 h
  unfold total
  rw [List.take_succ_eq_append_getElem hi, List.map_append, List.sum_append]
  simp
theorem total_take_le (xs : List Sect) (i : Nat) : total (xs.take i) ≤ total xs := by
  conv => rhs; rw [← List.take_append_drop i xs]
  unfold total
  rw [List.map_append, List.sum_append]
  omega

/-- Are they few? -/
def fewB (xs : List Sect) : Bool := decide (xs.length ≤ 41 ∧ total xs ≤ 3000)

set_option maxRecDepth 100000 in
theorem Few_any (A : Option Addr) (cap : Nat) (xs : List Sect) (w : World) (hx : Sects w w.heap.size A xs) (hlen : xs.length ≤ maxLen) :
    Calls Tryz.prog 6 #[.slice A xs.length cap] w fun e w' => e = .returned (.bool (fewB xs)) ∧ w = w' := by
  unfold maxLen at hlen
  have HX := Lib.hid hx
  clear hx
  go_enter Tryz.func6, Tryz.ntmps6
  go_wp2
  go_loop [3, 4] (fun n i => ∃ k : Nat, k ≤ xs.length ∧ k ≤ 41 ∧ total (xs.take k) ≤ 3000 ∧ i = .int .i64 k ∧ n = .int .i64 (total (xs.take k))) (fun _ i => xs.length - (intOf i).toNat)
  case atStart => exact ⟨0, by omega, by omega, by simp [total], rfl, rfl⟩
  case round =>
    obtain ⟨k, hk, h41, ht, rfl, rfl⟩ := hrel
    by_cases hlt : k < xs.length
    · obtain ⟨x, hxk⟩ : ∃ x, xs[k]? = some x := ⟨_, List.getElem?_eq_getElem hlt⟩
      obtain ⟨ad, rfl, hb, hs1, h0, h1⟩ := HX.out k x hxk
      have hN := total_take xs k x hxk
      have hT := total_take_le xs (k + 1)
      clear hxk
      by_cases h40 : 40 < k
      · have HF := Lib.hid (show fewB xs = false by unfold fewB; rw [decide_eq_false]; omega)
        clear hN hT
        go_wp2
        go_ret
        exact ⟨by rw [HF.out]; rfl, rfl⟩
      · by_cases h3 : 3000 < total (xs.take k) + x.d.size
        · have HF := Lib.hid (show fewB xs = false by unfold fewB; rw [decide_eq_false]; omega)
          have h3' : (3000 : Int) < (total (xs.take k) : Int) + (x.d.size : Int) := by omega
          clear hN hT
          go_wp2
          go_ret
          exact ⟨by rw [HF.out]; rfl, rfl⟩
        · have h3' : ¬ (3000 : Int) < (total (xs.take k) : Int) + (x.d.size : Int) := by omega
          have HN := Lib.hid hN
          clear hN hT
          go_wp2
          go_round
          case rel => exact ⟨k + 1, by omega, by omega, by rw [HN.out]; omega, by go_num, by rw [HN.out]; go_num⟩
          case measure => simp [intOf]; omega
    · have hk9 : k = xs.length := by omega
      subst hk9
      have HF := Lib.hid (show fewB xs = true by unfold fewB; rw [decide_eq_true]; rw [List.take_length] at ht; omega)
      go_wp2
      go_ret
      exact ⟨by rw [HF.out]; rfl, rfl⟩

theorem steps_snoc : ∀ (l : List Sec) (x : Sec), steps (l ++ [x]) = (steps l && okType x && (match l.getLast? with | none => true | some y => decide (y.1 < x.1)))
  | [], x => by simp [steps]
  | [y], x => by
    simp only [List.cons_append, List.nil_append, steps, List.getLast?_singleton]
    cases okType y <;> cases okType x <;> simp
  | y :: z :: l, x => by
    have := steps_snoc (z :: l) x
    simp only [List.cons_append] at this ⊢
    simp only [steps]
    rw [this, List.getLast?_cons_cons]
    cases okType y <;> cases decide (y.1 < z.1) <;> simp
theorem steps_part : ∀ (a b : List Sec), steps (a ++ b) = true → steps a = true
  | [], _, _ => rfl
  | [y], [], h => h
  | [y], z :: b, h => by
    simp only [List.cons_append, List.nil_append, steps, Bool.and_eq_true] at h
    simp [steps, h.1.1]
  | y :: z :: a, b, h => by
    simp only [List.cons_append, steps, Bool.and_eq_true] at h ⊢
    exact ⟨h.1, steps_part (z :: a) b h.2⟩
theorem secs_take (xs : List Sect) (i : Nat) (x : Sect) (h : xs[i]? = some x) : secs (xs.take (i + 1)) = secs (xs.take i) ++ [(x.t, x.d.data.toList)] := by
  obtain ⟨hi, rfl⟩ := List.getElem?_eq_some_iff.1 h
  unfold secs
  rw [List.take_succ_eq_append_getElem hi, List.map_append]
  rfl
theorem steps_bad {xs : List Sect} {i : Nat} (h : steps (secs (xs.take i)) = false) : ord (secs xs) = false := by
  cases ho : ord (secs xs) with
  | false => rfl
  | true =>
    simp only [ord, Bool.and_eq_true] at ho
    rw [show secs xs = secs (xs.take i) ++ secs (xs.drop i) by unfold secs; rw [← List.map_append, List.take_append_drop]] at ho
    rw [steps_part _ _ ho.2] at h
    cases h
theorem secs_last (xs : List Sect) (i : Nat) (y : Sect) (h : xs[i]? = some y) : (secs (xs.take (i + 1))).getLast? = some (y.t, y.d.data.toList) := by
  rw [secs_take xs i y h, List.getLast?_append]
  rfl

set_option maxRecDepth 100000 in
theorem ordered_any (A : Option Addr) (cap : Nat) (xs : List Sect) (w : World) (hx : Sects w w.heap.size A xs) (hlen : xs.length ≤ maxLen) :
    Calls Tryz.prog 17 #[.slice A xs.length cap] w fun e w' => e = .returned (.bool (ord (secs xs))) ∧ Below w.heap.size w w' := by
  unfold maxLen at hlen
  have HX := Lib.hid hx
  clear hx
  go_enter Tryz.func17, Tryz.ntmps17
  go_wp2
  go_loopw [3] (fun i wr => ∃ k : Nat, k ≤ xs.length ∧ steps (secs (xs.take k)) = true ∧ i = .int .i64 k ∧ Below w.heap.size w wr) (fun i _ => xs.length - (intOf i).toNat)
  case atStart => exact ⟨0, by omega, rfl, rfl, Below.refl _ _⟩
  case round =>
    obtain ⟨k, hk, hs, rfl, hB⟩ := hrel
    by_cases hlt : k < xs.length
    · obtain ⟨x, hxk⟩ : ∃ x, xs[k]? = some x := ⟨_, List.getElem?_eq_getElem hlt⟩
      obtain ⟨ad, rfl, hb, hs1, h0, h1⟩ := (Sects.below HX.out hB) k x hxk
      have hsn := steps_snoc (secs (xs.take k)) (x.t, x.d.data.toList)
      rw [← secs_take xs k x hxk, hs] at hsn
      by_cases ho : 1 ≤ x.t ∧ x.t ≤ 255
      · obtain ⟨ho1, ho2⟩ := ho
        have n1 : decide (x.t < 1) = false := decide_eq_false (by omega)
        have n2 : decide (255 < x.t) = false := decide_eq_false (by omega)
        have hok : okType (x.t, x.d.data.toList) = true := by simp [okType, ho1, ho2]
        rw [hok] at hsn
        rcases Nat.eq_zero_or_pos k with k0 | k0
        · have HS := Lib.hid (show steps (secs (xs.take (k + 1))) = true by rw [hsn, k0]; rfl)
          have hz : decide ((0 : Int) < (k : Int)) = false := decide_eq_false (by omega)
          have hz2 : decide (0 < k) = false := decide_eq_false (by omega)
          have hz3 : ¬ 0 < k := by omega
          have hz4 : ¬ (0 : Int) < (k : Int) := by omega
          clear hsn hxk k0
          go_wp2
          go_quiet (fail)
          go_wp2
          go_roundw
          case rel => exact ⟨k + 1, by omega, HS.out, by go_num, belowN hB _⟩
          case measure => simp [intOf]; omega
        · obtain ⟨j, hj⟩ : ∃ j, k = j + 1 := ⟨k - 1, by omega⟩
          obtain ⟨y, hyk⟩ : ∃ y, xs[j]? = some y := ⟨_, List.getElem?_eq_getElem (show j < xs.length by omega)⟩
          obtain ⟨ad', e, hb', hs1', g0, g1⟩ := (Sects.below HX.out hB) j y hyk
          injection e with e
          subst e
          rw [show (secs (xs.take k)).getLast? = some (y.t, y.d.data.toList) by rw [hj]; exact secs_last xs j y hyk] at hsn
          simp only [Bool.true_and] at hsn
          have ej : (k : Int) - 1 = (j : Int) := by omega
          have hz : decide ((0 : Int) < (k : Int)) = true := decide_eq_true (by omega)
          have hjl : (j : Int) < (xs.length : Int) := by omega
          by_cases hyx : y.t < x.t
          · have HS := Lib.hid (show steps (secs (xs.take (k + 1))) = true by rw [hsn]; simp [hyx])
            have hnle : decide (x.t ≤ y.t) = false := decide_eq_false (by omega)
            clear hsn hxk hyk hj
            go_wp2
            go_quiet (fail)
            go_wp2
            go_roundw
            case rel => exact ⟨k + 1, by omega, HS.out, by go_num, belowN hB _⟩
            case measure => simp [intOf]; omega
          · have HS := Lib.hid (steps_bad (show steps (secs (xs.take (k + 1))) = false by rw [hsn]; simp; omega))
            have hle : decide (x.t ≤ y.t) = true := decide_eq_true (by omega)
            clear hsn hxk hyk hj
            go_wp2
            go_quiet (fail)
            go_wp2
            go_ret
            exact ⟨by rw [HS.out]; rfl, belowN hB _⟩
      · have HS := Lib.hid (steps_bad (show steps (secs (xs.take (k + 1))) = false by
          rw [hsn, show okType (x.t, x.d.data.toList) = false by simp [okType]; omega]; rfl))
        clear hsn hxk
        rcases (show x.t < 1 ∨ (1 ≤ x.t ∧ 255 < x.t) by omega) with h | ⟨h, h'⟩
        · have n1 : decide (x.t < 1) = true := decide_eq_true h
          go_wp2
          go_quiet (fail)
          go_wp2
          go_ret
          exact ⟨by rw [HS.out]; rfl, belowN hB _⟩
        · have n1 : decide (x.t < 1) = false := decide_eq_false (by omega)
          have n2 : decide (255 < x.t) = true := decide_eq_true h'
          go_wp2
          go_quiet (fail)
          go_wp2
          go_ret
          exact ⟨by rw [HS.out]; rfl, belowN hB _⟩
    · have hk9 : k = xs.length := by omega
      subst hk9
      have hF : ord (secs xs) = (decide (1 ≤ xs.length) && decide (xs.length ≤ 16)) := by
        rw [List.take_length] at hs
        unfold ord
        rw [hs, show (secs xs).length = xs.length by simp [secs]]
        simp
      by_cases h1 : 1 ≤ xs.length
      · have HF := Lib.hid (show ord (secs xs) = decide ((xs.length : Int) ≤ 16) by
          rw [hF, decide_eq_true h1, Bool.true_and]; apply decide_eq_decide.2; omega)
        have h1' : (1 : Int) ≤ (xs.length : Int) := by omega
        clear hF
        go_wp2
        go_ret
        exact ⟨by rw [HF.out]; rfl, hB⟩
      · have HF := Lib.hid (show ord (secs xs) = false by rw [hF, decide_eq_false h1, Bool.false_and])
        have h1' : (xs.length : Int) < 1 := by omega
        clear hF
        go_wp2
        go_ret
        exact ⟨by rw [HF.out]; rfl, hB⟩

theorem secs_get (xs : List Sect) (i : Nat) (x : Sect) (h : xs[i]? = some x) : (secs xs)[i]? = some (x.t, x.d.data.toList) := by
  unfold secs
  rw [List.getElem?_map, h]
  rfl
theorem same_bad {xs ys : List Sect} {i : Nat} {x y : Sect} (hx : xs[i]? = some x) (hy : ys[i]? = some y) (h : (x.t, x.d.data.toList) ≠ (y.t, y.d.data.toList)) : decide (secs xs = secs ys) = false := by
  apply decide_eq_false
  intro e
  have h1 := secs_get xs i x hx
  rw [e, secs_get ys i y hy] at h1
  injection h1 with h1
  exact h h1.symm
theorem sect_beq_ne {a b : ByteArray} (h : ¬ a = b) : (a.toList == b.toList) = false := by
  rw [beq_eq_false_iff_ne]
  intro q
  rw [ByteArray.toList_eq, ByteArray.toList_eq] at q
  exact h (ByteArray.ext (Array.toList_inj.1 q))

set_option maxRecDepth 100000 in
theorem Same_any (A : Option Addr) (cap : Nat) (xs : List Sect) (A' : Option Addr) (cap' : Nat) (ys : List Sect) (w : World) (hx : Sects w w.heap.size A xs) (hy : Sects w w.heap.size A' ys) (hlen : xs.length ≤ maxLen) :
    Calls Tryz.prog 13 #[.slice A xs.length cap, .slice A' ys.length cap'] w fun e w' => e = .returned (.bool (decide (secs xs = secs ys))) ∧ Below w.heap.size w w' := by
  unfold maxLen at hlen
  by_cases hll : xs.length = ys.length
  · have HX := Lib.hid hx
    have HY := Lib.hid hy
    have HLL := Lib.hid hll
    clear hx hy
    obtain ⟨n, hn⟩ : ∃ n, n = xs.length := ⟨_, rfl⟩
    have hn' : ys.length = n := by omega
    rw [hn', ← hn]
    have HN := Lib.hid hn
    have HN' := Lib.hid hn'
    rw [← hn] at hlen
    clear hn hn' hll
    go_enter Tryz.func13, Tryz.ntmps13
    go_wp2
    go_loopw [5] (fun i wr => ∃ k : Nat, k ≤ n ∧ secs (xs.take k) = secs (ys.take k) ∧ i = .int .i64 k ∧ Below w.heap.size w wr) (fun i _ => n - (intOf i).toNat)
    case atStart => exact ⟨0, by omega, rfl, rfl, Below.refl _ _⟩
    case round =>
      obtain ⟨k, hk, hs, rfl, hB⟩ := hrel
      by_cases hlt : k < n
      · obtain ⟨x, hxk⟩ : ∃ x, xs[k]? = some x := ⟨_, List.getElem?_eq_getElem (show k < xs.length by rw [← HN.out]; exact hlt)⟩
        obtain ⟨y, hyk⟩ : ∃ y, ys[k]? = some y := ⟨_, List.getElem?_eq_getElem (show k < ys.length by rw [HN'.out]; exact hlt)⟩
        obtain ⟨ad, rfl, hb, hs1, h0, h1⟩ := (Sects.below HX.out hB) k x hxk
        obtain ⟨ad', rfl, hb', hs1', g0, g1⟩ := (Sects.below HY.out hB) k y hyk
        by_cases htu : x.t = y.t
        · by_cases hdf : x.d = y.d
          · have HS := Lib.hid (show secs (xs.take (k + 1)) = secs (ys.take (k + 1)) by rw [secs_take xs k x hxk, secs_take ys k y hyk, hs, htu, hdf])
            rw [← htu] at g0
            rw [← hdf] at g1
            clear hxk hyk hs htu hdf
            go_wp2
            go_quiet (fail)
            go_wp2
            go_roundw
            case rel => exact ⟨k + 1, by omega, HS.out, by go_num, belowN hB _⟩
            case measure => simp [intOf]; omega
          · have HS := Lib.hid (same_bad hxk hyk (by simp; intro _ q; exact hdf (ByteArray.ext q)))
            have e2 := sect_beq_ne hdf
            rw [← htu] at g0
            clear hxk hyk hs htu hdf
            go_wp2
            go_quiet (fail)
            go_wp2
            go_ret
            exact ⟨by rw [HS.out]; rfl, belowN hB _⟩
        · have HS := Lib.hid (same_bad hxk hyk (by simp; intro q; exact absurd q htu))
          have e2 : (x.t == y.t) = false := by simpa using htu
          clear hxk hyk hs htu
          go_wp2
          go_quiet (fail)
          go_wp2
          go_ret
          exact ⟨by rw [HS.out]; rfl, belowN hB _⟩
      · have hk9 : k = n := by omega
        have HF := Lib.hid (show decide (secs xs = secs ys) = true by
          apply decide_eq_true
          rw [hk9] at hs
          have h1 := HN.out; have h2 := HN'.out
          rw [List.take_of_length_le (by omega), List.take_of_length_le (by omega)] at hs
          exact hs)
        clear hs
        subst hk9
        go_wp2
        go_ret
        exact ⟨by rw [HF.out]; rfl, hB⟩
  · have HF := Lib.hid (show decide (secs xs = secs ys) = false by
      apply decide_eq_false
      intro e
      have := congrArg List.length e
      simp [secs] at this
      exact hll this)
    have hne : ((xs.length : Int) == (ys.length : Int)) = false := by rw [beq_eq_false_iff_ne]; omega
    have hne2 : ((xs.length : Int) != (ys.length : Int)) = true := by simp; omega
    go_enter Tryz.func13, Tryz.ntmps13
    go_wp2
    go_ret
    exact ⟨by rw [HF.out]; rfl, Below.refl _ _⟩

end Go.Proofs.YtfjdbbhaigjbmaaGreat.Cont
