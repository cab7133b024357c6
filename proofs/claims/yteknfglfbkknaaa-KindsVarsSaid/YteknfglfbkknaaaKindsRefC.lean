/-
  The reference of kinds, walked: variables, a program, two programs.
-/
import Derived.Test.YteknfglfbkknaaaKindsOfA
namespace Go.Proofs.Yteknfglfbkknaaa.Kinds
open Go.RowKit Mem _root_.Go.Proofs.Yteknfglfbkknaaa.Arena
set_option linter.unusedVariables false

/-- May a variable be? -/
def vgood (ps : Int) (i : Nat) (x : Int) : Bool := decide (0 ≤ x ∧ x ≤ 9 ∧ ((i : Int) < ps → x = 0))
/-- May the first so many be? -/
def vsgood (ps : Int) (vs : List Int) : Nat → Bool
  | 0 => true
  | k + 1 => vsgood ps vs k && vgood ps k (vs.getD k 0)
def avars (ps : Int) (vs : List Int) : Int := if ps < 0 ∨ (vs.length : Int) < ps ∨ 12 < vs.length then 14 else if vsgood ps vs vs.length = true then 0 else 14
theorem vsgood_le {ps : Int} {vs : List Int} {k n : Nat} (h : vsgood ps vs n = true) (hk : k ≤ n) : vsgood ps vs k = true := by
  induction n with
  | zero => obtain rfl : k = 0 := by omega
            exact h
  | succ n ih =>
    rw [vsgood, Bool.and_eq_true] at h
    rcases Nat.eq_or_lt_of_le hk with rfl | q
    · rw [vsgood, h.1, h.2]; rfl
    · exact ih h.1 (by omega)
theorem vsgood_not {ps : Int} {vs : List Int} {k n : Nat} (hk : k < n) (h : vgood ps k (vs.getD k 0) = false) : vsgood ps vs n = false := by
  cases hb : vsgood ps vs n with
  | false => rfl
  | true =>
    have := vsgood_le hb (show k + 1 ≤ n by omega)
    rw [vsgood, h, Bool.and_false] at this
    exact this.symm
/-- What is wrong with a program. -/
def pcheck (ps : Int) (vs : List Int) (xs : List Nd) : Int := if acheck xs ≠ 0 then acheck xs else if avars ps vs ≠ 0 then avars ps vs else if otag xs 0 ≠ 20 ∨ okind vs xs 0 ≠ 2 then 15 else 0

set_option maxRecDepth 100000 in
set_option maxHeartbeats 2000000 in
theorem ref_Vars_any (p : Prg) (w : World) (hp : p.Ok w) :
    Calls Try.prog 15 #[.agg #[.int .i64 p.ps, .slice p.A p.vs.length p.c, .slice p.B p.xs.length p.e]] w fun e w' => e = .returned (.int .i64 (avars p.ps p.vs)) ∧ Below w.heap.size w w' := by
  have hB0 : Below w.heap.size w (w.alloc (.cells #[.int .i64 p.ps, .slice p.A p.vs.length p.c, .slice p.B p.xs.length p.e] 25)) := (Below.refl _ _).alloc (Nat.le_refl _) _
  have bX := Blk.new w 25 #[.int .i64 p.ps, .slice p.A p.vs.length p.c, .slice p.B p.xs.length p.e]
  have hX := (hp.at hB0).vars
  have hlv := hp.lv
  obtain ⟨b0, b1, b2⟩ := bX.three
  clear hp bX
  obtain ⟨ps, A, c, vs, B, e, xs⟩ := p
  simp only at hX hlv b0 b1 b2 ⊢
  obtain ⟨E, hE⟩ : ∃ E, avars ps vs = E := ⟨_, rfl⟩
  rw [hE]
  by_cases h1 : ps < 0
  · have HF := Lib.hid (show E = 14 by rw [← hE]; unfold avars; rw [if_pos (.inl h1)])
    clear hE
    go_enter Try.func15, Try.ntmps15
    go_wp2
    go_ret
    exact ⟨by rw [HF.out]; rfl, hB0⟩
  by_cases h2 : (vs.length : Int) < ps
  · have HF := Lib.hid (show E = 14 by rw [← hE]; unfold avars; rw [if_pos (.inr (.inl h2))])
    clear hE
    go_enter Try.func15, Try.ntmps15
    go_wp2
    go_ret
    exact ⟨by rw [HF.out]; rfl, hB0⟩
  by_cases h3 : 12 < vs.length
  · have HF := Lib.hid (show E = 14 by rw [← hE]; unfold avars; rw [if_pos (.inr (.inr h3))])
    have h3' : (12 : Int) < (vs.length : Int) := by omega
    clear hE
    go_enter Try.func15, Try.ntmps15
    go_wp2
    go_ret
    exact ⟨by rw [HF.out]; rfl, hB0⟩
  have h3' : ¬ (12 : Int) < (vs.length : Int) := by omega
  have HE := Lib.hid (show E = if vsgood ps vs vs.length = true then 0 else 14 by rw [← hE]; unfold avars; rw [if_neg (by omega)])
  clear hE
  go_enter Try.func15, Try.ntmps15
  go_wp2
  go_loop [3] (fun i => ∃ k : Nat, k ≤ vs.length ∧ i = .int .i64 k ∧ vsgood ps vs k = true) (fun i => vs.length - (intOf i).toNat)
  case atStart => exact ⟨0, by omega, rfl, rfl⟩
  case round =>
    obtain ⟨k, hk, rfl, hs⟩ := hrel
    by_cases hlt : k < vs.length
    · obtain ⟨x, hxk⟩ : ∃ x, vs[k]? = some x := ⟨_, List.getElem?_eq_getElem hlt⟩
      obtain ⟨ad, rfl, hb, g0⟩ := hX k x hxk
      have hgd : vs.getD k 0 = x := by rw [List.getD_eq_getElem?_getD, hxk]; rfl
      have i1 : (k : Int) < (vs.length : Int) := by omega
      have i2 : (0 : Int) ≤ (k : Int) := by omega
      have bad : vgood ps k x = false → E = 14 := fun h => by rw [HE.out, if_neg (by rw [vsgood_not hlt (by rw [hgd]; exact h)]; simp)]
      have good : vgood ps k x = true → vsgood ps vs (k + 1) = true := fun h => by rw [vsgood, hs, hgd, h]; rfl
      clear hxk hs
      by_cases q1 : x < 0
      · have HF := Lib.hid (bad (by unfold vgood; rw [decide_eq_false]; omega))
        clear bad good
        go_wp2
        go_ret
        exact ⟨by rw [HF.out]; rfl, hB0⟩
      by_cases q2 : 9 < x
      · have HF := Lib.hid (bad (by unfold vgood; rw [decide_eq_false]; omega))
        clear bad good
        go_wp2
        go_ret
        exact ⟨by rw [HF.out]; rfl, hB0⟩
      by_cases q3 : (k : Int) < ps
      · by_cases q4 : x = 0
        · have HS := Lib.hid (good (by unfold vgood; rw [decide_eq_true]; omega))
          subst q4
          clear bad good
          go_wp2
          go_round
          case rel => exact ⟨k + 1, by omega, by go_num, HS.out⟩
          case measure => simp [intOf]; omega
        · have HF := Lib.hid (bad (by unfold vgood; rw [decide_eq_false]; omega))
          have e2 : (x == 0) = false := by simpa using q4
          have e3 : (x != 0) = true := by simpa using q4
          clear bad good
          go_wp2
          go_ret
          exact ⟨by rw [HF.out]; rfl, hB0⟩
      · have HS := Lib.hid (good (by unfold vgood; rw [decide_eq_true]; omega))
        clear bad good
        go_wp2
        go_round
        case rel => exact ⟨k + 1, by omega, by go_num, HS.out⟩
        case measure => simp [intOf]; omega
    · have hk9 : k = vs.length := by omega
      subst hk9
      have HF := Lib.hid (show E = 0 by rw [HE.out, if_pos hs])
      have i1 : ¬ (vs.length : Int) < (vs.length : Int) := by omega
      clear hs
      go_wp2
      go_ret
      exact ⟨by rw [HF.out]; rfl, hB0⟩

set_option maxRecDepth 100000 in
theorem ref_Few_any (p : Prg) (w : World) : Calls Try.prog 10 #[.agg #[.int .i64 p.ps, .slice p.A p.vs.length p.c, .slice p.B p.xs.length p.e]] w fun e w' => e = .returned (.bool (decide (p.xs.length ≤ 60) && decide (p.vs.length ≤ 20))) ∧ Below w.heap.size w w' := by
  have hB0 : Below w.heap.size w (w.alloc (.cells #[.int .i64 p.ps, .slice p.A p.vs.length p.c, .slice p.B p.xs.length p.e] 25)) := (Below.refl _ _).alloc (Nat.le_refl _) _
  by_cases h1 : p.xs.length ≤ 60
  · have e1 : (p.xs.length : Int) ≤ 60 := by omega
    rw [decide_eq_true h1, Bool.true_and]
    by_cases h2 : p.vs.length ≤ 20
    · have e2 : (p.vs.length : Int) ≤ 20 := by omega
      rw [decide_eq_true h2]
      go_enter Try.func10, Try.ntmps10
      go_wp2
      go_ret
      exact ⟨rfl, hB0⟩
    · have e2 : ¬ (p.vs.length : Int) ≤ 20 := by omega
      rw [decide_eq_false h2]
      go_enter Try.func10, Try.ntmps10
      go_wp2
      go_ret
      exact ⟨rfl, hB0⟩
  · have e1 : ¬ (p.xs.length : Int) ≤ 60 := by omega
    rw [decide_eq_false h1, Bool.false_and]
    go_enter Try.func10, Try.ntmps10
    go_wp2
    go_ret
    exact ⟨rfl, hB0⟩

end Go.Proofs.Yteknfglfbkknaaa.Kinds
