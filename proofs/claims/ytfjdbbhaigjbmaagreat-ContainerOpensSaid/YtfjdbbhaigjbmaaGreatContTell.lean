/-
  Package container, walked: the frames of a text, told to a loop's body one behind the other, each with what is wrong with it.
-/
import Derived.Test.YtfjdbbhaigjbmaaGreatContLaid
import Derived.Test.YtfjdbbhaigjbmaaGreatContFrames
import Derived.Test.YtfjdbbhaigjbmaaGreatFrameH
namespace Go.Proofs.YtfjdbbhaigjbmaaGreat.Cont
open Go.RowKit Go.Shelf Leb Mem _root_.Go.Proofs.YtfjdbbhaigjbmaaGreat.Frame _root_.Go.Proofs.YtfjdbbhaigjbmaaGreat.RangeP

attribute [local go_sem] Oper.semAt_some

/-- A section and what is wrong with it, handed to a loop's body. -/
def told3 (x : Sec × Int) : Array Value := #[.agg #[.int .i64 x.1.1, .string (str x.1.2)], .int .i64 x.2]
theorem fold_told3 (T : Array Value) (p q : Nat) (x : Sec × Int) : (#[p, q].zip (told3 x)).foldl (fun t (p, v) => t.setIfInBounds p v) T = (T.setIfInBounds p (.agg #[.int .i64 x.1.1, .string (str x.1.2)])).setIfInBounds q (.int .i64 x.2) := by
  simp [told3]
/-- Sections with nothing wrong. -/
def oks (l : List Sec) : List (Sec × Int) := l.map fun x => (x, 0)
theorem oks_snoc (l : List Sec) (x : Sec) : oks (l ++ [x]) = oks l ++ [(x, 0)] := by simp [oks]
/-- What may have been told so far. -/
def Told (S : List UInt8) (ys : List (Sec × Int)) : Prop := ∃ (pre : List Sec) (x : Sec) (c q : Int) (a : Nat), ys = oks pre ++ [(x, c)] ∧ Upto S S.length a pre ∧ a < S.length ∧ fget S a = (x, q, c) ∧ pre.length ≤ a
/-- What has been told in all. -/
def Done (S : List UInt8) (ys : List (Sec × Int)) : Prop := (∃ pre, ys = oks pre ∧ gets S S.length 7 = some pre) ∨ ∃ pre x c, ys = pre ++ [(x, c)] ∧ c ≠ 0

set_option maxRecDepth 100000 in
set_option maxHeartbeats 2000000 in
theorem frames1_tells (Bn : Nat) (s : ByteArray) (hs : s.size ≤ 1073741824) (w : World) (hBn : Bn < w.heap.size) (hc : w.cell? ⟨Bn, 0, none⟩ = some (.string s)) :
    Tells Fence.wide 3 Tryz.prog 59 #[.pointer (some ⟨Bn, 0, none⟩)] told3 (Done s.data.toList) (Told s.data.toList) (· = Bn) w := by
  intro l J Jp W Φ₀ hW hJs hJ hY h0 hO
  have hlen := len_of s
  have HG := Lib.hid (fun a W => Get_any s a hs W)
  unfold FGetEnds at HG
  have hc' := (hW.cell (p := ⟨Bn, 0, none⟩) hBn).trans hc
  have hBW := Nat.lt_of_lt_of_le hBn hW.size
  obtain ⟨S, hS⟩ : ∃ S, s.data.toList = S := ⟨_, rfl⟩
  rw [hS] at HG hY hlen ⊢
  have hst := Upto.start S S.length (by omega)
  clear hc hS
  refine callsIn_of_wp Tryz.func59 rfl trivial ?_ rfl
  simp only [Tryz.ntmps59, List.size_toArray, List.length_cons, List.length_nil, Nat.reduceAdd, Nat.reduceSub, Array.replicate_succ, Array.replicate_zero, List.push_toArray, List.append_toArray, List.nil_append, List.cons_append]
  gi_wp2
  gi_loopw [3] (fun a wr => ∃ (k : Nat) (pre : List Sec) (Φ : Nat → Prop), 7 ≤ k ∧ a = .int .i64 k ∧ Upto S S.length k pre ∧ k ≤ s.size + 7 ∧ J (oks pre) Φ wr ∧ pre.length ≤ k ∧ (∀ j, Φ j → ¬ j = Bn) ∧ Bn < wr.heap.size ∧ wr.cell? ⟨Bn, 0, none⟩ = some (.string s)) (fun a _ => s.size + 7 - (intOf a).toNat)
  case atStart => exact ⟨7, [], Φ₀, Nat.le_refl _, rfl, hst, by omega, h0, by simp, hO, hBW, hc'⟩
  case round =>
    obtain ⟨k, pre, Φ, hk7, rfl, hup, hk2, hJk, hpl, hΦ, hBr, hcr⟩ := hrel
    by_cases hlt : k < s.size
    · obtain ⟨⟨⟨t, d⟩, b, c⟩, hr⟩ : ∃ r, fget S k = r := ⟨_, rfl⟩
      have hG := fun W => HG.out (k : Int) W
      rw [hr] at hG
      have HGk := Lib.hid hG
      simp only at HGk
      have hT : Told S (oks pre ++ [((t, d), c)]) := ⟨pre, (t, d), c, b, k, rfl, hup, by omega, hr, hpl⟩
      have hYk := fun Φ W1 (h : J (oks pre) Φ W1) => hY (oks pre) ((t, d), c) Φ W1 h hT
      have HT := Lib.hid hT
      have hlt' : (k : Int) < (s.size : Int) := by omega
      obtain ⟨D, hD⟩ : ∃ D, str d = D := ⟨_, rfl⟩
      rw [hD] at HGk
      have HR := Lib.hid hr
      have HUP := Lib.hid hup
      clear hG hT hr hup hY
      have hf0 : Fence.wide.fn 60 := trivial
      gi_wp2_with (gi_at_call 60; (with_reducible refine ((callsIn_wide (n := 2)).2 (HGk.out _)).mono ?_); rintro e w1 ⟨rfl, hb1⟩)
      have hBx := hb1.alloc hb1.size (.cells #[.int .i64 t, .string D] 34)
      have hcr2 := (hBx.cell (p := ⟨Bn, 0, none⟩) hBr).trans hcr
      have hBr2 := Nat.lt_of_lt_of_le hBr hBx.size
      obtain ⟨fn, tmps, assign, body, hy, hR⟩ := hYk _ _ (hJ _ _ _ _ hJk hBx)
      clear hYk hcr
      unfold told3 at hy
      simp only [hD] at hy
      change Sem.run Tryz.prog (Instr.yield l #[.agg #[.int .i64 t, .string D], .int .i64 c]) _ = _ at hy
      generalize w1.alloc (.cells #[.int .i64 t, .string D] 34) = W1 at *
      rw [hy]
      refine ⟨(fun e => by cases e), hR.mono ?_⟩
      rintro e W3 (⟨rfl, Φ2, hJ3, hK3, hs3⟩ | ⟨ch, rfl, hJ3⟩)
      · have hBi : ¬ Φ Bn := fun h => hΦ _ h rfl
        have hcr3 := (hK3.cell (p := ⟨Bn, 0, none⟩) hBr2 hBi).trans hcr2
        have hBr3 := Nat.lt_of_lt_of_le hBr2 hK3.size
        have hΦ3 : ∀ j, Φ2 j → ¬ j = Bn := by
          rintro j h rfl
          rcases hs3 _ h with h | h
          · exact hBi h
          · omega
        by_cases hc0 : c = 0
        · subst hc0
          obtain ⟨g1, g2, g3, g4, g5, g6, g7⟩ := fget_only S k (by rw [HR.out])
          rw [HR.out] at g2 g3
          simp only at g2 g3
          obtain ⟨q, rfl⟩ := Int.eq_ofNat_of_zero_le (show 0 ≤ b by omega)
          have HU := Lib.hid (HUP.out.more (by omega) HR.out (by omega))
          have hJ4 : J (oks (pre ++ [(t, d)])) Φ2 W3 := by rw [oks_snoc]; exact hJ3
          clear hy hR hJ3 hK3 hs3 hcr2 g4 g5 g6 g7 hD
          gi_wp2
          go_roundw
          case rel => exact ⟨q, pre ++ [(t, d)], Φ2, by omega, by go_num, HU.out, by omega, hJ4, by rw [List.length_append, List.length_singleton]; omega, hΦ3, hBr3, hcr3⟩
          case measure => simp [intOf]; omega
        · have hcb : (c != 0) = true := by simpa using hc0
          clear hy hR hK3 hs3 hcr2
          gi_wp2
          refine bodyPost_ret (results_none rfl _ _ _) rfl ?_
          exact .inl ⟨_, oks pre ++ [((t, d), c)], Φ2, rfl, .inr ⟨oks pre, (t, d), c, rfl, hc0⟩, hJ3⟩
      · gi_wp2
        exact ⟨rfl, .inr ⟨ch, _, rfl, HT.out, hJ3⟩⟩
    · have hD := hup.done (by omega)
      have hlt' : ¬ (k : Int) < (s.size : Int) := by omega
      clear hY
      gi_wp2
      go_end0
      exact .inl ⟨⟨_, rfl⟩, oks pre, .inl ⟨pre, rfl, hD⟩, Φ, hJk⟩

theorem frames_any (s : ByteArray) (w : World) : Calls Tryz.prog 45 #[.string s] w fun e w' => e = .returned (.func (.func 59) #[] #[.pointer (some ⟨w.heap.size, 0, none⟩)]) ∧ w' = w.alloc (.cells #[.string s] 9) := by
  go_enter Tryz.func45, Tryz.ntmps45
  go_wp2
  go_ret
  exact ⟨rfl, rfl⟩

end Go.Proofs.YtfjdbbhaigjbmaaGreat.Cont
