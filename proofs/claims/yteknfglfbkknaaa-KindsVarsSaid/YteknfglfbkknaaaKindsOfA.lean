/-
  The reference of kinds, walked: a node's kind, by recursion.
-/
import Derived.Test.YteknfglfbkknaaaKindsOf
namespace Go.Proofs.Yteknfglfbkknaaa.Kinds
open Go.RowKit Mem _root_.Go.Proofs.Yteknfglfbkknaaa.Arena
set_option linter.unusedVariables false

set_option maxRecDepth 100000 in
set_option maxHeartbeats 2000000 in
theorem of_bad (p : Prg) (a : Int) (w : World) (hp : p.Ok w) (h : aend p.xs a < 0) :
    Calls Try.prog 20 #[.agg #[.int .i64 p.ps, .slice p.A p.vs.length p.c, .slice p.B p.xs.length p.e], .int .i64 a] w fun e w' => e = .returned (.int .i64 (-1)) ∧ Below w.heap.size w w' := by
  have hB0 : Below w.heap.size w (w.alloc (.cells #[.int .i64 p.ps, .slice p.A p.vs.length p.c, .slice p.B p.xs.length p.e] 25)) := (Below.refl _ _).alloc (Nat.le_refl _) _
  have HX := Lib.hid (hp.at hB0)
  have hlx := hp.lx
  obtain ⟨E, hE⟩ : ∃ E, aend p.xs a = E := ⟨_, rfl⟩
  have HE := Lib.hid (fun W (hW : p.Ok W) => ref_End_any p.B p.e p.xs a W hW.body hlx)
  rw [hE] at HE h
  clear hE hp
  go_enter Try.func20, Try.ntmps20
  go_wp2_with (first
    | (go_at_call 40; refine (HE.out _ HX.out).mono ?_; rintro e w2 ⟨rfl, hb2⟩))
  go_ret
  exact ⟨rfl, hB0.trans (hb2.mono hB0.size)⟩

theorem fst_kids (vs : List Int) (xs : List Nd) (ks : List Int) : (ks.map fun q => (okind vs xs q, otag xs q)).map Prod.fst = ks.map (okind vs xs) := by
  rw [List.map_map]; rfl
theorem blks_kids (vs : List Int) (xs : List Nd) (ks : List Int) : blks (ks.map fun q => (okind vs xs q, otag xs q)) = tags xs (ks.drop 1) := by
  unfold blks tags
  rw [← List.map_drop, List.all_map]
  rfl

set_option maxRecDepth 100000 in
theorem of_node (p : Prg) (k : Nat) (x : Nd) (ks : List Int) (w : World) (hp : p.Ok w) (h0 : 0 ≤ ar x) (hN : NodeAt p k x.1 x.2 ks) (hA : Asks p ks) :
    Calls Try.prog 20 #[.agg #[.int .i64 p.ps, .slice p.A p.vs.length p.c, .slice p.B p.xs.length p.e], .int .i64 k] w fun e w' => e = .returned (.int .i64 (rule p.vs x (ks.map fun q => (okind p.vs p.xs q, otag p.xs q)))) ∧ Below w.heap.size w w' := by
  obtain ⟨t, n⟩ := x
  simp only at hN
  have e1 := fst_kids p.vs p.xs ks
  have e2 := blks_kids p.vs p.xs ks
  by_cases h : t < 1 ∨ 26 < t
  · rw [ar_else h] at h0; omega
  · obtain ⟨m, rfl⟩ := Int.eq_ofNat_of_zero_le (show 0 ≤ t by omega)
    rcases (show m = 1 ∨ m = 2 ∨ m = 3 ∨ m = 4 ∨ m = 5 ∨ m = 6 ∨ m = 7 ∨ m = 8 ∨ m = 9 ∨ m = 10 ∨ m = 11 ∨ m = 12 ∨ m = 13 ∨ m = 14 ∨ m = 15 ∨ m = 16 ∨ m = 17 ∨ m = 18 ∨ m = 19 ∨ m = 20 ∨ m = 21 ∨ m = 22 ∨ m = 23 ∨ m = 24 ∨ m = 25 ∨ m = 26 by omega) with rfl | rfl | rfl | rfl | rfl | rfl | rfl | rfl | rfl | rfl | rfl | rfl | rfl | rfl | rfl | rfl | rfl | rfl | rfl | rfl | rfl | rfl | rfl | rfl | rfl | rfl
    · rw [show rule p.vs (((1 : Nat) : Int), n) (ks.map fun q => (okind p.vs p.xs q, otag p.xs q)) = 0 by unfold rule; simp only [e1, e2]; rfl]
      exact of_1 p k n ks w hp hN hA
    · rw [show rule p.vs (((2 : Nat) : Int), n) (ks.map fun q => (okind p.vs p.xs q, otag p.xs q)) = 1 by unfold rule; simp only [e1, e2]; rfl]
      exact of_2 p k n ks w hp hN hA
    · rw [show rule p.vs (((3 : Nat) : Int), n) (ks.map fun q => (okind p.vs p.xs q, otag p.xs q)) = ifso (vtyp p.vs n = 0 ∨ vtyp p.vs n = 1) (vtyp p.vs n) by unfold rule; simp only [e1, e2]; rfl]
      exact of_3 p k n ks w hp hN hA
    · rw [show rule p.vs (((4 : Nat) : Int), n) (ks.map fun q => (okind p.vs p.xs q, otag p.xs q)) = ifso (0 < asz (vtyp p.vs n) ∧ ks.map (okind p.vs p.xs) = [0]) 0 by unfold rule; simp only [e1, e2]; rfl]
      exact of_4 p k n ks w hp hN hA
    · rw [show rule p.vs (((5 : Nat) : Int), n) (ks.map fun q => (okind p.vs p.xs q, otag p.xs q)) = ifso (ks.map (okind p.vs p.xs) = [0]) 0 by unfold rule; simp only [e1, e2]; rfl]
      exact of_5 p k n ks w hp hN hA
    · rw [show rule p.vs (((6 : Nat) : Int), n) (ks.map fun q => (okind p.vs p.xs q, otag p.xs q)) = ifso (ks.map (okind p.vs p.xs) = [1]) 1 by unfold rule; simp only [e1, e2]; rfl]
      exact of_6 p k n ks w hp hN hA
    · rw [show rule p.vs (((7 : Nat) : Int), n) (ks.map fun q => (okind p.vs p.xs q, otag p.xs q)) = ifso (ks.map (okind p.vs p.xs) = [0, 0]) 0 by unfold rule; simp only [e1, e2]; rfl]
      exact of_7 p k n ks w hp hN hA
    · rw [show rule p.vs (((8 : Nat) : Int), n) (ks.map fun q => (okind p.vs p.xs q, otag p.xs q)) = ifso (ks.map (okind p.vs p.xs) = [0, 0]) 0 by unfold rule; simp only [e1, e2]; rfl]
      exact of_8 p k n ks w hp hN hA
    · rw [show rule p.vs (((9 : Nat) : Int), n) (ks.map fun q => (okind p.vs p.xs q, otag p.xs q)) = ifso (ks.map (okind p.vs p.xs) = [0, 0]) 0 by unfold rule; simp only [e1, e2]; rfl]
      exact of_9 p k n ks w hp hN hA
    · rw [show rule p.vs (((10 : Nat) : Int), n) (ks.map fun q => (okind p.vs p.xs q, otag p.xs q)) = ifso (ks.map (okind p.vs p.xs) = [0, 0]) 0 by unfold rule; simp only [e1, e2]; rfl]
      exact of_10 p k n ks w hp hN hA
    · rw [show rule p.vs (((11 : Nat) : Int), n) (ks.map fun q => (okind p.vs p.xs q, otag p.xs q)) = ifso (ks.map (okind p.vs p.xs) = [0, 0]) 0 by unfold rule; simp only [e1, e2]; rfl]
      exact of_11 p k n ks w hp hN hA
    · rw [show rule p.vs (((12 : Nat) : Int), n) (ks.map fun q => (okind p.vs p.xs q, otag p.xs q)) = ifso (ks.map (okind p.vs p.xs) = [0, 0]) 1 by unfold rule; simp only [e1, e2]; rfl]
      exact of_12 p k n ks w hp hN hA
    · rw [show rule p.vs (((13 : Nat) : Int), n) (ks.map fun q => (okind p.vs p.xs q, otag p.xs q)) = ifso (ks.map (okind p.vs p.xs) = [0, 0]) 1 by unfold rule; simp only [e1, e2]; rfl]
      exact of_13 p k n ks w hp hN hA
    · rw [show rule p.vs (((14 : Nat) : Int), n) (ks.map fun q => (okind p.vs p.xs q, otag p.xs q)) = ifso (ks.map (okind p.vs p.xs) = [0, 0]) 1 by unfold rule; simp only [e1, e2]; rfl]
      exact of_14 p k n ks w hp hN hA
    · rw [show rule p.vs (((15 : Nat) : Int), n) (ks.map fun q => (okind p.vs p.xs q, otag p.xs q)) = ifso (ks.map (okind p.vs p.xs) = [0, 0]) 1 by unfold rule; simp only [e1, e2]; rfl]
      exact of_15 p k n ks w hp hN hA
    · rw [show rule p.vs (((16 : Nat) : Int), n) (ks.map fun q => (okind p.vs p.xs q, otag p.xs q)) = ifso (ks.map (okind p.vs p.xs) = [0, 0]) 1 by unfold rule; simp only [e1, e2]; rfl]
      exact of_16 p k n ks w hp hN hA
    · rw [show rule p.vs (((17 : Nat) : Int), n) (ks.map fun q => (okind p.vs p.xs q, otag p.xs q)) = ifso (ks.map (okind p.vs p.xs) = [0, 0]) 1 by unfold rule; simp only [e1, e2]; rfl]
      exact of_17 p k n ks w hp hN hA
    · rw [show rule p.vs (((18 : Nat) : Int), n) (ks.map fun q => (okind p.vs p.xs q, otag p.xs q)) = ifso (ks.map (okind p.vs p.xs) = [1, 1]) 1 by unfold rule; simp only [e1, e2]; rfl]
      exact of_18 p k n ks w hp hN hA
    · rw [show rule p.vs (((19 : Nat) : Int), n) (ks.map fun q => (okind p.vs p.xs q, otag p.xs q)) = ifso (ks.map (okind p.vs p.xs) = [1, 1]) 1 by unfold rule; simp only [e1, e2]; rfl]
      exact of_19 p k n ks w hp hN hA
    · rw [show rule p.vs (((20 : Nat) : Int), n) (ks.map fun q => (okind p.vs p.xs q, otag p.xs q)) = ifso (alltwo (ks.map (okind p.vs p.xs)) = true) 2 by unfold rule; simp only [e1, e2]; rfl]
      exact of_20 p k n ks w hp hN hA
    · rw [show rule p.vs (((21 : Nat) : Int), n) (ks.map fun q => (okind p.vs p.xs q, otag p.xs q)) = ifso ((vtyp p.vs n = 0 ∨ vtyp p.vs n = 1) ∧ ks.map (okind p.vs p.xs) = [vtyp p.vs n]) 2 by unfold rule; simp only [e1, e2]; rfl]
      exact of_21 p k n ks w hp hN hA
    · rw [show rule p.vs (((22 : Nat) : Int), n) (ks.map fun q => (okind p.vs p.xs q, otag p.xs q)) = ifso (0 < asz (vtyp p.vs n) ∧ ks.map (okind p.vs p.xs) = [0, 0]) 2 by unfold rule; simp only [e1, e2]; rfl]
      exact of_22 p k n ks w hp hN hA
    · rw [show rule p.vs (((23 : Nat) : Int), n) (ks.map fun q => (okind p.vs p.xs q, otag p.xs q)) = ifso (ks.map (okind p.vs p.xs) = [1, 2, 2] ∧ tags p.xs (ks.drop 1) = true) 2 by unfold rule; simp only [e1, e2]; rfl]
      exact of_23 p k n ks w hp hN hA
    · rw [show rule p.vs (((24 : Nat) : Int), n) (ks.map fun q => (okind p.vs p.xs q, otag p.xs q)) = ifso (ks.map (okind p.vs p.xs) = [1, 2] ∧ tags p.xs (ks.drop 1) = true) 2 by unfold rule; simp only [e1, e2]; rfl]
      exact of_24 p k n ks w hp hN hA
    · rw [show rule p.vs (((25 : Nat) : Int), n) (ks.map fun q => (okind p.vs p.xs q, otag p.xs q)) = ifso (ks.map (okind p.vs p.xs) = [0]) 2 by unfold rule; simp only [e1, e2]; rfl]
      exact of_25 p k n ks w hp hN hA
    · rw [show rule p.vs (((26 : Nat) : Int), n) (ks.map fun q => (okind p.vs p.xs q, otag p.xs q)) = 2 by unfold rule; simp only [e1, e2]; rfl]
      exact of_26 p k n ks w hp hN hA

/-- A node's kind: by how many nodes stand from there on. -/
theorem ref_Of_fuel (p : Prg) : ∀ (f : Nat) (a : Int) (w : World), (p.xs.length : Int) - a ≤ f → p.Ok w →
    Calls Try.prog 20 #[.agg #[.int .i64 p.ps, .slice p.A p.vs.length p.c, .slice p.B p.xs.length p.e], .int .i64 a] w fun e w' => e = .returned (.int .i64 (okind p.vs p.xs a)) ∧ Below w.heap.size w w' := by
  intro f
  induction f with
  | zero =>
    intro a w hf hp
    have he : aend p.xs a < 0 := by
      rcases aend_cases p.xs a with h | ⟨k, n, rfl, -, -, h1, h2⟩ <;> omega
    rw [okind_bad he]
    exact of_bad p a w hp he
  | succ f ih =>
    intro a w hf hp
    rcases aend_cases p.xs a with he | ⟨k, n, rfl, hs, he, hn1, hn2⟩
    · rw [okind_bad (by omega)]
      exact of_bad p a w hp (by omega)
    · obtain ⟨x, hx, h0, hl, hv⟩ := okind_kids (vs := p.vs) hs
      rw [hv]
      have hin := kids_in hs
      refine of_node p k x (akids p.xs k) w hp h0 ⟨hx, by omega, rfl, hl⟩ ⟨fun q hq W hW => ih q W (by have := hin q hq; omega) hW, fun q hq => ?_, by have := ar_le x; omega⟩
      rcases aend_cases p.xs q with h | ⟨k', n', rfl, hs', -⟩
      · have := (hin q hq).2.2; omega
      · obtain ⟨y, hy, -⟩ := node_kids hs'
        exact ⟨k', y, rfl, hy⟩
theorem ref_Of_any (p : Prg) (a : Int) (w : World) (hp : p.Ok w) :
    Calls Try.prog 20 #[.agg #[.int .i64 p.ps, .slice p.A p.vs.length p.c, .slice p.B p.xs.length p.e], .int .i64 a] w fun e w' => e = .returned (.int .i64 (okind p.vs p.xs a)) ∧ Below w.heap.size w w' :=
  ref_Of_fuel p ((p.xs.length : Int) - a).toNat a w (by omega) hp

end Go.Proofs.Yteknfglfbkknaaa.Kinds
