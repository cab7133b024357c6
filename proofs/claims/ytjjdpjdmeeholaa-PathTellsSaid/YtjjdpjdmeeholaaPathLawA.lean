/-
  The laws of layer 11, walked on what the package's functions come to: paths stand in one order.
-/
import Derived.Test.YtjjdpjdmeeholaaPathWorks
import Derived.Test.YtjjdpjdmeeholaaPathRef
namespace Go.Proofs.Ytjjdpjdmeeholaa.Path
open Go.RowKit Mem _root_.Go.Proofs.Ytjjdpjdmeeholaa.Arena
set_option linter.unusedVariables false
attribute [local go_sem ↓] Go.wp_at_zero Go.wp_at_succ

theorem ret_true {p : Bool} (h : p = true) : Ending.returned (.bool p) = .returned (.bool true) := by rw [h]
theorem cmp_same (p q : List Int) : (cmp p q == 0) = decide (p = q) := by
  by_cases h : p = q
  · subst h; simp [cmp_self]
  · rw [decide_eq_false h, beq_eq_false_iff_ne]
    exact fun e => h (cmp_zero p q e)

set_option maxRecDepth 100000 in
set_option maxHeartbeats 4000000 in
theorem pathCompares_of (C : Pkg) (A : Option Addr) (c : Nat) (x : List Int) (lx : x.length ≤ maxLen) (mx : x.length ≤ c) (nx : A = none → c = 0)
    (A' : Option Addr) (c' : Nat) (y : List Int) (ly : y.length ≤ maxLen) (my : y.length ≤ c') (ny : A' = none → c' = 0)
    (A'' : Option Addr) (c'' : Nat) (z : List Int) (lz : z.length ≤ maxLen) (mz : z.length ≤ c'') (nz : A'' = none → c'' = 0)
    (w : World) (hx : IRow w w.heap.size A x) (hy : IRow w w.heap.size A' y) (hz : IRow w w.heap.size A'' z) :
    Calls Try.prog 6 #[.slice A x.length c, .slice A' y.length c', .slice A'' z.length c''] w fun e w' => e = .returned (.bool true) ∧ Below w.heap.size w w' := by
  have HW := Lib.hid (fun W => Path.works_any C W)
  have HX := Lib.hid (fun W (h : Below w.heap.size w W) => IRow.at hx h)
  have HY := Lib.hid (fun W (h : Below w.heap.size w W) => IRow.at hy h)
  have HZ := Lib.hid (fun W (h : Below w.heap.size w W) => IRow.at hz h)
  clear hx hy hz
  by_cases h1 : 60 < x.length
  · have j1 : (60 : Int) < (x.length : Int) := by omega
    go_enter Try.func6, Try.ntmps6
    go_wp2_with (go_at_call 8; refine (HW.out _).mono ?_; rintro e w2 ⟨rfl, hb2⟩)
    go_ret
    exact ⟨rfl, hb2⟩
  have j1 : ¬ (60 : Int) < (x.length : Int) := by omega
  by_cases h2 : 60 < y.length
  · have j2 : (60 : Int) < (y.length : Int) := by omega
    go_enter Try.func6, Try.ntmps6
    go_wp2_with (go_at_call 8; refine (HW.out _).mono ?_; rintro e w2 ⟨rfl, hb2⟩)
    go_ret
    exact ⟨rfl, hb2⟩
  have j2 : ¬ (60 : Int) < (y.length : Int) := by omega
  by_cases h3 : 60 < z.length
  · have j3 : (60 : Int) < (z.length : Int) := by omega
    go_enter Try.func6, Try.ntmps6
    go_wp2_with (go_at_call 8; refine (HW.out _).mono ?_; rintro e w2 ⟨rfl, hb2⟩)
    go_ret
    exact ⟨rfl, hb2⟩
  have j3 : ¬ (60 : Int) < (z.length : Int) := by omega
  have K1 := Lib.hid (fun W h h' => C.compare A c x A' c' y W h h' (by omega) (by omega) mx my nx ny)
  have K2 := Lib.hid (fun W h h' => C.compare A' c' y A'' c'' z W h h' (by omega) (by omega) my mz ny nz)
  have K3 := Lib.hid (fun W h h' => C.compare A c x A'' c'' z W h h' (by omega) (by omega) mx mz nx nz)
  have K4 := Lib.hid (fun W h h' => C.compare A' c' y A c x W h h' (by omega) (by omega) my mx ny nx)
  have K5 := Lib.hid (fun W h h' => Arena.Ints_any A c x A' c' y W h h' (by omega))
  have K6 := Lib.hid (fun W h h' => ref_Compare_any A c x A' c' y W h h' (by omega) (by omega))
  rw [cmp_turn x y] at K4
  have hs := cmp_same x y
  rw [← hs] at K5
  have ht := cmp_trans x y z
  have h3' := cmp_three x y
  generalize cmp x y = r1 at *
  generalize cmp y z = r2 at *
  generalize cmp x z = r3 at *
  have hu : IntKind.i64.wrap (-r1) = -r1 := IntWalk.i64_in _ (by omega)
  have HT := Lib.hid (show 0 < r1 ∨ 0 < r2 ∨ r3 ≤ 0 by
    by_cases q1 : 0 < r1
    · exact .inl q1
    · by_cases q2 : 0 < r2
      · exact .inr (.inl q2)
      · exact .inr (.inr (ht (by omega) (by omega))))
  clear hs ht h1 h2 h3
  go_enter Try.func6, Try.ntmps6
  go_wp2_with fail
  refine (HW.out _).mono ?_
  rintro e w2 ⟨rfl, hB⟩
  go_wp2_with (first
    | (go_at_call 15; first
      | ((with_reducible refine (K1.out _ (HX.out _ hB) (HY.out _ hB)).mono ?_); rintro e w3 ⟨rfl, hb⟩; have hB := hB.trans (hb.mono hB.size))
      | ((with_reducible refine (K2.out _ (HY.out _ hB) (HZ.out _ hB)).mono ?_); rintro e w3 ⟨rfl, hb⟩; have hB := hB.trans (hb.mono hB.size))
      | ((with_reducible refine (K3.out _ (HX.out _ hB) (HZ.out _ hB)).mono ?_); rintro e w3 ⟨rfl, hb⟩; have hB := hB.trans (hb.mono hB.size))
      | ((with_reducible refine (K4.out _ (HY.out _ hB) (HX.out _ hB)).mono ?_); rintro e w3 ⟨rfl, hb⟩; have hB := hB.trans (hb.mono hB.size))
      | fail)
    | (go_at_call 11; refine (K5.out _ (HX.out _ hB) (HY.out _ hB)).mono ?_; rintro e w3 ⟨rfl, hb⟩; have hB := hB.trans (hb.mono hB.size))
    | (go_at_call 16; refine (K6.out _ (HX.out _ hB) (HY.out _ hB)).mono ?_; rintro e w3 ⟨rfl, hb⟩; have hB := hB.trans (hb.mono hB.size))
    | fail)
  all_goals go_ret
  all_goals exact ⟨ret_true (by first | rfl | (simp; done) | (have q := HT.out; simp; omega)), hB⟩

end Go.Proofs.Ytjjdpjdmeeholaa.Path
