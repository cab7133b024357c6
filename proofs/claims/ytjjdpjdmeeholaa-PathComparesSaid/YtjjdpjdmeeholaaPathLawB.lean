/-
  The laws of layer 11, walked on what the package's functions come to: a node's path, and the node of a path; each has one.
-/
import Derived.Test.YtjjdpjdmeeholaaPathLawA
import Derived.Test.YtjjdpjdmeeholaaPathRefO
namespace Go.Proofs.Ytjjdpjdmeeholaa.Path
open Go.RowKit Mem _root_.Go.Proofs.Ytjjdpjdmeeholaa.Arena
set_option linter.unusedVariables false
attribute [local go_sem ↓] Go.wp_at_zero Go.wp_at_succ

theorem path_is (l : List Nd) (b : Int) : ∃ (q : List Int) (ok : Bool), (ok = true → Leads l b q) ∧ (ok = false → ¬ ∃ p, Leads l b p) ∧ q.length ≤ l.length ∧
    ∀ W e w', PathEnds l b W e w' → Below W.heap.size W w' ∧ ∃ A c, e = .returned (.tuple #[.slice A q.length c, .bool ok]) ∧ IRow w' w'.heap.size A q ∧ (ok = true → q.length ≤ c ∧ (A = none → c = 0)) := by
  by_cases h : ∃ p, Leads l b p
  · obtain ⟨p, hp⟩ := h
    refine ⟨p, true, fun _ => hp, (fun e => by cases e), hp.rng.2, fun W e w' hE => ?_⟩
    obtain ⟨hb, A, c, he, h1, h2, h3⟩ := hE.ok hp
    exact ⟨hb, A, c, he, h3, fun _ => ⟨h1, h2⟩⟩
  · refine ⟨[], false, (fun e => by cases e), fun _ => h, by simp, fun W e w' hE => ?_⟩
    obtain ⟨hb, A, c, he⟩ := hE.no h
    exact ⟨hb, A, c, he, fun i x h => by simp at h, fun e => by cases e⟩

set_option maxRecDepth 100000 in
set_option maxHeartbeats 4000000 in
theorem pathTells_of (C : Pkg) (A : Option Addr) (c : Nat) (l : List Nd) (ll : l.length ≤ maxLen) (ml : l.length ≤ c) (nl : A = none → c = 0) (b : Int) (wf : (Lit.int .i64 b).wf = true)
    (A' : Option Addr) (c' : Nat) (p : List Int) (lp : p.length ≤ maxLen) (mp : p.length ≤ c') (np : A' = none → c' = 0)
    (w : World) (hx : Nodes w w.heap.size A l) (hy : IRow w w.heap.size A' p) :
    Calls Try.prog 3 #[.slice A l.length c, .int .i64 b, .slice A' p.length c'] w fun e w' => e = .returned (.bool true) ∧ Below w.heap.size w w' := by
  have HW := Lib.hid (fun W => Path.works_any C W)
  have HX := Lib.hid (fun W (h : Below w.heap.size w W) => Nodes.at hx h)
  have HY := Lib.hid (fun W (h : Below w.heap.size w W) => IRow.at hy h)
  clear hx hy
  by_cases h1 : 60 < l.length
  · have j1 : (60 : Int) < (l.length : Int) := by omega
    go_enter Try.func3, Try.ntmps3
    go_wp2_with (go_at_call 8; refine (HW.out _).mono ?_; rintro e w2 ⟨rfl, hb2⟩)
    go_ret
    exact ⟨rfl, hb2⟩
  have j1 : ¬ (60 : Int) < (l.length : Int) := by omega
  by_cases h2 : 60 < p.length
  · have j2 : (60 : Int) < (p.length : Int) := by omega
    go_enter Try.func3, Try.ntmps3
    go_wp2_with (go_at_call 8; refine (HW.out _).mono ?_; rintro e w2 ⟨rfl, hb2⟩)
    go_ret
    exact ⟨rfl, hb2⟩
  have j2 : ¬ (60 : Int) < (p.length : Int) := by omega
  obtain ⟨q, ok, q1, q2, hql, q3⟩ := path_is l b
  have hql' : q.length ≤ 1000000 := by omega
  have K1 := Lib.hid (fun W h => (C.of A c l b W h (by omega)).mono (fun e w' h => q3 W e w' h))
  have K2 := Lib.hid (fun W h => (ref_Of_any A c l (by omega) b W h).mono (fun e w' h => q3 W e w' h))
  have K3 := Lib.hid (fun A1 c1 A2 c2 W (h : IRow W W.heap.size A1 q) (h' : IRow W W.heap.size A2 q) => show Calls Try.prog 11 #[.slice A1 q.length c1, .slice A2 q.length c2] W (fun e w' => e = .returned (.bool true) ∧ Below W.heap.size W w') from (by
    have z := Arena.Ints_any A1 c1 q A2 c2 q W h h' hql'
    simpa using z))
  have K4 := Lib.hid (fun W h h' => C.find A c l A' c' p W h (by omega) h' (by omega) mp np)
  have K5 := Lib.hid (fun W h h' => ref_Find_any A c l A' c' p W h (by omega) h' (by omega))
  generalize pfind l p = t at *
  clear q1 q2 q3 h1 h2
  go_enter Try.func3, Try.ntmps3
  go_wp2_with fail
  refine (HW.out _).mono ?_
  rintro e w2 ⟨rfl, hB2⟩
  go_wp2_with fail
  refine (K1.out _ (HX.out _ hB2)).mono ?_
  rintro e w3 ⟨hb, A1, c1, rfl, r1, -⟩
  have hB3 := hB2.trans (hb.mono hB2.size)
  go_wp2_with fail
  refine (K2.out _ (HX.out _ hB3)).mono ?_
  rintro e w4 ⟨hb, A2, c2, rfl, r2, -⟩
  have hB4 := hB3.trans (hb.mono hB3.size)
  have r1 := r1.at hb
  go_wp2_with (first
    | (go_at_call 11; refine (K3.out _ _ _ _ _ r1 r2).mono ?_; rintro e w5 ⟨rfl, hb⟩; have hB5 := hB4.trans (hb.mono hB4.size))
    | (go_at_call 12; refine (K4.out _ (HX.out _ hB5) (HY.out _ hB5)).mono ?_; rintro e w6 ⟨rfl, hb⟩; have hB6 := hB5.trans (hb.mono hB5.size))
    | (go_at_call 13; refine (K5.out _ (HX.out _ hB6) (HY.out _ hB6)).mono ?_; rintro e w7 ⟨rfl, hb⟩; have hB7 := hB6.trans (hb.mono hB6.size))
    | fail)
  go_ret
  exact ⟨ret_true (by simp), hB7⟩

end Go.Proofs.Ytjjdpjdmeeholaa.Path
