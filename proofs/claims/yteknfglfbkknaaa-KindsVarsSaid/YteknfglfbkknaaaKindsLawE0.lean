/-
  The laws of layer 9, walked on what the package's functions come to: a variable more.
-/
import Derived.Test.YteknfglfbkknaaaKindsLawA
import Derived.Test.YteknfglfbkknaaaKindsMath2
import Derived.Test.YteknfglfbkknaaaKindsPOfM
import Derived.Deep.AppendLies
namespace Go.Proofs.Yteknfglfbkknaaa.Kinds
open Go.RowKit Mem _root_.Go.Proofs.Yteknfglfbkknaaa.Arena
set_option linter.unusedVariables false
set_option linter.unusedSimpArgs false
attribute [local go_sem ↓] Go.wp_at_zero Go.wp_at_succ

theorem row0 {w : World} {g base : Nat} {T : TypeId} (h : Blk w g T #[]) (hb : base ≤ g) : w.ownsRow base T 1 (.slice (some ⟨g, 0, none⟩) 0 0) 0 [] :=
  ⟨by simp, .inr ⟨g, 0, #[], rfl, hb, h, Nat.le_refl _, by simp, by simp, by simp⟩⟩
theorem row_news {w : World} {ad : Addr} {vs : List Int} (h : IRow w w.heap.size (some ad) vs) : ∀ j u, (icells vs)[j]? = some u → w.cell? (ad.add j) = some u := by
  intro j u hu
  unfold icells at hu
  rw [List.getElem?_map, Option.map_eq_some_iff] at hu
  obtain ⟨x, hx, rfl⟩ := hu
  obtain ⟨ad', e, -, q⟩ := h j x hx
  cases e
  exact q
theorem row_ints {w : World} {base g cap n : Nat} {ks : List Int} (h : w.ownsRow base 3 1 (.slice (some ⟨g, 0, none⟩) n cap) n (icells ks)) : IRow w w.heap.size (some ⟨g, 0, none⟩) ks := by
  intro i x hx
  exact ⟨_, rfl, (h.lt g rfl).2, h.cells (g := g) rfl i _ (by unfold icells; rw [List.getElem?_map, hx]; rfl)⟩
theorem irow_set {w : World} {B g d : Nat} {ks : List Int} (h : IRow w B (some ⟨g, 0, none⟩) ks) (hne : g ≠ d) (i : Nat) (v : Value) : IRow (w.setCell ⟨d, i, none⟩ v) B (some ⟨g, 0, none⟩) ks := by
  intro j x hx
  obtain ⟨ad, e, hlt, q⟩ := h j x hx
  cases e
  refine ⟨_, rfl, hlt, (World.cell?_of_block ?_).trans q⟩
  rw [add_blockN]
  exact Below.heap_setCell _ _ _ _ hne
theorem irow_size (w : World) (p : Addr) (v : Value) : (w.setCell p v).heap.size = w.heap.size := by simp [World.setCell]
theorem row_far3 {w : World} {g d : Nat} {ks : List Int} (h : IRow w w.heap.size (some ⟨g, 0, none⟩) ks) (hne : g ≠ d) (u0 u1 u2 : Value) :
    IRow (((w.setCell ⟨d, 0, none⟩ u0).setCell ⟨d, 1, none⟩ u1).setCell ⟨d, 2, none⟩ u2) (((w.setCell ⟨d, 0, none⟩ u0).setCell ⟨d, 1, none⟩ u1).setCell ⟨d, 2, none⟩ u2).heap.size (some ⟨g, 0, none⟩) ks := by
  rw [irow_size, irow_size, irow_size]
  exact irow_set (irow_set (irow_set h hne 0 u0) hne 1 u1) hne 2 u2

set_option maxRecDepth 100000 in
set_option maxHeartbeats 4000000 in
/-- Where there is nothing to be asked. -/
theorem vars_idle (C : Pkg) (ps : Int) (A : Option Addr) (c : Nat) (vs : List Int) (B : Option Addr) (ce : Nat) (xs : List Nd) (t : Int) (w : World) (hp : Prg.In (⟨ps, A, c, vs, B, ce, xs⟩ : Prg) w)
    (h : fewB (⟨ps, A, c, vs, B, ce, xs⟩ : Prg) = false ∨ pcheck ps vs xs ≠ 0 ∨ t < 0 ∨ 9 < t) :
    Calls Try.prog 7 #[.agg #[.int .i64 ps, .slice A vs.length c, .slice B xs.length ce], .int .i64 t] w fun e w' => e = .returned (.bool true) ∧ Below w.heap.size w w' := by
  have hB0 : Below w.heap.size w (w.alloc (.cells #[.int .i64 ps, .slice A vs.length c, .slice B xs.length ce] 25)) := (Below.refl _ _).alloc (Nat.le_refl _) _
  have bX := Blk.new w 25 #[.int .i64 ps, .slice A vs.length c, .slice B xs.length ce]
  have HP := Lib.hid (hp.at hB0)
  have hgl := bX.lt
  have HBX := Lib.hid (fun W (h : Below (w.alloc (.cells #[.int .i64 ps, .slice A vs.length c, .slice B xs.length ce] 25)).heap.size (w.alloc (.cells #[.int .i64 ps, .slice A vs.length c, .slice B xs.length ce] 25)) W) => (bX.below h hgl).three)
  have HW := Lib.hid (fun W => works_any C W)
  have HF := Lib.hid (fun W => show Calls Try.prog 10 #[.agg #[.int .i64 ps, .slice A vs.length c, .slice B xs.length ce]] W (fun e w' => e = .returned (.bool (fewB (⟨ps, A, c, vs, B, ce, xs⟩ : Prg))) ∧ Below W.heap.size W w') from ref_Few_any (⟨ps, A, c, vs, B, ce, xs⟩ : Prg) W)
  have HCK := Lib.hid (fun W (h : (⟨ps, A, c, vs, B, ce, xs⟩ : Prg).Ok W) => show Calls Try.prog 12 #[.agg #[.int .i64 ps, .slice A vs.length c, .slice B xs.length ce]] W (fun e w' => e = .returned (.int .i64 (pcheck ps vs xs)) ∧ Below W.heap.size W w') from C.check (⟨ps, A, c, vs, B, ce, xs⟩ : Prg) W h)
  have HIDE := Lib.hid h
  clear hp bX h
  cases hf : fewB (⟨ps, A, c, vs, B, ce, xs⟩ : Prg) with
  | false =>
    rw [hf] at HF
    go_enter Try.func7, Try.ntmps7
    go_wp2_with (first
      | (go_at_call 9; refine (HW.out _).mono ?_; rintro e w2 ⟨rfl, hb2⟩; obtain ⟨b0, b1, b2⟩ := HBX.out _ hb2)
      | (go_at_call 10; refine (HF.out _).mono ?_; rintro e w3 ⟨rfl, hb⟩; have hb3 := hb2.trans (hb.mono hb2.size); obtain ⟨b0, b1, b2⟩ := HBX.out _ hb3))
    go_ret
    exact ⟨rfl, hB0.trans (hb3.mono hB0.size)⟩
  | true =>
    rw [hf] at HF
    obtain ⟨q1, q2⟩ := few_ok hf
    by_cases hc : pcheck ps vs xs = 0
    rotate_left
    · obtain ⟨c, hcc⟩ : ∃ c, pcheck ps vs xs = c := ⟨_, rfl⟩
      rw [hcc] at HCK hc
      have e1 : (c == 0) = false := by simpa using hc
      have e2 : (c != 0) = true := by simpa using hc
      clear hcc hc
      go_enter Try.func7, Try.ntmps7
      go_wp2_with (first
        | (go_at_call 9; refine (HW.out _).mono ?_; rintro e w2 ⟨rfl, hb2⟩; obtain ⟨b0, b1, b2⟩ := HBX.out _ hb2)
        | (go_at_call 10; refine (HF.out _).mono ?_; rintro e w3 ⟨rfl, hb⟩; have hb3 := hb2.trans (hb.mono hb2.size); obtain ⟨b0, b1, b2⟩ := HBX.out _ hb3)
        | (go_at_call 12; have hP3 := (HP.out.at hb3).ok q1 q2; refine (HCK.out _ hP3).mono ?_; rintro e w4 ⟨rfl, hb⟩; have hP4 := hP3.at hb; have hb4 := hb3.trans (hb.mono hb3.size); obtain ⟨b0, b1, b2⟩ := HBX.out _ hb4))
      go_ret
      exact ⟨rfl, hB0.trans (hb4.mono hB0.size)⟩
    rw [hc] at HCK
    have HC0 := Lib.hid hc
    have HF0 := Lib.hid hf
    clear hc hf
    by_cases h0 : t < 0
    · go_enter Try.func7, Try.ntmps7
      go_wp2_with (first
        | (go_at_call 9; refine (HW.out _).mono ?_; rintro e w2 ⟨rfl, hb2⟩; obtain ⟨b0, b1, b2⟩ := HBX.out _ hb2)
        | (go_at_call 10; refine (HF.out _).mono ?_; rintro e w3 ⟨rfl, hb⟩; have hb3 := hb2.trans (hb.mono hb2.size); obtain ⟨b0, b1, b2⟩ := HBX.out _ hb3)
        | (go_at_call 12; have hP3 := (HP.out.at hb3).ok q1 q2; refine (HCK.out _ hP3).mono ?_; rintro e w4 ⟨rfl, hb⟩; have hP4 := hP3.at hb; have hb4 := hb3.trans (hb.mono hb3.size); obtain ⟨b0, b1, b2⟩ := HBX.out _ hb4))
      go_ret
      exact ⟨rfl, hB0.trans (hb4.mono hB0.size)⟩
    have h1 : 9 < t := by
      rcases HIDE.out with h | h | h | h
      · rw [HF0.out] at h; cases h
      · exact absurd HC0.out h
      · exact absurd h h0
      · exact h
    go_enter Try.func7, Try.ntmps7
    go_wp2_with (first
      | (go_at_call 9; refine (HW.out _).mono ?_; rintro e w2 ⟨rfl, hb2⟩; obtain ⟨b0, b1, b2⟩ := HBX.out _ hb2)
      | (go_at_call 10; refine (HF.out _).mono ?_; rintro e w3 ⟨rfl, hb⟩; have hb3 := hb2.trans (hb.mono hb2.size); obtain ⟨b0, b1, b2⟩ := HBX.out _ hb3)
      | (go_at_call 12; have hP3 := (HP.out.at hb3).ok q1 q2; refine (HCK.out _ hP3).mono ?_; rintro e w4 ⟨rfl, hb⟩; have hP4 := hP3.at hb; have hb4 := hb3.trans (hb.mono hb3.size); obtain ⟨b0, b1, b2⟩ := HBX.out _ hb4))
    go_ret
    exact ⟨rfl, hB0.trans (hb4.mono hB0.size)⟩

end Go.Proofs.Yteknfglfbkknaaa.Kinds
