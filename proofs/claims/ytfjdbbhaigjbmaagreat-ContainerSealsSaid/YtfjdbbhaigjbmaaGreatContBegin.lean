/-
  Package container, walked: where the index begins, and the index.
-/
import Derived.Test.YtfjdbbhaigjbmaaGreatContLaid
import Derived.Test.YtfjdbbhaigjbmaaGreatWireG
namespace Go.Proofs.YtfjdbbhaigjbmaaGreat.Cont
open Go.RowKit Go.Shelf Leb Mem _root_.Go.Proofs.YtfjdbbhaigjbmaaGreat.Frame _root_.Go.Proofs.YtfjdbbhaigjbmaaGreat.RangeP

attribute [local go_sem] Oper.semAt_some

/-- How far the frames of the first sections reach. -/
def reach (xs : List Sect) (k : Nat) : Int := ((7 + (body (secs (xs.take k))).length : Nat) : Int)
theorem reach_step {xs : List Sect} {k : Nat} {x : Sect} (h : xs[k]? = some x) : reach xs (k + 1) = reach xs k + (size (x.t, x.d.data.toList) : Int) := by
  unfold reach
  have hbn := body_snoc (secs (xs.take k)) (x.t, x.d.data.toList)
  rw [← secs_take xs k x h] at hbn
  omega
theorem reach_lim {xs : List Sect} (hl : Lim xs) {k : Nat} (hk : k ≤ xs.length) : 0 ≤ reach xs k ∧ reach xs k ≤ 1000000000 := by
  have := body_lim hl k
  obtain ⟨h1, h2⟩ := hl
  unfold reach
  omega

/-- A cell of a number, all else being as it was; new blocks aside. -/
def Count (w0 : World) (N : Nat) (v : List (Int × Sect) → Int) (pre : List (Int × Sect)) (Φ : Nat → Prop) (W : World) : Prop :=
  Φ = (· = N) ∧ Blk W N 3 #[.int .i64 (v pre)] ∧ Below w0.heap.size w0 W

theorem fold_told2 (T : Array Value) (p q : Nat) (x : Int × Sect) : (#[p, q].zip (told2 x)).foldl (fun t (p, v) => t.setIfInBounds p v) T = (T.setIfInBounds p (.int .i64 x.1)).setIfInBounds q (.agg #[.int .i64 x.2.t, .string x.2.d]) := by
  simp [told2]

theorem Count.lt {w0 : World} {N : Nat} {v : List (Int × Sect) → Int} (s : List (Int × Sect)) (Φ : Nat → Prop) (X : World) (h : Count w0 N v s Φ X) : ∀ k, Φ k → k < X.heap.size := by
  rintro k hk
  rw [h.1] at hk
  subst hk
  exact h.2.1.lt
theorem Count.kept {w0 : World} {N : Nat} {v : List (Int × Sect) → Int} (s : List (Int × Sect)) (Φ : Nat → Prop) (X Y : World) (l : Nat) (hl : w0.heap.size ≤ l) (hn : ¬ Φ l) (h : Count w0 N v s Φ X) (hK : Kept (· = l) X Y) : Count w0 N v s Φ Y := by
  obtain ⟨rfl, h2, h3⟩ := h
  exact ⟨rfl, h2.kept hK (fun e => hn e.symm), h3.trans (hK.to_below h3.size (fun k e => by omega))⟩

set_option maxRecDepth 100000 in
set_option maxHeartbeats 1000000 in
theorem begin_in (A : Option Addr) (cap : Nat) (xs : List Sect) (w : World) (hx : Sects w w.heap.size A xs) (hl : Lim xs) :
    CallsIn Fence.wide 4 Tryz.prog 35 #[.slice A xs.length cap] w fun e w' => e = .returned (.int .i64 ((7 + (body (secs xs)).length : Nat) : Int)) ∧ Below w.heap.size w w' := by
  refine callsIn_of_at Tryz.func35 rfl trivial ?_ rfl
  simp only [Tryz.ntmps35, List.size_toArray, List.length_cons, List.length_nil, Nat.reduceAdd, Nat.reduceSub, Array.replicate_succ, Array.replicate_zero, List.push_toArray, List.append_toArray, List.nil_append, List.cons_append]
  refine At.seq trivial (At.of trivial ?_)
  gi_wp2
  refine At.seq trivial (At.of trivial ?_)
  have bN := Blk.new w 3 #[.int .i64 7]
  have hB0 : Below w.heap.size w (w.alloc (.cells #[.int .i64 7] 3)) := (Below.refl _ w).alloc (Nat.le_refl _) _
  have HX := Lib.hid (Sects.below (B := w.heap.size) hx hB0)
  gi_wp2
  generalize w.alloc (.cells #[.int .i64 7] 3) = w1 at *
  refine At.seq trivial (At.seq trivial (At.of trivial ?_))
  have hf0 : Fence.wide.fn 24 := trivial
  gi_wp2_with (gi_at_call 24; refine ((callsIn_wide (n := 3)).2 (laid_any A xs.length cap _)).mono ?_; rintro e w2 ⟨rfl, rfl⟩)
  have hB1 := hB0.alloc hB0.size (.cells #[.slice A xs.length cap] 22)
  have bS := Blk.new w1 22 #[.slice A xs.length cap]
  have bN1 := bN.alloc (.cells #[.slice A xs.length cap] 22)
  have hX1 := Sects.below HX.out ((Below.refl w.heap.size w1).alloc hB0.size (.cells #[.slice A xs.length cap] 22))
  refine At.block trivial (At.rangeFunc rfl (by omega) trivial ⟨_, Tryz.func35⟩ (gf := 41) rfl trivial (enters_of Tryz.func41 (by kernel_rfl) rfl)
    (laid1_tells w1.heap.size w.heap.size A cap xs _ hl hB1.size bS.lt (bS.cell 0) hX1) (fun _ => rfl)
    (Count w w.heap.size (fun pre => reach xs pre.length)) (fun _ _ _ => False) (· = w.heap.size) ?hIs ?hI ?h0 ?hOwn ?hOwn2 ?hround ?hdone ?hdie)
  case hIs => exact Count.lt
  case hI => exact fun s Φ X Y l hl' => Count.kept s Φ X Y l (Nat.le_trans hB1.size hl')
  case h0 => exact ⟨rfl, bN1, hB1⟩
  case hOwn => rintro k rfl; exact Nat.lt_irrefl _
  case hOwn2 => exact fun k hk => Nat.lt_of_lt_of_le hk hB1.size
  case hround =>
    rintro l pre x Φ W hl1 hl2 hΦ ⟨rfl, bC, hB⟩ hG
    obtain ⟨hxk, hx1⟩ := hG.last
    have hst := reach_step hxk
    have hlm := reach_lim hl (k := pre.length + 1) (by have := (List.getElem?_eq_some_iff.1 hxk).1; omega)
    have hlm0 := reach_lim hl (k := pre.length) (by have := (List.getElem?_eq_some_iff.1 hxk).1; omega)
    have hxs := total_mem hxk
    have HZ := Lib.hid (fun W => p_size_any x.2.t x.2.d (by have := hl.2; omega) W)
    generalize size (x.2.t, x.2.d.data.toList) = z at *
    have hr : reach xs (pre ++ [x]).length = x.1 + (z : Int) := by rw [List.length_append, List.length_singleton, hst, hx1]; rfl
    have hq : reach xs pre.length = x.1 := hx1.symm
    have hw4 : IntKind.i64.wrap (x.1 + (z : Int)) = x.1 + (z : Int) := IntWalk.i64_in _ (by omega)
    obtain ⟨⟨q, ⟨xt, xd⟩⟩, rfl⟩ : ∃ y, y = x := ⟨_, rfl⟩
    have bX := Blk.new W 34 #[.int .i64 xt, .string xd]
    have hB2 := hB.alloc hB.size (.cells #[.int .i64 xt, .string xd] 34)
    have bC2 := bC.alloc (.cells #[.int .i64 xt, .string xd] 34)
    have hWW := (Below.refl W.heap.size W).alloc (Nat.le_refl _) (.cells #[.int .i64 xt, .string xd] 34)
    have HR := Lib.hid hr
    have hwl : w.heap.size < l := Nat.lt_of_le_of_lt hB1.size hl1
    simp only at hw4 hq HZ
    clear hst hlm hlm0 hxs hr hx1 hxk hG hX1 bS bN1 hB1 HX hB0 bN
    rw [fold_told2]
    simp only [List.setIfInBounds_toArray, List.set_cons_succ, List.set_cons_zero]
    gi_wp2
    intro W2 hK2 hs2
    have bX2 := bX.kept hK2 (by omega)
    have bC3 := bC2.kept hK2 (fun e => hΦ e.symm)
    have hN : w.heap.size < W.heap.size := bC.lt
    clear bX bC2 hWW hB2
    obtain ⟨c0, c1⟩ := bX2.two
    have cN := bC3.cell 0
    have fN := bC3.frozen 0
    have hf1 : Fence.wide.fn 25 := trivial
    gi_wp2_with (gi_at_call 25; refine (CallsIn.inRound l ((callsIn_wide (n := 1)).2 (HZ.out _))).mono ?_; rintro e w2 ⟨rfl, hb2⟩; have bC4 := bC3.below hb2 bC3.lt; have cN := bC4.cell 0; have fN := bC4.frozen 0)
    have bC5 := bC4.set 0 (.int .i64 (q + (z : Int)))
    have hN2 := bC3.lt
    have hK3 : Kept (· = w.heap.size) W2 (w2.setCell ⟨w.heap.size, 0, none⟩ (.int .i64 (q + (z : Int)))) := Kept.setCell (S := (· = w.heap.size)) (p := ⟨w.heap.size, 0, none⟩) (Kept.of_below hb2 (Nat.le_refl _)) (.inl rfl) _
    refine ⟨hK3, _, ⟨rfl, ?_, ?_⟩, fun k h => .inl h⟩
    · show Blk _ _ _ #[.int .i64 (reach xs (pre ++ [_]).length)]
      rw [HR.out]
      exact bC5
    · have hB6 : Below w.heap.size w W2 := (hB.alloc hB.size _).trans (hK2.to_below (by rw [World.size_alloc]; have := hB.size; omega) (fun k e => by omega))
      exact hB6.trans (hK3.to_below hB6.size (fun k e => by omega))
  case hdone =>
    rintro D ys Φ W hD hlt hΦ rfl ⟨rfl, bC, hB⟩ hK
    have HE := Lib.hid (show reach xs (rowsA 7 xs).length = ((7 + (body (secs xs)).length : Nat) : Int) by rw [rowsA_len]; unfold reach; rw [List.take_of_length_le (Nat.le_refl _)])
    have cN := bC.cell 0
    clear hX1 bS bN1 HX hB0 bN
    refine At.of trivial ?_
    gi_wp2
    refine ⟨by simp, .inl ⟨_, _, rfl, run_takeDeferred hK, ?_⟩⟩
    refine ⟨_, results_tmp rfl _ _ _, ?_, hB.trans (belowK_b (w := w) (Nat.le_refl _) W D _ _ (by have := hB1.size; omega) hK rfl rfl)⟩
    show Ending.returned (.int .i64 (reach xs (rowsA 7 xs).length)) = _
    rw [HE.out]
    simp
  case hdie => exact fun _ _ _ _ _ _ _ h => h.elim

end Go.Proofs.YtfjdbbhaigjbmaaGreat.Cont
