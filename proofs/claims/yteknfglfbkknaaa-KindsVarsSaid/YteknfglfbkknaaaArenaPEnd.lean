/-
  Package arena, walked: a node's end, by a range over the iterator.
-/
import Derived.Test.YteknfglfbkknaaaArenaIter
namespace Go.Proofs.Yteknfglfbkknaaa.Arena
open Go.RowKit Go.Shelf Mem

attribute [local go_sem] Oper.semAt_some

set_option maxRecDepth 100000 in
set_option maxHeartbeats 1000000 in
theorem walk_any (A : Option Addr) (k cap : Nat) (a : Int) (w : World) : Calls Try.prog 47 #[.slice A k cap, .int .i64 a] w fun e w' => e = .returned (.func (.func 57) #[] #[.pointer (some ⟨w.heap.size + 1, 0, none⟩), .pointer (some ⟨w.heap.size, 0, none⟩)]) ∧ w' = (w.alloc (.cells #[.slice A k cap] 23)).alloc (.cells #[.int .i64 a] 3) := by
  go_enter Try.func47, Try.ntmps47
  go_wp2
  go_ret
  exact ⟨rfl, rfl⟩

theorem _root_.Go.Proofs.Yteknfglfbkknaaa.Mem.Blk.apartObj {w : World} {g l : Nat} {t : TypeId} {cs : Array Value} (h : Blk w g t cs) (hne : g ≠ l) (o : Obj) : Blk (w.putObj l o) g t cs := (World.putObj_heap_other (fun e => hne e)).trans h
theorem fold_told (t : Array Value) (x : Int × Int) : Array.foldl (fun t (x : Nat × Value) => t.setIfInBounds x.1 x.2) t (#[10, 11].zip (told x)) = (t.setIfInBounds 10 (.int .i64 x.1)).setIfInBounds 11 (.int .i64 x.2) := by
  simp [told]

set_option maxRecDepth 100000 in
set_option maxHeartbeats 2000000 in
theorem End_in (A : Option Addr) (cap : Nat) (xs : List Nd) (a : Int) (w : World) (hx : Nodes w w.heap.size A xs) (hl : xs.length ≤ 1000000) :
    CallsIn Fence.wide 4 Try.prog 23 #[.slice A xs.length cap, .int .i64 a] w fun e w' => e = .returned (.int .i64 (aend xs a)) ∧ Below w.heap.size w w' := by
  have hf1 : Fence.wide.fn 47 := trivial
  refine callsIn_of_wp_marks Try.func23 rfl trivial ?_ rfl
  simp only [Try.ntmps23, List.size_toArray, List.length_cons, List.length_nil, Nat.reduceAdd, Nat.reduceSub, Array.replicate_succ, Array.replicate_zero, List.push_toArray, List.append_toArray, List.nil_append, List.cons_append]
  have bR := Blk.new w 3 #[.int .i64 0]
  have hB0 : Below w.heap.size w (w.alloc (.cells #[.int .i64 0] 3)) := (Below.refl _ _).alloc (Nat.le_refl _) _
  gi_wp2_with (gi_at_call 47; refine ((callsIn_wide (n := 3)).2 (walk_any A xs.length cap a _)).mono ?_; rintro e w' ⟨rfl, rfl⟩)
  have hsz : w.heap.size + 3 = (((w.alloc (.cells #[.int .i64 0] 3)).alloc (.cells #[.slice A xs.length cap] 23)).alloc (.cells #[.int .i64 a] 3)).heap.size := by simp
  have bL := (Blk.new (w.alloc (.cells #[.int .i64 0] 3)) 23 #[.slice A xs.length cap]).alloc (.cells #[.int .i64 a] 3)
  have bA := Blk.new ((w.alloc (.cells #[.int .i64 0] 3)).alloc (.cells #[.slice A xs.length cap] 23)) 3 #[.int .i64 a]
  rw [World.size_alloc] at bL bA
  rw [World.size_alloc] at bA
  have bR1 := (bR.alloc (.cells #[.slice A xs.length cap] 23)).alloc (.cells #[.int .i64 a] 3)
  have hB1 : Below w.heap.size w (((w.alloc (.cells #[.int .i64 0] 3)).alloc (.cells #[.slice A xs.length cap] 23)).alloc (.cells #[.int .i64 a] 3)) := (hB0.alloc (by simp) _).alloc (by simp; omega) _
  have hX1 := hx.below hB1
  clear hx hB0 bR
  generalize (((w.alloc (.cells #[.int .i64 0] 3)).alloc (.cells #[.slice A xs.length cap] 23)).alloc (.cells #[.int .i64 a] 3)) = w1 at *
  have hOF : ∀ (Pr : List (Int × Int) → Int → Prop), OwnFrom w1.heap.size (fun (pre : List (Int × Int)) W => ∃ v : Int, Pr pre v ∧ Blk W w.heap.size 3 #[.int .i64 v] ∧ Below w.heap.size w W) := by
    rintro Pr s W W' row ⟨v, h1, h2, h3⟩ hg hr
    exact ⟨v, h1, h2.grown hg (fun e => by have := (hr _ e.symm).1; omega), h3.grown hg h3.size (fun i e => by have := (hr _ e).1; omega)⟩
  refine wpIn_rangeFunc_ownG rfl (by omega) (gf := 57) (lb := #[.pointer (some ⟨w.heap.size + 1 + 1, 0, none⟩), .pointer (some ⟨w.heap.size + 1, 0, none⟩)]) rfl trivial (enters_of Try.func57 (by kernel_rfl) rfl)
    (walk1_stops w.heap.size (w.heap.size + 1) (w.heap.size + 1 + 1) w.heap.size A cap xs a w1 hl hX1 (by omega) (Nat.le_refl _) (by omega) (by omega) (by omega) (by omega) (bL.cell 0) (bA.cell 0)) (fun h k => Kept.trans h k) ?hKb (Below.refl _ _) (fun _ => rfl)
    (fun (pre : List (Int × Int)) W => ∃ v : Int, (v = 0 ∧ ∀ p ∈ pre, p.2 ≠ 0) ∧ Blk W w.heap.size 3 #[.int .i64 v] ∧ Below w.heap.size w W)
    (fun c pre W => ∃ v : Int, (c = .ret ∧ ∃ pre', pre = pre' ++ [(v, 0)]) ∧ Blk W w.heap.size 3 #[.int .i64 v] ∧ Below w.heap.size w W)
    (hOF (fun pre v => v = 0 ∧ ∀ p ∈ pre, p.2 ≠ 0)) (fun c => hOF (fun pre v => c = .ret ∧ ∃ pre', pre = pre' ++ [(v, 0)]))
    ⟨0, ⟨rfl, fun p hp => by cases hp⟩, bR1, hB1⟩
    (fun x => { tmps := #[.slice A xs.length cap, .int .i64 a, undef, undef, .pointer (some ⟨w.heap.size, 0, none⟩), .int .i64 x.1, .int .i64 x.2, .slice A xs.length cap, .int .i64 a, .func (.func 57) #[] #[.pointer (some ⟨w.heap.size + 1 + 1, 0, none⟩), .pointer (some ⟨w.heap.size + 1, 0, none⟩)], .int .i64 x.1, .int .i64 x.2, undef, undef, undef], defers := [] }) ?assign ?body ?done ?stop
  case hKb =>
    intro W l o o' h _ _ _
    exact Kept.grown (Kept.refl _ _) (grownBy_putObj' W l o') (fun k e => by cases e; exact .inl (.inr h))
  case assign =>
    intro l x W K hK
    rw [fold_told]
    simp only [List.setIfInBounds_toArray, List.set_cons_succ, List.set_cons_zero]
    gi_wp2
    exact hK
  case body =>
    rintro l pre x W ⟨v, ⟨rfl, hp⟩, bR, hB⟩ hlt
    have hc := bR.cell 0
    have hfz := bR.frozen 0
    by_cases h0 : x.2 = 0
    · obtain ⟨b, q⟩ := x
      simp only at h0
      subst h0
      have hlt1 : w.heap.size < w1.heap.size := by omega
      gi_wp2
      refine ⟨⟨by simp [World.setCell], fun k o hk ho _ => (Below.heap_setCell _ _ _ _ (fun e => by simp at e; omega)).trans ho⟩, b, ⟨rfl, pre, rfl⟩, bR.set 0 _, ⟨hB.os, hB.tape, hB.output, by simpa [World.setCell] using hB.size, fun k hk => (Below.heap_setCell _ _ _ _ (fun e => by simp at e; omega)).trans (hB.block k hk)⟩⟩
    · have h0' : (x.2 == 0) = false := by rw [beq_eq_false_iff_ne]; exact h0
      gi_wp2
      refine ⟨KeepsFrom.refl _ _, Kept.refl _ _, 0, ⟨rfl, fun p hm => ?_⟩, bR, hB⟩
      rcases List.mem_append.1 hm with hm | hm
      · exact hp p hm
      · rw [List.mem_singleton] at hm; subst hm; exact h0
  case done =>
    rintro D ys W hD rfl ⟨v, ⟨rfl, hp⟩, bR, hB⟩ hK
    have hE := Lib.hid (rows_none hp)
    have hc := bR.cell 0
    have hfz := bR.frozen 0
    clear hp
    gi_wp2
    have hK' : (W.setCell ⟨w.heap.size, 0, none⟩ (.int .i64 (-1))).heap[D]? = some (.deferred (some [])) := (Below.heap_setCell _ _ _ _ (fun e => by simp at e; omega)).trans hK
    refine ⟨by simp, .inl ⟨_, _, rfl, run_takeDeferred hK', ?_⟩⟩
    have hDR : w.heap.size ≠ D := by omega
    have hc2 := ((bR.set 0 (.int .i64 (-1))).apartObj hDR (.deferred none)).cell 0
    have hcz : ((#[Value.int .i64 0] : Array Value).setIfInBounds 0 (.int .i64 (-1)))[0]? = some (.int .i64 (-1)) := rfl
    rw [hcz] at hc2
    have hB2 : Below w.heap.size w (W.setCell ⟨w.heap.size, 0, none⟩ (.int .i64 (-1))) := ⟨hB.os, hB.tape, hB.output, by simpa [World.setCell] using hB.size, fun k hk => (Below.heap_setCell _ _ _ _ (fun e => by simp at e; omega)).trans (hB.block k hk)⟩
    refine ⟨.int .i64 (-1), by simp [results, Try.results23, go_sem, hc2], by rw [hE.out], hB2.trans (belowK_b (w := w) (Nat.le_refl _) _ D _ _ (by omega) hK' rfl rfl)⟩
  case stop =>
    rintro D c pre W hD hpre ⟨v, ⟨rfl, pre', rfl⟩, bR, hB⟩ hK
    have hE := Lib.hid (rows_last hpre)
    have hc := bR.cell 0
    refine wpIn_ret ?_
    gi_wp2
    refine ⟨by simp, .inl ⟨_, _, rfl, run_takeDeferred hK, ?_⟩⟩
    have hDR : w.heap.size ≠ D := by omega
    have hc2 := (bR.apartObj hDR (.deferred none)).cell 0
    have hcz : (#[Value.int .i64 v] : Array Value)[0]? = some (.int .i64 v) := rfl
    rw [hcz] at hc2
    refine ⟨.int .i64 v, by simp [results, Try.results23, go_sem, hc2], by rw [hE.out], hB.trans (belowK_b (w := w) (Nat.le_refl _) _ D _ _ (by omega) hK rfl rfl)⟩

theorem End_any (A : Option Addr) (cap : Nat) (xs : List Nd) (a : Int) (w : World) (hx : Nodes w w.heap.size A xs) (hl : xs.length ≤ 1000000) :
    Calls Try.prog 23 #[.slice A xs.length cap, .int .i64 a] w fun e w' => e = .returned (.int .i64 (aend xs a)) ∧ Below w.heap.size w w' :=
  (callsIn_wide (n := 4)).1 (End_in A cap xs a w hx hl)

end Go.Proofs.Yteknfglfbkknaaa.Arena
