/-
  The examples of the law's works, walked on what the package's functions come to.
-/
import Derived.Test.YtobndhiihcejaaaMachLawA
import Derived.Test.YtobndhiihcejaaaMachEx
set_option linter.unusedVariables false
set_option linter.unusedSimpArgs false
namespace Go.Proofs.Ytobndhiihcejaaa.Mach
open Go.RowKit Mem _root_.Go.Proofs.Ytobndhiihcejaaa.Arena _root_.Go.Proofs.Ytobndhiihcejaaa.Kinds _root_.Go.Proofs.Ytobndhiihcejaaa.Path _root_.Go.Proofs.Ytobndhiihcejaaa.Cat _root_.Go.Proofs.Ytobndhiihcejaaa.Suite _root_.Go.Proofs.Ytobndhiihcejaaa.Delta
attribute [local go_sem ↓] Go.wp_at_zero Go.wp_at_succ

theorem ERow.one {W : World} {g B : Nat} {a b c : Int} (h : Blk W g 41 #[.int .i64 a, .int .i64 b, .int .i64 c]) (hB : g < B) : ERow W B (some ⟨g, 0, Option.none⟩) [(a, b, c)] := by
  intro i e hi
  match i, hi with
  | 0, hi =>
    cases hi
    exact ⟨_, rfl, hB, h.cell 0, h.cell 1, h.cell 2⟩
theorem x5_out' : (rrun 1 [0] X5 [4] 4).kind = 4 ∧ (rrun 1 [0] X5 [4] 4).value = 0 ∧ (rrun 1 [0] X5 [4] 4).steps = 4 ∧ (rrun 1 [0] X5 [4] 4).ev = [] := by
  rw [rrun_ok (x5_right rfl (by decide) (by decide))]
  unfold mrun
  rw [mean_whole x5w]
  decide +kernel
def P5 (g : Nat) : Prg := ⟨1, some ⟨g, 0, none⟩, 1, [0], some ⟨g + 1, 0, none⟩, 5, X5⟩
def P3' (g : Nat) : Prg := ⟨0, some ⟨g, 0, none⟩, 1, [0], some ⟨g + 1, 0, none⟩, 3, X3⟩
def P0 : Prg := ⟨0, none, 0, [], none, 0, []⟩
theorem P0_ok (w : World) : P0.Ok w := ⟨fun i x h => by simp [P0] at h, fun i x h => by simp [P0] at h, by decide, by decide, by decide, by decide, fun _ => rfl, fun _ => rfl⟩
/-- A run whose end is known. -/
theorem MPkg.runAt (K : MPkg) (p : Prg) (A : Option Addr) (c : Nat) (args : List Int) (f : Int) (W : World) (hp : p.Ok W) (hA : IRow W W.heap.size A args) (hl : args.length ≤ c) (hn : A = none → c = 0) (ha : args.length ≤ 1000000) (hf : N64 f)
    {E k v : Int} {st : Nat} {ev : List (Int × Int × Int)} (hE : mcheck p.ps p.vs p.xs args.length f = E) (h : (rrun p.ps p.vs p.xs args f).kind = k ∧ (rrun p.ps p.vs p.xs args f).value = v ∧ (rrun p.ps p.vs p.xs args f).steps = st ∧ (rrun p.ps p.vs p.xs args f).ev = ev) :
    Calls Try.prog 10 #[.agg #[.int .i64 p.ps, .slice p.A p.vs.length p.c, .slice p.B p.xs.length p.e], .slice A args.length c, .int .i64 f] W fun e w' => Below W.heap.size W w' ∧ ∃ A c, e = .returned (.tuple #[.agg #[.int .i64 k, .int .i64 v, .int .i64 st, .slice A ev.length c], .int .i64 E]) ∧ ERow w' w'.heap.size A ev := by
  refine (K.run p A c args f W hp hA hl hn ha hf).mono ?_
  rintro e w' ⟨hb, A', c', he, ok⟩
  obtain ⟨h1, h2, h3, h4⟩ := h
  refine ⟨hb, A', c', ?_, ?_⟩
  · rw [he, hE]
    unfold rn Rn.val
    simp only
    rw [h1, h2, h3, h4]
  · have := ok.row
    unfold rn at this
    simp only at this
    rw [h4] at this
    exact this
theorem rrun_no {ps : Int} {vs : List Int} {xs : List Nd} {args : List Int} {f : Int} (h : mcheck ps vs xs args.length f ≠ 0) : (rrun ps vs xs args f).kind = 0 ∧ (rrun ps vs xs args f).value = 0 ∧ (rrun ps vs xs args f).steps = 0 ∧ (rrun ps vs xs args f).ev = [] := by
  unfold rrun
  rw [if_neg h]
  exact ⟨rfl, rfl, rfl, rfl⟩
theorem n64 {n : Int} (h0 : -100000 ≤ n) (h1 : n ≤ 100000) : N64 n := ⟨by omega, by omega⟩
theorem P5_made (w : World) : (P5 w.heap.size).Ok (((w.alloc (.cells #[.int .i64 0] 3)).alloc (.cells #[.int .i64 20, .int .i64 1, .int .i64 25, .int .i64 0, .int .i64 7, .int .i64 0, .int .i64 3, .int .i64 0, .int .i64 1, .int .i64 1] 44)).alloc (.cells #[.int .i64 1, .slice (some ⟨w.heap.size, 0, none⟩) 1 1, .slice (some ⟨w.heap.size + 1, 0, none⟩) 5 5] 25)) ∧ Blk (((w.alloc (.cells #[.int .i64 0] 3)).alloc (.cells #[.int .i64 20, .int .i64 1, .int .i64 25, .int .i64 0, .int .i64 7, .int .i64 0, .int .i64 3, .int .i64 0, .int .i64 1, .int .i64 1] 44)).alloc (.cells #[.int .i64 1, .slice (some ⟨w.heap.size, 0, none⟩) 1 1, .slice (some ⟨w.heap.size + 1, 0, none⟩) 5 5] 25)) (w.heap.size + 2) 25 #[.int .i64 1, .slice (some ⟨w.heap.size, 0, none⟩) 1 1, .slice (some ⟨w.heap.size + 1, 0, none⟩) 5 5] ∧ Below w.heap.size w (((w.alloc (.cells #[.int .i64 0] 3)).alloc (.cells #[.int .i64 20, .int .i64 1, .int .i64 25, .int .i64 0, .int .i64 7, .int .i64 0, .int .i64 3, .int .i64 0, .int .i64 1, .int .i64 1] 44)).alloc (.cells #[.int .i64 1, .slice (some ⟨w.heap.size, 0, none⟩) 1 1, .slice (some ⟨w.heap.size + 1, 0, none⟩) 5 5] 25)) := by
  have b0 := ((Blk.new w 3 #[.int .i64 0]).alloc (.cells #[.int .i64 20, .int .i64 1, .int .i64 25, .int .i64 0, .int .i64 7, .int .i64 0, .int .i64 3, .int .i64 0, .int .i64 1, .int .i64 1] 44)).alloc (.cells #[.int .i64 1, .slice (some ⟨w.heap.size, 0, none⟩) 1 1, .slice (some ⟨w.heap.size + 1, 0, none⟩) 5 5] 25)
  have b1 := (Blk.new (w.alloc (.cells #[.int .i64 0] 3)) 44 #[.int .i64 20, .int .i64 1, .int .i64 25, .int .i64 0, .int .i64 7, .int .i64 0, .int .i64 3, .int .i64 0, .int .i64 1, .int .i64 1]).alloc (.cells #[.int .i64 1, .slice (some ⟨w.heap.size, 0, none⟩) 1 1, .slice (some ⟨w.heap.size + 1, 0, none⟩) 5 5] 25)
  have b2 := Blk.new ((w.alloc (.cells #[.int .i64 0] 3)).alloc (.cells #[.int .i64 20, .int .i64 1, .int .i64 25, .int .i64 0, .int .i64 7, .int .i64 0, .int .i64 3, .int .i64 0, .int .i64 1, .int .i64 1] 44)) 25 #[.int .i64 1, .slice (some ⟨w.heap.size, 0, none⟩) 1 1, .slice (some ⟨w.heap.size + 1, 0, none⟩) 5 5]
  simp only [World.size_alloc] at b1 b2
  have hb : Below w.heap.size w (((w.alloc (.cells #[.int .i64 0] 3)).alloc (.cells #[.int .i64 20, .int .i64 1, .int .i64 25, .int .i64 0, .int .i64 7, .int .i64 0, .int .i64 3, .int .i64 0, .int .i64 1, .int .i64 1] 44)).alloc (.cells #[.int .i64 1, .slice (some ⟨w.heap.size, 0, none⟩) 1 1, .slice (some ⟨w.heap.size + 1, 0, none⟩) 5 5] 25)) := (((Below.refl _ w).alloc (Nat.le_refl _) _).alloc (by simp) _).alloc (by simp; omega) _
  exact ⟨⟨IRow.of_blk (ks := [0]) b0 b0.lt, Nodes.of_blk (xs := X5) b1 b1.lt, by simp [P5], by simp [P5, X5], by simp [P5], by simp [P5, X5], (fun e => by cases e), (fun e => by cases e)⟩, b2, hb⟩
theorem P3'_made (w : World) : (P3' w.heap.size).Ok (((w.alloc (.cells #[.int .i64 0] 3)).alloc (.cells #[.int .i64 20, .int .i64 1, .int .i64 21, .int .i64 0, .int .i64 1, .int .i64 7] 44)).alloc (.cells #[.int .i64 0, .slice (some ⟨w.heap.size, 0, none⟩) 1 1, .slice (some ⟨w.heap.size + 1, 0, none⟩) 3 3] 25)) ∧ Blk (((w.alloc (.cells #[.int .i64 0] 3)).alloc (.cells #[.int .i64 20, .int .i64 1, .int .i64 21, .int .i64 0, .int .i64 1, .int .i64 7] 44)).alloc (.cells #[.int .i64 0, .slice (some ⟨w.heap.size, 0, none⟩) 1 1, .slice (some ⟨w.heap.size + 1, 0, none⟩) 3 3] 25)) (w.heap.size + 2) 25 #[.int .i64 0, .slice (some ⟨w.heap.size, 0, none⟩) 1 1, .slice (some ⟨w.heap.size + 1, 0, none⟩) 3 3] ∧ Below w.heap.size w (((w.alloc (.cells #[.int .i64 0] 3)).alloc (.cells #[.int .i64 20, .int .i64 1, .int .i64 21, .int .i64 0, .int .i64 1, .int .i64 7] 44)).alloc (.cells #[.int .i64 0, .slice (some ⟨w.heap.size, 0, none⟩) 1 1, .slice (some ⟨w.heap.size + 1, 0, none⟩) 3 3] 25)) := by
  have b0 := ((Blk.new w 3 #[.int .i64 0]).alloc (.cells #[.int .i64 20, .int .i64 1, .int .i64 21, .int .i64 0, .int .i64 1, .int .i64 7] 44)).alloc (.cells #[.int .i64 0, .slice (some ⟨w.heap.size, 0, none⟩) 1 1, .slice (some ⟨w.heap.size + 1, 0, none⟩) 3 3] 25)
  have b1 := (Blk.new (w.alloc (.cells #[.int .i64 0] 3)) 44 #[.int .i64 20, .int .i64 1, .int .i64 21, .int .i64 0, .int .i64 1, .int .i64 7]).alloc (.cells #[.int .i64 0, .slice (some ⟨w.heap.size, 0, none⟩) 1 1, .slice (some ⟨w.heap.size + 1, 0, none⟩) 3 3] 25)
  have b2 := Blk.new ((w.alloc (.cells #[.int .i64 0] 3)).alloc (.cells #[.int .i64 20, .int .i64 1, .int .i64 21, .int .i64 0, .int .i64 1, .int .i64 7] 44)) 25 #[.int .i64 0, .slice (some ⟨w.heap.size, 0, none⟩) 1 1, .slice (some ⟨w.heap.size + 1, 0, none⟩) 3 3]
  simp only [World.size_alloc] at b1 b2
  have hb : Below w.heap.size w (((w.alloc (.cells #[.int .i64 0] 3)).alloc (.cells #[.int .i64 20, .int .i64 1, .int .i64 21, .int .i64 0, .int .i64 1, .int .i64 7] 44)).alloc (.cells #[.int .i64 0, .slice (some ⟨w.heap.size, 0, none⟩) 1 1, .slice (some ⟨w.heap.size + 1, 0, none⟩) 3 3] 25)) := (((Below.refl _ w).alloc (Nat.le_refl _) _).alloc (by simp) _).alloc (by simp; omega) _
  exact ⟨⟨IRow.of_blk (ks := [0]) b0 b0.lt, Nodes.of_blk (xs := X3) b1 b1.lt, by simp [P3'], by simp [P3', X3], by simp [P3'], by simp [P3', X3], (fun e => by cases e), (fun e => by cases e)⟩, b2, hb⟩
section
variable (K : MPkg)
theorem hb4 (W : World) : Below W.heap.size W (W.alloc (.cells #[.int .i64 4] 3)) := (Below.refl _ _).alloc (Nat.le_refl _) _
theorem arg4 (W : World) : IRow (W.alloc (.cells #[.int .i64 4] 3)) (W.alloc (.cells #[.int .i64 4] 3)).heap.size (some ⟨W.heap.size, 0, none⟩) [4] := IRow.of_blk (ks := [4]) (Blk.new W 3 #[.int .i64 4]) (Blk.new W 3 #[.int .i64 4]).lt
include K
theorem r5 (g : Nat) (W : World) (h : (P5 g).Ok W) : Calls Try.prog 10 #[.agg #[.int .i64 1, .slice (some ⟨g, 0, none⟩) 1 1, .slice (some ⟨g + 1, 0, none⟩) 5 5], .slice (some ⟨W.heap.size, 0, none⟩) 1 1, .int .i64 5] (W.alloc (.cells #[.int .i64 4] 3)) fun e w' => Below W.heap.size W w' ∧ ∃ A c, e = .returned (.tuple #[.agg #[.int .i64 0, .int .i64 5, .int .i64 5, .slice A 0 c], .int .i64 0]) ∧ ERow w' w'.heap.size A [] := by
  refine (K.runAt (P5 g) (some ⟨W.heap.size, 0, none⟩) 1 [4] 5 (W.alloc (.cells #[.int .i64 4] 3)) (h.at (hb4 W)) (arg4 W) (by decide) (fun e => by cases e) (by decide) (n64 (by decide) (by decide)) (E := 0) (x5_right rfl (by decide) (by decide)) x5_run).mono ?_
  rintro e w' ⟨q, A, c, e1, e2⟩
  exact ⟨(hb4 W).trans (q.mono (hb4 W).size), A, c, e1, e2⟩
theorem r4 (g : Nat) (W : World) (h : (P5 g).Ok W) : Calls Try.prog 10 #[.agg #[.int .i64 1, .slice (some ⟨g, 0, none⟩) 1 1, .slice (some ⟨g + 1, 0, none⟩) 5 5], .slice (some ⟨W.heap.size, 0, none⟩) 1 1, .int .i64 4] (W.alloc (.cells #[.int .i64 4] 3)) fun e w' => Below W.heap.size W w' ∧ ∃ A c, e = .returned (.tuple #[.agg #[.int .i64 4, .int .i64 0, .int .i64 4, .slice A 0 c], .int .i64 0]) ∧ ERow w' w'.heap.size A [] := by
  refine (K.runAt (P5 g) (some ⟨W.heap.size, 0, none⟩) 1 [4] 4 (W.alloc (.cells #[.int .i64 4] 3)) (h.at (hb4 W)) (arg4 W) (by decide) (fun e => by cases e) (by decide) (n64 (by decide) (by decide)) (E := 0) (x5_right rfl (by decide) (by decide)) x5_out').mono ?_
  rintro e w' ⟨q, A, c, e1, e2⟩
  exact ⟨(hb4 W).trans (q.mono (hb4 W).size), A, c, e1, e2⟩
theorem rn0 (g : Nat) (W : World) (h : (P5 g).Ok W) : Calls Try.prog 10 #[.agg #[.int .i64 1, .slice (some ⟨g, 0, none⟩) 1 1, .slice (some ⟨g + 1, 0, none⟩) 5 5], .slice none 0 0, .int .i64 4] W fun e w' => Below W.heap.size W w' ∧ ∃ A c, e = .returned (.tuple #[.agg #[.int .i64 0, .int .i64 0, .int .i64 0, .slice A 0 c], .int .i64 18]) ∧ ERow w' w'.heap.size A [] :=
  K.runAt (P5 g) none 0 [] 4 W h (fun i x h => by simp at h) (by decide) (fun _ => rfl) (by decide) (n64 (by decide) (by decide)) (E := 18) x5_none (rrun_no (by rw [show mcheck (P5 g).ps (P5 g).vs (P5 g).xs ([] : List Int).length 4 = 18 from x5_none]; decide))
theorem rz (W : World) : Calls Try.prog 10 #[.agg #[.int .i64 0, .slice none 0 0, .slice none 0 0], .slice none 0 0, .int .i64 4] W fun e w' => Below W.heap.size W w' ∧ ∃ A c, e = .returned (.tuple #[.agg #[.int .i64 0, .int .i64 0, .int .i64 0, .slice A 0 c], .int .i64 23]) ∧ ERow w' w'.heap.size A [] :=
  K.runAt P0 none 0 [] 4 W (P0_ok W) (fun i x h => by simp at h) (by decide) (fun _ => rfl) (by decide) (n64 (by decide) (by decide)) (E := 23) x0_none (rrun_no (by rw [show mcheck P0.ps P0.vs P0.xs ([] : List Int).length 4 = 23 from x0_none]; decide))
theorem r3 (g : Nat) (W : World) (h : (P3' g).Ok W) : Calls Try.prog 10 #[.agg #[.int .i64 0, .slice (some ⟨g, 0, none⟩) 1 1, .slice (some ⟨g + 1, 0, none⟩) 3 3], .slice none 0 0, .int .i64 9] W fun e w' => Below W.heap.size W w' ∧ ∃ A c, e = .returned (.tuple #[.agg #[.int .i64 3, .int .i64 0, .int .i64 3, .slice A 1 c], .int .i64 0]) ∧ ERow w' w'.heap.size A [(0, -1, 7)] :=
  K.runAt (P3' g) none 0 [] 9 W h (fun i x h => by simp at h) (by decide) (fun _ => rfl) (by decide) (n64 (by decide) (by decide)) (E := 0) (x3_right (by decide) (by decide)) x3_run
theorem c1 (g : Nat) (f E : Int) (hf : N64 f) (hE : mcheck 1 [0] X5 1 f = E) (W : World) (h : (P5 g).Ok W) : Calls Try.prog 13 #[.agg #[.int .i64 1, .slice (some ⟨g, 0, none⟩) 1 1, .slice (some ⟨g + 1, 0, none⟩) 5 5], .slice (some ⟨W.heap.size, 0, none⟩) 1 1, .int .i64 f] (W.alloc (.cells #[.int .i64 4] 3)) fun e w' => e = .returned (.int .i64 E) ∧ Below W.heap.size W w' := by
  refine (K.check (P5 g) (some ⟨W.heap.size, 0, none⟩) 1 [4] f (W.alloc (.cells #[.int .i64 4] 3)) (h.at (hb4 W)) (arg4 W) (by decide) (fun e => by cases e) (by decide) hf).mono ?_
  rintro e w' ⟨e1, q⟩
  exact ⟨by rw [e1]; exact congrArg (fun z => Ending.returned (Value.int .i64 z)) hE, (hb4 W).trans (q.mono (hb4 W).size)⟩
end

set_option maxRecDepth 100000 in
set_option maxHeartbeats 8000000 in
theorem works_of (K : MPkg) : Works := by
  intro w
  obtain ⟨o1, b1, hb1⟩ := P5_made w
  obtain ⟨wP, hwP⟩ : ∃ wP, (((w.alloc (.cells #[.int .i64 0] 3)).alloc (.cells #[.int .i64 20, .int .i64 1, .int .i64 25, .int .i64 0, .int .i64 7, .int .i64 0, .int .i64 3, .int .i64 0, .int .i64 1, .int .i64 1] 44)).alloc (.cells #[.int .i64 1, .slice (some ⟨w.heap.size, 0, none⟩) 1 1, .slice (some ⟨w.heap.size + 1, 0, none⟩) 5 5] 25)) = wP := ⟨_, rfl⟩
  rw [hwP] at o1 b1 hb1
  have HWP := Lib.hid hwP
  have HZP := Lib.hid (show w.heap.size + 1 + 1 + 1 = wP.heap.size by rw [← hwP]; simp only [World.size_alloc])
  have HO := Lib.hid (fun W (hb : Below wP.heap.size wP W) => o1.at hb)
  have HX := Lib.hid (fun W (hb : Below wP.heap.size wP W) => (b1.below hb b1.lt).three)
  have HB := Lib.hid hb1
  have hlP := b1.lt
  have R5 := Lib.hid (fun W hb => r5 K w.heap.size W (HO.out W hb))
  have R4 := Lib.hid (fun (W : World) (n : Nat) (hn : n = W.heap.size) (hb : Below wP.heap.size wP W) => show Calls Try.prog 10 #[.agg #[.int .i64 1, .slice (some ⟨w.heap.size, 0, none⟩) 1 1, .slice (some ⟨w.heap.size + 1, 0, none⟩) 5 5], .slice (some ⟨n, 0, none⟩) 1 1, .int .i64 4] (W.alloc (.cells #[.int .i64 4] 3)) (fun e w' => Below W.heap.size W w' ∧ ∃ A c, e = .returned (.tuple #[.agg #[.int .i64 4, .int .i64 0, .int .i64 4, .slice A 0 c], .int .i64 0]) ∧ ERow w' w'.heap.size A []) from by subst hn; exact r4 K w.heap.size W (HO.out W hb))
  have RN := Lib.hid (fun W hb => rn0 K w.heap.size W (HO.out W hb))
  have RZ := Lib.hid (fun W => rz K W)
  have R3 := Lib.hid (fun g W h => r3 K g W h)
  have C1 := Lib.hid (fun (W : World) (n : Nat) (hn : n = W.heap.size) (hb : Below wP.heap.size wP W) => show Calls Try.prog 13 #[.agg #[.int .i64 1, .slice (some ⟨w.heap.size, 0, none⟩) 1 1, .slice (some ⟨w.heap.size + 1, 0, none⟩) 5 5], .slice (some ⟨n, 0, none⟩) 1 1, .int .i64 (-1)] (W.alloc (.cells #[.int .i64 4] 3)) (fun e w' => e = .returned (.int .i64 19) ∧ Below W.heap.size W w') from by subst hn; exact c1 K w.heap.size (-1) 19 (n64 (by decide) (by decide)) x5_fuel W (HO.out W hb))
  have C2 := Lib.hid (fun (W : World) (n : Nat) (hn : n = W.heap.size) (hb : Below wP.heap.size wP W) => show Calls Try.prog 13 #[.agg #[.int .i64 1, .slice (some ⟨w.heap.size, 0, none⟩) 1 1, .slice (some ⟨w.heap.size + 1, 0, none⟩) 5 5], .slice (some ⟨n, 0, none⟩) 1 1, .int .i64 0] (W.alloc (.cells #[.int .i64 4] 3)) (fun e w' => e = .returned (.int .i64 0) ∧ Below W.heap.size W w') from by subst hn; exact c1 K w.heap.size 0 0 (n64 (by decide) (by decide)) (x5_right rfl (by decide) (by decide)) W (HO.out W hb))
  have HM := Lib.hid (fun W => P3'_made W)
  clear o1 b1 hb1 hwP
  go_enter Try.func8, Try.ntmps8
  go_wp2_with (first
    | (go_at_call 10; first
        | (rw [HWP.out, HZP.out]; (with_reducible refine (R5.out _ (Below.refl _ _)).mono ?_); rintro e w2 ⟨hb2, A1, a1, rfl, -⟩
           have bA := Blk.new w2 32 #[.int .i64 0, .int .i64 5, .int .i64 5, .slice A1 0 a1]
           have hb3 := hb2.alloc hb2.size (.cells #[.int .i64 0, .int .i64 5, .int .i64 5, .slice A1 0 a1] 32)
           obtain ⟨p0, p1, p2⟩ := HX.out _ hb3)
        | ((with_reducible refine (R4.out _ _ (by simp) hb3).mono ?_); rintro e w4 ⟨hb4, A2, a2, rfl, -⟩
           have bA := bA.below hb4 bA.lt
           have hb4 := hb3.trans (hb4.mono hb3.size)
           have bB := Blk.new w4 32 #[.int .i64 4, .int .i64 0, .int .i64 4, .slice A2 0 a2]
           have bA := bA.alloc (.cells #[.int .i64 4, .int .i64 0, .int .i64 4, .slice A2 0 a2] 32)
           have hb5 := hb4.alloc hb4.size (.cells #[.int .i64 4, .int .i64 0, .int .i64 4, .slice A2 0 a2] 32)
           obtain ⟨p0, p1, p2⟩ := HX.out _ hb5)
        | ((with_reducible refine (RN.out _ hb5).mono ?_); rintro e w6 ⟨hb6, A3, a3, rfl, -⟩
           have bA := (bA.below hb6 bA.lt).alloc (.cells #[.int .i64 0, .int .i64 0, .int .i64 0, .slice A3 0 a3] 32)
           have bB := (bB.below hb6 bB.lt).alloc (.cells #[.int .i64 0, .int .i64 0, .int .i64 0, .slice A3 0 a3] 32)
           have hb6 := hb5.trans (hb6.mono hb5.size)
           have hb7 := hb6.alloc hb6.size (.cells #[.int .i64 0, .int .i64 0, .int .i64 0, .slice A3 0 a3] 32))
        | ((with_reducible refine (RZ.out _).mono ?_); rintro e w8 ⟨hb8, A4, a4, rfl, -⟩
           have bA := (bA.below hb8 bA.lt).alloc (.cells #[.int .i64 0, .int .i64 0, .int .i64 0, .slice A4 0 a4] 32)
           have bB := (bB.below hb8 bB.lt).alloc (.cells #[.int .i64 0, .int .i64 0, .int .i64 0, .slice A4 0 a4] 32)
           have hb8 := hb7.trans (hb8.mono hb7.size)
           have hb9 := hb8.alloc hb8.size (.cells #[.int .i64 0, .int .i64 0, .int .i64 0, .slice A4 0 a4] 32)
           obtain ⟨o3, bQ, hbQ⟩ := HM.out (w8.alloc (.cells #[.int .i64 0, .int .i64 0, .int .i64 0, .slice A4 0 a4] 32))
           have bA := bA.below hbQ bA.lt
           have bB := bB.below hbQ bB.lt
           have hb9 := hb9.trans (hbQ.mono hb9.size)
           simp only [World.size_alloc] at o3 bQ bA bB hb9
           have q3 := bQ.three)
        | ((with_reducible refine (R3.out _ _ o3).mono ?_); rintro e w10 ⟨hb10, A5, a5, rfl, hE5⟩
           have bA := bA.below hb10 bA.lt
           have bB := bB.below hb10 bB.lt
           have hb10 := hb9.trans (hb10.mono hb9.size)
           have bC := (Blk.new w10 32 #[.int .i64 3, .int .i64 0, .int .i64 3, .slice A5 1 a5]).alloc (.cells #[.int .i64 0, .int .i64 (-1), .int .i64 7] 41)
           have bA := (bA.alloc (.cells #[.int .i64 3, .int .i64 0, .int .i64 3, .slice A5 1 a5] 32)).alloc (.cells #[.int .i64 0, .int .i64 (-1), .int .i64 7] 41)
           have bB := (bB.alloc (.cells #[.int .i64 3, .int .i64 0, .int .i64 3, .slice A5 1 a5] 32)).alloc (.cells #[.int .i64 0, .int .i64 (-1), .int .i64 7] 41)
           have hbC := hb10.alloc hb10.size (.cells #[.int .i64 3, .int .i64 0, .int .i64 3, .slice A5 1 a5] 32)
           have hbE := hbC.alloc hbC.size (.cells #[.int .i64 0, .int .i64 (-1), .int .i64 7] 41)
           have hE5 := (hE5.at ((Below.refl _ _).alloc (Nat.le_refl _) (.cells #[.int .i64 3, .int .i64 0, .int .i64 3, .slice A5 1 a5] 32))).at ((Below.refl _ _).alloc (Nat.le_refl _) (.cells #[.int .i64 0, .int .i64 (-1), .int .i64 7] 41))
           have bE := Blk.new (w10.alloc (.cells #[.int .i64 3, .int .i64 0, .int .i64 3, .slice A5 1 a5] 32)) 41 #[.int .i64 0, .int .i64 (-1), .int .i64 7]
           have EV : Calls Try.prog 14 #[.slice A5 1 a5, .slice (some ⟨w10.heap.size + 1, 0, none⟩) 1 1] ((w10.alloc (.cells #[.int .i64 3, .int .i64 0, .int .i64 3, .slice A5 1 a5] 32)).alloc (.cells #[.int .i64 0, .int .i64 (-1), .int .i64 7] 41)) fun e w' => e = .returned (.bool true) ∧ Below ((w10.alloc (.cells #[.int .i64 3, .int .i64 0, .int .i64 3, .slice A5 1 a5] 32)).alloc (.cells #[.int .i64 0, .int .i64 (-1), .int .i64 7] 41)).heap.size ((w10.alloc (.cells #[.int .i64 3, .int .i64 0, .int .i64 3, .slice A5 1 a5] 32)).alloc (.cells #[.int .i64 0, .int .i64 (-1), .int .i64 7] 41)) w' := by
             have := ref_Events_any A5 a5 [(0, -1, 7)] (some ⟨w10.heap.size + 1, 0, none⟩) 1 [(0, -1, 7)] _ hE5 (by rw [show w10.heap.size + 1 = (w10.alloc (.cells #[.int .i64 3, .int .i64 0, .int .i64 3, .slice A5 1 a5] 32)).heap.size by simp]; exact ERow.one bE bE.lt) (by decide)
             rw [decide_eq_true rfl] at this
             exact this
           have EV := Lib.hid EV)
        | fail)
    | (go_at_call 14; (with_reducible refine EV.out.mono ?_); rintro e w12 ⟨rfl, hb12⟩
       obtain ⟨u0, u1, u2, -⟩ := blk4 (bA.below hb12 bA.lt)
       obtain ⟨v0, v1, v2, -⟩ := blk4 (bB.below hb12 bB.lt)
       obtain ⟨t0, t1, t2, -⟩ := blk4 (bC.below hb12 bC.lt)
       have hb12 := hbE.trans (hb12.mono hbE.size)
       obtain ⟨p0, p1, p2⟩ := HX.out _ hb12)
    | (go_at_call 13; first
        | ((with_reducible refine (C1.out _ _ (by first | rfl | simp) hb12).mono ?_); rintro e w13 ⟨rfl, hb13⟩
           have hb13 := hb12.trans (hb13.mono hb12.size)
           obtain ⟨p0, p1, p2⟩ := HX.out _ hb13)
        | ((with_reducible refine (C2.out _ _ (by first | rfl | simp) hb13).mono ?_); rintro e w14 ⟨rfl, hb14⟩
           have hb14 := hb13.trans (hb14.mono hb13.size))
        | fail)
    | fail)
  go_ret
  exact ⟨by simp, HB.out.trans (hb14.mono HB.out.size)⟩

end Go.Proofs.Ytobndhiihcejaaa.Mach
