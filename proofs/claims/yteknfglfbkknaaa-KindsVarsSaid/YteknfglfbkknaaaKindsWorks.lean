/-
  The laws of layer 9, walked on what the package's functions come to: the document's examples.
-/
import Derived.Test.YteknfglfbkknaaaKindsRefD
import Derived.Test.YteknfglfbkknaaaArenaWorks
namespace Go.Proofs.Yteknfglfbkknaaa.Kinds
open Go.RowKit Mem _root_.Go.Proofs.Yteknfglfbkknaaa.Arena
set_option linter.unusedVariables false
attribute [local go_sem ↓] Go.wp_at_zero Go.wp_at_succ

/-- What the package's functions come to. -/
structure Pkg : Prop where
  check : ∀ (p : Prg) (w : World), p.Ok w → Calls Try.prog 12 #[.agg #[.int .i64 p.ps, .slice p.A p.vs.length p.c, .slice p.B p.xs.length p.e]] w fun e w' => e = .returned (.int .i64 (pcheck p.ps p.vs p.xs)) ∧ Below w.heap.size w w'
  vars : ∀ (p : Prg) (w : World), p.Ok w → Calls Try.prog 14 #[.agg #[.int .i64 p.ps, .slice p.A p.vs.length p.c, .slice p.B p.xs.length p.e]] w fun e w' => e = .returned (.int .i64 (avars p.ps p.vs)) ∧ Below w.heap.size w w'
  size : ∀ (t : Int) (w : World), (Lit.int .i64 t).wf = true → Calls Try.prog 16 #[.int .i64 t] w fun e w' => e = .returned (.int .i64 (asz t)) ∧ Below w.heap.size w w'
  same : ∀ (p o : Prg) (w : World), p.Ok w → o.Ok w → Calls Try.prog 18 #[.agg #[.int .i64 p.ps, .slice p.A p.vs.length p.c, .slice p.B p.xs.length p.e], .agg #[.int .i64 o.ps, .slice o.A o.vs.length o.c, .slice o.B o.xs.length o.e]] w fun e w' => e = .returned (.bool (decide (p.vs = o.vs ∧ p.xs = o.xs ∧ p.ps = o.ps))) ∧ Below w.heap.size w w'
  of : ∀ (p : Prg) (a : Int) (w : World), p.Ok w → Calls Try.prog 19 #[.agg #[.int .i64 p.ps, .slice p.A p.vs.length p.c, .slice p.B p.xs.length p.e], .int .i64 a] w fun e w' => e = .returned (.int .i64 (okind p.vs p.xs a)) ∧ Below w.heap.size w w'

/-- The document's examples: Block 1, Return, Add, Var 0, Int 1; Block 1, Return, Bool 1. -/
def B5 : List Nd := [(20, 1), (25, 0), (7, 0), (3, 0), (1, 1)]
def B3 : List Nd := [(20, 1), (25, 0), (2, 1)]
theorem scan5 : scan 1 B5 = some B5.length := by simp [B5, scan_cons, scan_0, ar, asks]
theorem scan52 : scan 1 (B5.drop 2) = some 3 := by simp [B5, scan_cons, scan_0, ar, asks]
theorem scan3 : scan 1 B3 = some B3.length := by simp [B3, scan_cons, scan_0, ar, asks]
theorem scan32 : scan 1 (B3.drop 2) = some 1 := by simp [B3, scan_cons, scan_0, ar, asks]
theorem okind_whole {vs : List Int} {l : List Nd} (h : scan 1 l = some l.length) : okind vs l 0 = ((fold (kd vs) l).headD (-1, 0)).1 := by unfold okind val; rw [whole_part h]
theorem okind_at {vs : List Int} {l : List Nd} {k n : Nat} (h : scan 1 (l.drop k) = some n) : okind vs l k = ((fold (kd vs) ((l.drop k).take n)).headD (-1, 0)).1 := by
  unfold okind val apart
  rw [if_neg (by rw [aend_some h]; omega), aend_some h, Int.toNat_natCast, show ((k : Int) + n).toNat - k = n by omega]
theorem k50 : okind [0] B5 0 = 2 := by rw [okind_whole scan5]; decide +kernel
theorem k52 : okind [0] B5 2 = 0 := by
  have := okind_at (vs := [0]) (l := B5) (k := 2) scan52
  rw [show ((2 : Nat) : Int) = 2 from rfl] at this
  rw [this]; decide +kernel
theorem k30 : okind [] B3 0 = -1 := by rw [okind_whole scan3]; decide +kernel
theorem k32 : okind [] B3 2 = 1 := by
  have := okind_at (vs := []) (l := B3) (k := 2) scan32
  rw [show ((2 : Nat) : Int) = 2 from rfl] at this
  rw [this]; decide +kernel
theorem end_whole {l : List Nd} (h : scan 1 l = some l.length) : aend l 0 = l.length := by
  have := aend_some (l := l) (a := 0) (n := l.length) h
  simpa using this
theorem dep_whole {l : List Nd} (h : scan 1 l = some l.length) : stk l = [adep l 0] := by
  have := stk_whole (l := l) (k := 0) (n := l.length) h
  rw [List.drop_zero, List.take_length] at this
  exact this
theorem acheck5 : acheck B5 = 0 := by
  have hd : adep B5 0 = 4 := by have := dep_whole scan5; rw [show stk B5 = [4] by decide +kernel] at this; simpa using this.symm
  unfold acheck
  rw [end_whole scan5, hd]
  decide +kernel
theorem acheck3 : acheck B3 = 0 := by
  have hd : adep B3 0 = 3 := by have := dep_whole scan3; rw [show stk B3 = [3] by decide +kernel] at this; simpa using this.symm
  unfold acheck
  rw [end_whole scan3, hd]
  decide +kernel
theorem pcheck5 : pcheck 1 [0] B5 = 0 := by unfold pcheck; rw [acheck5, k50]; decide +kernel
theorem pcheck3 : pcheck 0 [] B3 = 15 := by unfold pcheck; rw [acheck3, k30]; decide +kernel

theorem av1 : avars 1 [0] = 0 := by decide +kernel
theorem av2 : avars 1 [] = 14 := by decide +kernel
def P1 (g : Nat) : Prg := ⟨1, some ⟨g, 0, none⟩, 1, [0], some ⟨g + 1, 0, none⟩, 5, B5⟩
def P2 (g : Nat) : Prg := ⟨0, none, 0, [], some ⟨g + 1 + 1 + 1, 0, none⟩, 3, B3⟩
def P3 : Prg := ⟨1, none, 0, [], none, 0, []⟩
theorem P3_ok (w : World) : P3.Ok w := ⟨fun i x h => by simp [P3] at h, fun i x h => by simp [P3] at h, by decide, by decide, by decide, by decide, fun _ => rfl, fun _ => rfl⟩

set_option maxRecDepth 100000 in
set_option maxHeartbeats 4000000 in
theorem works_any (C : Pkg) (w : World) : Calls Try.prog 9 #[] w fun e w' => e = .returned (.bool true) ∧ Below w.heap.size w w' := by
  obtain ⟨w5, hw5⟩ : ∃ w5, ((((w.alloc (.cells #[.int .i64 0] 3)).alloc (.cells #[.int .i64 20, .int .i64 1, .int .i64 25, .int .i64 0, .int .i64 7, .int .i64 0, .int .i64 3, .int .i64 0, .int .i64 1, .int .i64 1] 39)).alloc (.cells #[.int .i64 1, .slice (some ⟨w.heap.size, 0, none⟩) 1 1, .slice (some ⟨w.heap.size + 1, 0, none⟩) 5 5] 25)).alloc (.cells #[.int .i64 20, .int .i64 1, .int .i64 25, .int .i64 0, .int .i64 2, .int .i64 1] 39)).alloc (.cells #[.int .i64 0, .slice none 0 0, .slice (some ⟨w.heap.size + 1 + 1 + 1, 0, none⟩) 3 3] 25) = w5 := ⟨_, rfl⟩
  have b0 := ((((Blk.new w 3 #[.int .i64 0]).alloc (.cells #[.int .i64 20, .int .i64 1, .int .i64 25, .int .i64 0, .int .i64 7, .int .i64 0, .int .i64 3, .int .i64 0, .int .i64 1, .int .i64 1] 39)).alloc (.cells #[.int .i64 1, .slice (some ⟨w.heap.size, 0, none⟩) 1 1, .slice (some ⟨w.heap.size + 1, 0, none⟩) 5 5] 25)).alloc (.cells #[.int .i64 20, .int .i64 1, .int .i64 25, .int .i64 0, .int .i64 2, .int .i64 1] 39)).alloc (.cells #[.int .i64 0, .slice none 0 0, .slice (some ⟨w.heap.size + 1 + 1 + 1, 0, none⟩) 3 3] 25)
  have b1 := (((Blk.new (w.alloc (.cells #[.int .i64 0] 3)) 39 #[.int .i64 20, .int .i64 1, .int .i64 25, .int .i64 0, .int .i64 7, .int .i64 0, .int .i64 3, .int .i64 0, .int .i64 1, .int .i64 1]).alloc (.cells #[.int .i64 1, .slice (some ⟨w.heap.size, 0, none⟩) 1 1, .slice (some ⟨w.heap.size + 1, 0, none⟩) 5 5] 25)).alloc (.cells #[.int .i64 20, .int .i64 1, .int .i64 25, .int .i64 0, .int .i64 2, .int .i64 1] 39)).alloc (.cells #[.int .i64 0, .slice none 0 0, .slice (some ⟨w.heap.size + 1 + 1 + 1, 0, none⟩) 3 3] 25)
  have b2 := ((Blk.new ((w.alloc (.cells #[.int .i64 0] 3)).alloc (.cells #[.int .i64 20, .int .i64 1, .int .i64 25, .int .i64 0, .int .i64 7, .int .i64 0, .int .i64 3, .int .i64 0, .int .i64 1, .int .i64 1] 39)) 25 #[.int .i64 1, .slice (some ⟨w.heap.size, 0, none⟩) 1 1, .slice (some ⟨w.heap.size + 1, 0, none⟩) 5 5]).alloc (.cells #[.int .i64 20, .int .i64 1, .int .i64 25, .int .i64 0, .int .i64 2, .int .i64 1] 39)).alloc (.cells #[.int .i64 0, .slice none 0 0, .slice (some ⟨w.heap.size + 1 + 1 + 1, 0, none⟩) 3 3] 25)
  have b3 := (Blk.new (((w.alloc (.cells #[.int .i64 0] 3)).alloc (.cells #[.int .i64 20, .int .i64 1, .int .i64 25, .int .i64 0, .int .i64 7, .int .i64 0, .int .i64 3, .int .i64 0, .int .i64 1, .int .i64 1] 39)).alloc (.cells #[.int .i64 1, .slice (some ⟨w.heap.size, 0, none⟩) 1 1, .slice (some ⟨w.heap.size + 1, 0, none⟩) 5 5] 25)) 39 #[.int .i64 20, .int .i64 1, .int .i64 25, .int .i64 0, .int .i64 2, .int .i64 1]).alloc (.cells #[.int .i64 0, .slice none 0 0, .slice (some ⟨w.heap.size + 1 + 1 + 1, 0, none⟩) 3 3] 25)
  have b4 := Blk.new ((((w.alloc (.cells #[.int .i64 0] 3)).alloc (.cells #[.int .i64 20, .int .i64 1, .int .i64 25, .int .i64 0, .int .i64 7, .int .i64 0, .int .i64 3, .int .i64 0, .int .i64 1, .int .i64 1] 39)).alloc (.cells #[.int .i64 1, .slice (some ⟨w.heap.size, 0, none⟩) 1 1, .slice (some ⟨w.heap.size + 1, 0, none⟩) 5 5] 25)).alloc (.cells #[.int .i64 20, .int .i64 1, .int .i64 25, .int .i64 0, .int .i64 2, .int .i64 1] 39)) 25 #[.int .i64 0, .slice none 0 0, .slice (some ⟨w.heap.size + 1 + 1 + 1, 0, none⟩) 3 3]
  have hB : Below w.heap.size w w5 := by
    rw [← hw5]
    exact (((((Below.refl _ w).alloc (Nat.le_refl _) _).alloc (by simp) _).alloc (by simp; omega) _).alloc (by simp; omega) _).alloc (by simp; omega) _
  rw [hw5] at b0 b1 b2 b3 b4
  simp only [World.size_alloc] at b0 b1 b2 b3 b4
  have o1 : (P1 w.heap.size).Ok w5 := ⟨IRow.of_blk (ks := [0]) b0 b0.lt, Nodes.of_blk (xs := B5) b1 b1.lt, (by simp [P1]), (by simp [P1, B5]), (by simp [P1]), (by simp [P1, B5]), (fun e => by cases e), (fun e => by cases e)⟩
  have o2 : (P2 w.heap.size).Ok w5 := ⟨(fun i x h => by simp [P2] at h), Nodes.of_blk (xs := B3) b3 b3.lt, (by simp [P2]), (by simp [P2, B3]), (by simp [P2]), (by simp [P2, B3]), (fun _ => rfl), (fun e => by cases e)⟩
  have l2 := b2.lt
  have l4 := b4.lt
  have HC := Lib.hid (fun W (h : Below w5.heap.size w5 W) => And.intro (b2.below h l2).three (b4.below h l4).three)
  have HO := Lib.hid (fun W (h : Below w5.heap.size w5 W) => And.intro (o1.at h) (o2.at h))
  have HW := Lib.hid hw5
  have HB := Lib.hid hB
  have X := fun (g : Nat) => True
  have c1 := Lib.hid (fun W (h : (P1 w.heap.size).Ok W) => show Calls Try.prog 12 #[.agg #[.int .i64 1, .slice (some ⟨w.heap.size, 0, none⟩) 1 1, .slice (some ⟨w.heap.size + 1, 0, none⟩) 5 5]] W (fun e w' => e = .returned (.int .i64 0) ∧ Below W.heap.size W w') from (by have q := C.check (P1 w.heap.size) W h; rw [show pcheck (P1 w.heap.size).ps (P1 w.heap.size).vs (P1 w.heap.size).xs = 0 from pcheck5] at q; exact q))
  have c2 := Lib.hid (fun W (h : (P2 w.heap.size).Ok W) => show Calls Try.prog 12 #[.agg #[.int .i64 0, .slice none 0 0, .slice (some ⟨w.heap.size + 1 + 1 + 1, 0, none⟩) 3 3]] W (fun e w' => e = .returned (.int .i64 15) ∧ Below W.heap.size W w') from (by have q := C.check (P2 w.heap.size) W h; rw [show pcheck (P2 w.heap.size).ps (P2 w.heap.size).vs (P2 w.heap.size).xs = 15 from pcheck3] at q; exact q))
  have f1 := Lib.hid (fun W (h : (P1 w.heap.size).Ok W) => show Calls Try.prog 19 #[.agg #[.int .i64 1, .slice (some ⟨w.heap.size, 0, none⟩) 1 1, .slice (some ⟨w.heap.size + 1, 0, none⟩) 5 5], .int .i64 0] W (fun e w' => e = .returned (.int .i64 2) ∧ Below W.heap.size W w') from (by have q := C.of (P1 w.heap.size) 0 W h; rw [show okind (P1 w.heap.size).vs (P1 w.heap.size).xs 0 = 2 from k50] at q; exact q))
  have f2 := Lib.hid (fun W (h : (P1 w.heap.size).Ok W) => show Calls Try.prog 19 #[.agg #[.int .i64 1, .slice (some ⟨w.heap.size, 0, none⟩) 1 1, .slice (some ⟨w.heap.size + 1, 0, none⟩) 5 5], .int .i64 2] W (fun e w' => e = .returned (.int .i64 0) ∧ Below W.heap.size W w') from (by have q := C.of (P1 w.heap.size) 2 W h; rw [show okind (P1 w.heap.size).vs (P1 w.heap.size).xs 2 = 0 from k52] at q; exact q))
  have f3 := Lib.hid (fun W (h : (P2 w.heap.size).Ok W) => show Calls Try.prog 19 #[.agg #[.int .i64 0, .slice none 0 0, .slice (some ⟨w.heap.size + 1 + 1 + 1, 0, none⟩) 3 3], .int .i64 0] W (fun e w' => e = .returned (.int .i64 (-1)) ∧ Below W.heap.size W w') from (by have q := C.of (P2 w.heap.size) 0 W h; rw [show okind (P2 w.heap.size).vs (P2 w.heap.size).xs 0 = -1 from k30] at q; exact q))
  have f4 := Lib.hid (fun W (h : (P2 w.heap.size).Ok W) => show Calls Try.prog 19 #[.agg #[.int .i64 0, .slice none 0 0, .slice (some ⟨w.heap.size + 1 + 1 + 1, 0, none⟩) 3 3], .int .i64 2] W (fun e w' => e = .returned (.int .i64 1) ∧ Below W.heap.size W w') from (by have q := C.of (P2 w.heap.size) 2 W h; rw [show okind (P2 w.heap.size).vs (P2 w.heap.size).xs 2 = 1 from k32] at q; exact q))
  have s1 := Lib.hid (fun W (h : (P1 w.heap.size).Ok W) => show Calls Try.prog 18 #[.agg #[.int .i64 1, .slice (some ⟨w.heap.size, 0, none⟩) 1 1, .slice (some ⟨w.heap.size + 1, 0, none⟩) 5 5], .agg #[.int .i64 1, .slice (some ⟨w.heap.size, 0, none⟩) 1 1, .slice (some ⟨w.heap.size + 1, 0, none⟩) 5 5]] W (fun e w' => e = .returned (.bool true) ∧ Below W.heap.size W w') from (by have q := C.same (P1 w.heap.size) (P1 w.heap.size) W h h; rw [show decide ((P1 w.heap.size).vs = (P1 w.heap.size).vs ∧ (P1 w.heap.size).xs = (P1 w.heap.size).xs ∧ (P1 w.heap.size).ps = (P1 w.heap.size).ps) = true from (by simp)] at q; exact q))
  have s2 := Lib.hid (fun W (h : (P1 w.heap.size).Ok W) (h' : (P2 w.heap.size).Ok W) => show Calls Try.prog 18 #[.agg #[.int .i64 1, .slice (some ⟨w.heap.size, 0, none⟩) 1 1, .slice (some ⟨w.heap.size + 1, 0, none⟩) 5 5], .agg #[.int .i64 0, .slice none 0 0, .slice (some ⟨w.heap.size + 1 + 1 + 1, 0, none⟩) 3 3]] W (fun e w' => e = .returned (.bool false) ∧ Below W.heap.size W w') from (by have q := C.same (P1 w.heap.size) (P2 w.heap.size) W h h'; rw [show decide ((P1 w.heap.size).vs = (P2 w.heap.size).vs ∧ (P1 w.heap.size).xs = (P2 w.heap.size).xs ∧ (P1 w.heap.size).ps = (P2 w.heap.size).ps) = false from (by simp [P1, P2])] at q; exact q))
  have z1 := Lib.hid (fun W => show Calls Try.prog 16 #[.int .i64 9] W (fun e w' => e = .returned (.int .i64 8) ∧ Below W.heap.size W w') from (by have q := C.size 9 W (by decide); rw [show asz 9 = 8 from (by decide)] at q; exact q))
  have v1 := Lib.hid (fun W (h : (P1 w.heap.size).Ok W) => show Calls Try.prog 14 #[.agg #[.int .i64 1, .slice (some ⟨w.heap.size, 0, none⟩) 1 1, .slice (some ⟨w.heap.size + 1, 0, none⟩) 5 5]] W (fun e w' => e = .returned (.int .i64 0) ∧ Below W.heap.size W w') from (by have q := C.vars (P1 w.heap.size) W h; rw [show avars (P1 w.heap.size).ps (P1 w.heap.size).vs = 0 from av1] at q; exact q))
  have v2 := Lib.hid (fun W => show Calls Try.prog 14 #[.agg #[.int .i64 1, .slice none 0 0, .slice none 0 0]] W (fun e w' => e = .returned (.int .i64 14) ∧ Below W.heap.size W w') from (by have q := C.vars P3 W (P3_ok W); rw [show avars P3.ps P3.vs = 14 from av2] at q; exact q))
  clear b0 b1 b2 b3 b4 hw5 hB o1 o2 l2 l4 X

  go_enter Try.func9, Try.ntmps9
  go_wp2_with fail
  rw [HW.out]
  obtain ⟨q1, q2⟩ := HO.out _ (Below.refl _ _)
  refine (c1.out _ q1).mono ?_
  rintro e w6 ⟨rfl, hB⟩
  obtain ⟨q1, q2⟩ := HO.out _ hB
  obtain ⟨⟨m0, m1, m2⟩, ⟨n0, n1, n2⟩⟩ := HC.out _ hB
  go_wp2_with (first
    | (go_at_call 12; ((with_reducible refine (c2.out _ q2).mono ?_); rintro e w7 ⟨rfl, hb⟩; have hB := hB.trans (hb.mono hB.size); obtain ⟨q1, q2⟩ := HO.out _ hB; obtain ⟨⟨m0, m1, m2⟩, ⟨n0, n1, n2⟩⟩ := HC.out _ hB))
    | (go_at_call 19; first
        | ((with_reducible refine (f1.out _ q1).mono ?_); rintro e w7 ⟨rfl, hb⟩; have hB := hB.trans (hb.mono hB.size); obtain ⟨q1, q2⟩ := HO.out _ hB; obtain ⟨⟨m0, m1, m2⟩, ⟨n0, n1, n2⟩⟩ := HC.out _ hB)
        | ((with_reducible refine (f2.out _ q1).mono ?_); rintro e w7 ⟨rfl, hb⟩; have hB := hB.trans (hb.mono hB.size); obtain ⟨q1, q2⟩ := HO.out _ hB; obtain ⟨⟨m0, m1, m2⟩, ⟨n0, n1, n2⟩⟩ := HC.out _ hB)
        | ((with_reducible refine (f3.out _ q2).mono ?_); rintro e w7 ⟨rfl, hb⟩; have hB := hB.trans (hb.mono hB.size); obtain ⟨q1, q2⟩ := HO.out _ hB; obtain ⟨⟨m0, m1, m2⟩, ⟨n0, n1, n2⟩⟩ := HC.out _ hB)
        | ((with_reducible refine (f4.out _ q2).mono ?_); rintro e w7 ⟨rfl, hb⟩; have hB := hB.trans (hb.mono hB.size); obtain ⟨q1, q2⟩ := HO.out _ hB; obtain ⟨⟨m0, m1, m2⟩, ⟨n0, n1, n2⟩⟩ := HC.out _ hB))
    | (go_at_call 18; first
        | ((with_reducible refine (s1.out _ q1).mono ?_); rintro e w7 ⟨rfl, hb⟩; have hB := hB.trans (hb.mono hB.size); obtain ⟨q1, q2⟩ := HO.out _ hB; obtain ⟨⟨m0, m1, m2⟩, ⟨n0, n1, n2⟩⟩ := HC.out _ hB)
        | ((with_reducible refine (s2.out _ q1 q2).mono ?_); rintro e w7 ⟨rfl, hb⟩; have hB := hB.trans (hb.mono hB.size); obtain ⟨q1, q2⟩ := HO.out _ hB; obtain ⟨⟨m0, m1, m2⟩, ⟨n0, n1, n2⟩⟩ := HC.out _ hB))
    | (go_at_call 16; ((with_reducible refine (z1.out _).mono ?_); rintro e w7 ⟨rfl, hb⟩; have hB := hB.trans (hb.mono hB.size); obtain ⟨q1, q2⟩ := HO.out _ hB; obtain ⟨⟨m0, m1, m2⟩, ⟨n0, n1, n2⟩⟩ := HC.out _ hB))
    | (go_at_call 14; first
        | ((with_reducible refine (v1.out _ q1).mono ?_); rintro e w7 ⟨rfl, hb⟩; have hB := hB.trans (hb.mono hB.size); obtain ⟨q1, q2⟩ := HO.out _ hB; obtain ⟨⟨m0, m1, m2⟩, ⟨n0, n1, n2⟩⟩ := HC.out _ hB)
        | ((with_reducible refine (v2.out _).mono ?_); rintro e w7 ⟨rfl, hb⟩; have hB := hB.trans (hb.mono hB.size); obtain ⟨q1, q2⟩ := HO.out _ hB; obtain ⟨⟨m0, m1, m2⟩, ⟨n0, n1, n2⟩⟩ := HC.out _ hB)))
  go_ret
  exact ⟨rfl, HB.out.trans (hB.mono HB.out.size)⟩

end Go.Proofs.Yteknfglfbkknaaa.Kinds
