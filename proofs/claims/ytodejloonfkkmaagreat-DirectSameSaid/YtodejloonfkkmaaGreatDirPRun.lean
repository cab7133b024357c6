/-
  Package direct, walked: Run, Out: what the package comes to.
-/
import Derived.Test.YtodejloonfkkmaaGreatDirPThru
import Derived.Test.YtodejloonfkkmaaGreatDirPkg
import Derived.Test.YtodejloonfkkmaaGreatMachPChk
set_option linter.unusedVariables false
set_option linter.unusedSimpArgs false
namespace Go.Proofs.YtodejloonfkkmaaGreat.Dir
open Go.RowKit Mem _root_.Go.Proofs.YtodejloonfkkmaaGreat.Arena _root_.Go.Proofs.YtodejloonfkkmaaGreat.Kinds _root_.Go.Proofs.YtodejloonfkkmaaGreat.Path _root_.Go.Proofs.YtodejloonfkkmaaGreat.Cat _root_.Go.Proofs.YtodejloonfkkmaaGreat.Suite _root_.Go.Proofs.YtodejloonfkkmaaGreat.Mach
attribute [local go_sem ↓] Go.wp_at_zero Go.wp_at_succ

set_option maxRecDepth 100000 in
set_option maxHeartbeats 4000000 in
theorem drun_bad (p : Prg) (A : Option Addr) (c : Nat) (args : List Int) (f : Int) (w : World) (hp : p.Ok w) (hm : mcheck p.ps p.vs p.xs args.length f ≠ 0) :
    Calls Tryz.prog 7 #[.agg #[.int .i64 p.ps, .slice p.A p.vs.length p.c, .slice p.B p.xs.length p.e], .slice A args.length c, .int .i64 f] w fun e w' => e = .returned (.tuple #[Rn.zero.val, .int .i64 (mcheck p.ps p.vs p.xs args.length f)]) ∧ Below w.heap.size w w' := by
  have hb0 : Below w.heap.size w (w.alloc (.cells #[.int .i64 p.ps, .slice p.A p.vs.length p.c, .slice p.B p.xs.length p.e] 25)) := (Below.refl _ _).alloc (Nat.le_refl _) _
  have hb1 := hb0.alloc hb0.size (.cells #[.int .i64 0, .int .i64 0, .int .i64 0, .slice none 0 0] 32)
  have bX := (Blk.new w 25 #[.int .i64 p.ps, .slice p.A p.vs.length p.c, .slice p.B p.xs.length p.e]).alloc (.cells #[.int .i64 0, .int .i64 0, .int .i64 0, .slice none 0 0] 32)
  have bR := Blk.new (w.alloc (.cells #[.int .i64 p.ps, .slice p.A p.vs.length p.c, .slice p.B p.xs.length p.e] 25)) 32 #[.int .i64 0, .int .i64 0, .int .i64 0, .slice none 0 0]
  simp only [World.size_alloc] at bR
  obtain ⟨x0, x1, x2⟩ := bX.three
  obtain ⟨w1, hw1⟩ : ∃ w1, (w.alloc (.cells #[.int .i64 p.ps, .slice p.A p.vs.length p.c, .slice p.B p.xs.length p.e] 25)).alloc (.cells #[.int .i64 0, .int .i64 0, .int .i64 0, .slice none 0 0] 32) = w1 := ⟨_, rfl⟩
  rw [hw1] at hb1 bX bR
  have HC := Lib.hid (check_any p A c args.length f w1 (hp.at hb1))
  have HW := Lib.hid hw1
  have HB := Lib.hid hb1
  have HR := Lib.hid (fun W (hb : Below w1.heap.size w1 W) => bR.below hb bR.lt)
  generalize mcheck p.ps p.vs p.xs args.length f = E at *
  have e1 : (E != 0) = true := by simpa using hm
  clear hp hb0 hb1 bX bR hw1
  go_enter Tryz.func7, Tryz.ntmps7
  go_wp2_with (first
    | (go_at_call 12; rw [HW.out]; (with_reducible refine HC.out.mono ?_); rintro e w3 ⟨rfl, hb3⟩
       have bR3 := HR.out _ hb3
       have r0 := bR3.cell 0
       have r1 := bR3.cell 1
       have r2 := bR3.cell 2
       have r3 := bR3.cell 3
       have rf := bR3.frozen)
    | fail)
  refine bodyPost_ret (v := .tuple #[Rn.zero.val, .int .i64 E]) (by simp [results, Tryz.results7, go_sem, r0, r1, r2, r3, Rn.zero, Rn.val]) rfl ?_
  exact ⟨rfl, ((((HB.out.trans (hb3.mono HB.out.size)).setCell (p := ⟨w.heap.size + 1, 0, none⟩) (Nat.le_succ _) _).setCell (p := ⟨w.heap.size + 1, 1, none⟩) (Nat.le_succ _) _).setCell (p := ⟨w.heap.size + 1, 2, none⟩) (Nat.le_succ _) _).setCell (p := ⟨w.heap.size + 1, 3, none⟩) (Nat.le_succ _) _⟩
set_option maxRecDepth 100000 in
set_option maxHeartbeats 8000000 in
theorem drun_good (p : Prg) (A : Option Addr) (c : Nat) (args : List Int) (fn : Nat) (w : World) (hp : p.Ok w) (hA : IRow w w.heap.size A args) (hm : MRight p.ps p.vs p.xs args.length (fn : Int)) :
    Calls Tryz.prog 7 #[.agg #[.int .i64 p.ps, .slice p.A p.vs.length p.c, .slice p.B p.xs.length p.e], .slice A args.length c, .int .i64 (fn : Int)] w (REnds p.vs p.xs args fn w) := by
  have hb0 : Below w.heap.size w (w.alloc (.cells #[.int .i64 p.ps, .slice p.A p.vs.length p.c, .slice p.B p.xs.length p.e] 25)) := (Below.refl _ _).alloc (Nat.le_refl _) _
  have hb1 := hb0.alloc hb0.size (.cells #[.int .i64 0, .int .i64 0, .int .i64 0, .slice none 0 0] 32)
  have bX := (Blk.new w 25 #[.int .i64 p.ps, .slice p.A p.vs.length p.c, .slice p.B p.xs.length p.e]).alloc (.cells #[.int .i64 0, .int .i64 0, .int .i64 0, .slice none 0 0] 32)
  have bR := Blk.new (w.alloc (.cells #[.int .i64 p.ps, .slice p.A p.vs.length p.c, .slice p.B p.xs.length p.e] 25)) 32 #[.int .i64 0, .int .i64 0, .int .i64 0, .slice none 0 0]
  simp only [World.size_alloc] at bR
  obtain ⟨x0, x1, x2⟩ := bX.three
  obtain ⟨w1, hw1⟩ : ∃ w1, (w.alloc (.cells #[.int .i64 p.ps, .slice p.A p.vs.length p.c, .slice p.B p.xs.length p.e] 25)).alloc (.cells #[.int .i64 0, .int .i64 0, .int .i64 0, .slice none 0 0] 32) = w1 := ⟨_, rfl⟩
  rw [hw1] at hb1 bX bR
  have HC := Lib.hid (check_any p A c args.length fn w1 (hp.at hb1))
  rw [mcheck_zero.2 hm] at HC
  have HW := Lib.hid hw1
  have HB := Lib.hid hb1
  have HX := Lib.hid (fun W (hb : Below w1.heap.size w1 W) => (bX.below hb bX.lt).three)
  have HR := Lib.hid (fun W (hb : Below w1.heap.size w1 W) => bR.below hb bR.lt)
  have HS := Lib.hid (fun W (hb : Below w1.heap.size w1 W) => start_any p A c args fn W ((hp.at hb1).at hb) ((hA.at hb1).at hb) hm)
  have hf1 : fn ≤ 10000 := by have := hm.f1; omega
  have HO := Lib.hid (fun (w2 w3 : World) (K : DK) (κ : Nat → Nat) (Y : List ((Option Addr × Nat) × List Int)) (h : DM K κ (.slice none 0 0) Y (begin_ p.vs args fn) 0 w3) (hb : Below w2.heap.size w2 w3) (hbase : w2.heap.size ≤ K.base) (hkp : K.p = p) (hkf : K.F = fn) =>
    show Calls Tryz.prog 16 #[.pointer (some ⟨K.g, 0, none⟩)] w3 fun e w' => e = .returned (.tuple #[]) ∧ ∃ A c, RunOutD w2 (mrun p.vs p.xs args fn) K.g A c w' from by
      have := through_any hb hbase h ⟨rfl, by rw [hkp]; exact hm.begin rfl fn, ⟨Nat.le_refl _, by show 0 + fn ≤ 10000; omega⟩, by rw [hkf]; show 0 + fn = fn; omega⟩ (by rw [hkp]; exact hm.all) (by rw [hkp]; exact hm.whole) (by rw [hkf]; exact hf1)
      rw [hkp] at this
      exact this)
  have hev : (mrun p.vs p.xs args fn).ev.length ≤ 1000000 := by
    have h1 := few_mean p.xs 0 (begin_ p.vs args fn) rfl
    have h2 := (nice_mean p.xs 0).sum (begin_ p.vs args fn) rfl
    have h0 : (mrun p.vs p.xs args fn).ev = (mean p.xs 0 (begin_ p.vs args fn)).1.ev := (stop_steps _ 3 0).2.1
    rw [h0]
    have h3 : (begin_ p.vs args fn).ev.length = 0 := rfl
    have h4 : (begin_ p.vs args fn).steps + (begin_ p.vs args fn).fuel = 0 + fn := rfl
    omega
  unfold REnds
  generalize mrun p.vs p.xs args fn = s6 at *
  clear hp hA hb0 hb1 bX bR hw1 hm hf1
  go_enter Tryz.func7, Tryz.ntmps7
  go_wp2_with (first
    | (go_at_call 12; rw [HW.out]; (with_reducible refine HC.out.mono ?_); rintro e w2 ⟨rfl, hb2⟩
       obtain ⟨y0, y1, y2⟩ := HX.out _ hb2)
    | (go_at_call 15; (with_reducible refine (HS.out _ hb2).mono ?_); rintro e w3 ⟨K, κ, Y, rfl, h3, hb3, hbase, hkp, hkf⟩
       have HOO := Lib.hid (HO.out w2 w3 K κ Y h3 hb3 hbase hkp hkf)
       clear h3 hbase hkp hkf)
    | (go_at_call 16; (with_reducible refine HOO.out.mono ?_); rintro e w4 ⟨rfl, A', c', hO⟩
       have z0 := hO.z0
       have z1 := hO.z1
       have z2 := hO.z2
       have z3 := hO.z3
       have bR4 := HR.out _ (hb2.trans (hO.below.mono hb2.size))
       have r0 := bR4.cell 0
       have r1 := bR4.cell 1
       have r2 := bR4.cell 2
       have r3 := bR4.cell 3
       have rf := bR4.frozen
       have hglt := hO.lt
       have HOH := Lib.hid hO
       clear hO)
    | fail)
  have hO := HOH.out
  have hlt2 := (HR.out _ hb2).lt
  have hB4 : Below w.heap.size w w4 := (HB.out.trans (hb2.mono HB.out.size)).trans (hO.below.mono (Nat.le_trans HB.out.size hb2.size))
  refine bodyPost_ret (v := .tuple #[.agg #[.int .i64 s6.kind, .int .i64 s6.value, .int .i64 s6.steps, .slice A' s6.ev.length c'], .int .i64 0]) (by simp [results, Tryz.results7, go_sem, r0, r1, r2, r3]) rfl ?_
  have hb7 := (((hB4.setCell (p := ⟨w.heap.size + 1, 0, none⟩) (Nat.le_succ _) (.int .i64 s6.kind)).setCell (p := ⟨w.heap.size + 1, 1, none⟩) (Nat.le_succ _) (.int .i64 s6.value)).setCell (p := ⟨w.heap.size + 1, 2, none⟩) (Nat.le_succ _) (.int .i64 s6.steps)).setCell (p := ⟨w.heap.size + 1, 3, none⟩) (Nat.le_succ _) (.slice A' s6.ev.length c')
  refine ⟨hb7, A', c', rfl, ?_, hO.cap, hO.none_, hev⟩
  have hne : ∀ ad, A' = some ad → ad.block ≠ w.heap.size + 1 := fun ad e => by have := hO.far ad e; omega
  have h4 := (((hO.row.far 0 (.int .i64 s6.kind) hne).far 1 (.int .i64 s6.value) hne).far 2 (.int .i64 s6.steps) hne).far 3 (.slice A' s6.ev.length c') hne
  intro i e hi
  obtain ⟨ad, q1, q2, q3⟩ := h4 i e hi
  exact ⟨ad, q1, by simpa using q2, q3⟩
theorem drun_any (p : Prg) (A : Option Addr) (c : Nat) (args : List Int) (f : Int) (w : World) (hp : p.Ok w) (hA : IRow w w.heap.size A args) :
    Calls Tryz.prog 7 #[.agg #[.int .i64 p.ps, .slice p.A p.vs.length p.c, .slice p.B p.xs.length p.e], .slice A args.length c, .int .i64 f] w (RunEnds p args f w) := by
  by_cases hm : mcheck p.ps p.vs p.xs args.length f = 0
  · have h := mcheck_zero.1 hm
    obtain ⟨fn, rfl⟩ := Int.eq_ofNat_of_zero_le h.f0
    refine (drun_good p A c args fn w hp hA h).mono ?_
    rintro e w' ⟨hb, A', c', he, hok⟩
    unfold RunEnds rrun
    rw [if_pos hm, hm, Int.toNat_natCast]
    exact ⟨hb, A', c', he, hok⟩
  · refine (drun_bad p A c args f w hp hm).mono ?_
    rintro e w' ⟨rfl, hb⟩
    unfold RunEnds rrun
    rw [if_neg hm]
    exact ⟨hb, none, 0, rfl, Rn.zero_ok _⟩
set_option maxRecDepth 100000 in
set_option maxHeartbeats 1000000 in
theorem dout_any (p : Prg) (A : Option Addr) (c : Nat) (args : List Int) (f : Int) (w : World) (hp : p.Ok w) (hA : IRow w w.heap.size A args) :
    Calls Tryz.prog 13 #[.agg #[.int .i64 p.ps, .slice p.A p.vs.length p.c, .slice p.B p.xs.length p.e], .slice A args.length c, .int .i64 f] w fun e w' => e = .returned (.agg #[.int .i64 (rrun p.ps p.vs p.xs args f).kind, .int .i64 (rrun p.ps p.vs p.xs args f).value]) ∧ Below w.heap.size w w' := by
  have hb0 : Below w.heap.size w (w.alloc (.cells #[.int .i64 p.ps, .slice p.A p.vs.length p.c, .slice p.B p.xs.length p.e] 25)) := (Below.refl _ _).alloc (Nat.le_refl _) _
  have HR := Lib.hid (fun W (hb : Below w.heap.size w W) => (drun_any p A c args f W (hp.at hb) (hA.at hb)).mono (RunEnds.open p args f W))
  generalize rrun p.ps p.vs p.xs args f = s at *
  generalize mcheck p.ps p.vs p.xs args.length f = E at *
  have hb1 := hb0.alloc hb0.size (.cells #[.int .i64 0, .int .i64 0] 29)
  have bO := Blk.new (w.alloc (.cells #[.int .i64 p.ps, .slice p.A p.vs.length p.c, .slice p.B p.xs.length p.e] 25)) 29 #[.int .i64 0, .int .i64 0]
  have HB := Lib.hid hb1
  have HO := Lib.hid bO
  have HL := Lib.hid (show w.heap.size ≤ (w.alloc (.cells #[.int .i64 p.ps, .slice p.A p.vs.length p.c, .slice p.B p.xs.length p.e] 25)).heap.size by simp)
  clear hp hA hb0 hb1 bO
  go_enter Tryz.func13, Tryz.ntmps13
  go_wp2_with (first
    | (go_at_call 7; (with_reducible refine (HR.out _ HB.out).mono ?_); rintro e w4 ⟨hb4, A1, c1, rfl, ok1⟩
       have bO := (HO.out.below hb4 HO.out.lt).alloc (.cells #[.int .i64 s.kind, .int .i64 s.value, .int .i64 s.steps, .slice A1 s.ev.length c1] 32)
       have hb4 := HB.out.trans (hb4.mono HB.out.size)
       have bA := Blk.new w4 32 #[.int .i64 s.kind, .int .i64 s.value, .int .i64 s.steps, .slice A1 s.ev.length c1]
       have hb5 := hb4.alloc hb4.size (.cells #[.int .i64 s.kind, .int .i64 s.value, .int .i64 s.steps, .slice A1 s.ev.length c1] 32)
       rw [World.size_alloc] at bO
       obtain ⟨x0, x1, x2, x3⟩ := blk4 bA
       obtain ⟨z0, z1⟩ := bO.two
       have fz := bO.frozen)
    | fail)
  obtain ⟨r0, r1⟩ := ((bO.set 0 (.int .i64 s.kind)).set 1 (.int .i64 s.value)).two
  refine bodyPost_ret (v := .agg #[.int .i64 s.kind, .int .i64 s.value]) (by simp [results, Tryz.results13, go_sem, r0, r1]) rfl ?_
  exact ⟨rfl, (hb5.setCell (p := ⟨w.heap.size + 1, 0, none⟩) (Nat.le_succ _) _).setCell (p := ⟨w.heap.size + 1, 1, none⟩) (Nat.le_succ _) _⟩
/-- WHAT THE PACKAGE COMES TO. -/
theorem dpkg : DPkg where
  run := fun p A c args f w hp hA _ _ _ _ => drun_any p A c args f w hp hA
  out := fun p A c args f w hp hA _ _ _ _ => dout_any p A c args f w hp hA
end Go.Proofs.YtodejloonfkkmaaGreat.Dir
