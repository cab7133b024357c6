/-
  Package machine, walked: Run.
-/
import Derived.Test.YtodejloonfkkmaaGreatMachPStart
import Derived.Test.YtodejloonfkkmaaGreatMachPOut
import Derived.Test.YtodejloonfkkmaaGreatMachPChk
import Derived.Test.YtodejloonfkkmaaGreatMachK
set_option linter.unusedVariables false
set_option linter.unusedSimpArgs false
namespace Go.Proofs.YtodejloonfkkmaaGreat.Mach
open Go.RowKit Mem _root_.Go.Proofs.YtodejloonfkkmaaGreat.Arena _root_.Go.Proofs.YtodejloonfkkmaaGreat.Kinds _root_.Go.Proofs.YtodejloonfkkmaaGreat.Path _root_.Go.Proofs.YtodejloonfkkmaaGreat.Cat _root_.Go.Proofs.YtodejloonfkkmaaGreat.Suite
attribute [local go_sem ↓] Go.wp_at_zero Go.wp_at_succ

set_option maxRecDepth 100000 in
set_option maxHeartbeats 4000000 in
theorem run_bad (p : Prg) (A : Option Addr) (c : Nat) (args : List Int) (f : Int) (w : World) (hp : p.Ok w) (hm : mcheck p.ps p.vs p.xs args.length f ≠ 0) :
    Calls Tryz.prog 8 #[.agg #[.int .i64 p.ps, .slice p.A p.vs.length p.c, .slice p.B p.xs.length p.e], .slice A args.length c, .int .i64 f] w fun e w' => e = .returned (.tuple #[Rn.zero.val, .int .i64 (mcheck p.ps p.vs p.xs args.length f)]) ∧ Below w.heap.size w w' := by
  have hb0 : Below w.heap.size w (w.alloc (.cells #[.int .i64 p.ps, .slice p.A p.vs.length p.c, .slice p.B p.xs.length p.e] 25)) := (Below.refl _ _).alloc (Nat.le_refl _) _
  have hb1 := hb0.alloc hb0.size (.cells #[.int .i64 0, .int .i64 0, .int .i64 0, .slice none 0 0] 32)
  have bX := (Blk.new w 25 #[.int .i64 p.ps, .slice p.A p.vs.length p.c, .slice p.B p.xs.length p.e]).alloc (.cells #[.int .i64 0, .int .i64 0, .int .i64 0, .slice none 0 0] 32)
  have bR := Blk.new (w.alloc (.cells #[.int .i64 p.ps, .slice p.A p.vs.length p.c, .slice p.B p.xs.length p.e] 25)) 32 #[.int .i64 0, .int .i64 0, .int .i64 0, .slice none 0 0]
  simp only [World.size_alloc] at bR
  obtain ⟨x0, x1, x2⟩ := bX.three
  obtain ⟨w1, hw1⟩ : ∃ w1, (w.alloc (.cells #[.int .i64 p.ps, .slice p.A p.vs.length p.c, .slice p.B p.xs.length p.e] 25)).alloc (.cells #[.int .i64 0, .int .i64 0, .int .i64 0, .slice none 0 0] 32) = w1 := ⟨_, rfl⟩
  rw [hw1] at hb1 bX bR
  have HC := Lib.hid (check_any p A c args.length f w1 (hp.at hb1))
  have HW := Lib.hid hw1
  have HB := Lib.hid hb1
  have HR := Lib.hid (fun W (hb : Below w1.heap.size w1 W) => bR.below hb bR.lt)
  generalize mcheck p.ps p.vs p.xs args.length f = E at *
  have e1 : (E != 0) = true := by simpa using hm
  clear hp hb0 hb1 bX bR hw1
  go_enter Tryz.func8, Tryz.ntmps8
  go_wp2_with (first
    | (go_at_call 12; rw [HW.out]; (with_reducible refine HC.out.mono ?_); rintro e w3 ⟨rfl, hb3⟩
       have bR3 := HR.out _ hb3
       have r0 := bR3.cell 0
       have r1 := bR3.cell 1
       have r2 := bR3.cell 2
       have r3 := bR3.cell 3
       have rf := bR3.frozen)
    | fail)
  refine bodyPost_ret (v := .tuple #[Rn.zero.val, .int .i64 E]) (by simp [results, Tryz.results8, go_sem, r0, r1, r2, r3, Rn.zero, Rn.val]) rfl ?_
  exact ⟨rfl, ((((HB.out.trans (hb3.mono HB.out.size)).setCell (p := ⟨w.heap.size + 1, 0, none⟩) (Nat.le_succ _) _).setCell (p := ⟨w.heap.size + 1, 1, none⟩) (Nat.le_succ _) _).setCell (p := ⟨w.heap.size + 1, 2, none⟩) (Nat.le_succ _) _).setCell (p := ⟨w.heap.size + 1, 3, none⟩) (Nat.le_succ _) _⟩
/-- What the run itself comes to: where its struct lies, and its events. -/
structure RunOut (w2 : World) (s : St) (g : Nat) (A : Option Addr) (c : Nat) (w' : World) : Prop where
  below : Below w2.heap.size w2 w'
  g2 : w2.heap.size ≤ g
  z0 : w'.cell? ⟨g, 0, none⟩ = some (.int .i64 0)
  z1 : w'.cell? ⟨g, 1, none⟩ = some (.int .i64 0)
  z2 : w'.cell? ⟨g, 2, none⟩ = some (.int .i64 s.steps)
  z3 : w'.cell? ⟨g, 3, none⟩ = some (.slice A s.ev.length c)
  fz : ∀ j, w'.frozen? ⟨g, j, none⟩ = false
  lt : g < w'.heap.size
  row : ERow w' w'.heap.size A s.ev
  cap : s.ev.length ≤ c
  none_ : A = none → c = 0
  far : ∀ ad, A = some ad → w2.heap.size ≤ ad.block ∧ ad.block ≠ g
theorem runOut_of {p : Prg} {args : List Int} {F : Nat} {w2 w3 w4 : World} {K : PK} {κ κ' : Nat → Nat} {evv0 sv0 evv sv : Value} {Y0 Y : List ((Option Addr × Nat) × List Int)} {s0 s : St} {S0 S : List Fr} (h3 : PM K κ evv0 sv0 Y0 s0 S0 w3) (hb3 : Below w2.heap.size w2 w3) (hbase : w2.heap.size ≤ K.base) (h4 : PM K κ' evv sv Y s S w4) (hw : Went κ κ' w3 w4) :
    ∃ A c, RunOut w2 s K.g A c w4 := by
  obtain ⟨A, c, rfl, hc, hA, hE, hlo⟩ := own_events h4.er
  refine ⟨A, c, hb3.trans (hw.kept.to_below hb3.size fun k q => Nat.le_trans hbase (h3.lab.lt k q).1), Nat.le_trans hbase h4.glt.1, h4.cell 0, h4.cell 1, h4.cell 2, h4.cell 3, h4.blk.frozen, h4.glt.2, hE, hc, hA, fun ad e => ⟨Nat.le_trans hbase (hlo ad e), fun q => ?_⟩⟩
  subst e
  have h := h4.lab.e ad.block rfl
  rw [q, h4.lab.g] at h
  cases h
set_option maxRecDepth 100000 in
set_option maxHeartbeats 8000000 in
theorem run_good (p : Prg) (A : Option Addr) (c : Nat) (args : List Int) (fn : Nat) (w : World) (hp : p.Ok w) (hA : IRow w w.heap.size A args) (hm : MRight p.ps p.vs p.xs args.length (fn : Int)) :
    Calls Tryz.prog 8 #[.agg #[.int .i64 p.ps, .slice p.A p.vs.length p.c, .slice p.B p.xs.length p.e], .slice A args.length c, .int .i64 (fn : Int)] w (REnds p.vs p.xs args fn w) := by
  have hb0 : Below w.heap.size w (w.alloc (.cells #[.int .i64 p.ps, .slice p.A p.vs.length p.c, .slice p.B p.xs.length p.e] 25)) := (Below.refl _ _).alloc (Nat.le_refl _) _
  have hb1 := hb0.alloc hb0.size (.cells #[.int .i64 0, .int .i64 0, .int .i64 0, .slice none 0 0] 32)
  have bX := (Blk.new w 25 #[.int .i64 p.ps, .slice p.A p.vs.length p.c, .slice p.B p.xs.length p.e]).alloc (.cells #[.int .i64 0, .int .i64 0, .int .i64 0, .slice none 0 0] 32)
  have bR := Blk.new (w.alloc (.cells #[.int .i64 p.ps, .slice p.A p.vs.length p.c, .slice p.B p.xs.length p.e] 25)) 32 #[.int .i64 0, .int .i64 0, .int .i64 0, .slice none 0 0]
  simp only [World.size_alloc] at bR
  obtain ⟨x0, x1, x2⟩ := bX.three
  obtain ⟨w1, hw1⟩ : ∃ w1, (w.alloc (.cells #[.int .i64 p.ps, .slice p.A p.vs.length p.c, .slice p.B p.xs.length p.e] 25)).alloc (.cells #[.int .i64 0, .int .i64 0, .int .i64 0, .slice none 0 0] 32) = w1 := ⟨_, rfl⟩
  rw [hw1] at hb1 bX bR
  have HC := Lib.hid (check_any p A c args.length fn w1 (hp.at hb1))
  rw [mcheck_zero.2 hm] at HC
  have HW := Lib.hid hw1
  have HB := Lib.hid hb1
  have HX := Lib.hid (fun W (hb : Below w1.heap.size w1 W) => (bX.below hb bX.lt).three)
  have HR := Lib.hid (fun W (hb : Below w1.heap.size w1 W) => bR.below hb bR.lt)
  have HS := Lib.hid (fun W (hb : Below w1.heap.size w1 W) => start_any p A c args fn W ((hp.at hb1).at hb) ((hA.at hb1).at hb) hm)
  have hf1 : fn ≤ 10000 := by have := hm.f1; omega
  obtain ⟨nt, cE, hR1, hR2, hR3⟩ := run_comes (args := args) hm
  rw [Int.toNat_natCast] at hR1 hR2
  have hn0 : IsNode p.xs 0 := ⟨_, by rw [List.drop_zero]; exact hm.whole⟩
  have HO := Lib.hid (fun (w2 w3 : World) (K : PK) (κ : Nat → Nat) (Y : List ((Option Addr × Nat) × List Int)) (h : PM K κ (.slice none 0 0) (.slice none 0 0) Y (begin_ p.vs args fn) [] w3) (hb : Below w2.heap.size w2 w3) (hbase : w2.heap.size ≤ K.base) (hkp : K.p = p) (hkf : K.F = fn) =>
    show Calls Tryz.prog 18 #[.pointer (some ⟨K.g, 0, none⟩)] w3 fun e w' => e = .returned (.agg #[.int .i64 (mrun p.vs p.xs args fn).kind, .int .i64 (mrun p.vs p.xs args fn).value]) ∧ ∃ A c, RunOut w2 (mrun p.vs p.xs args fn) K.g A c w' from by
      refine (outcome_any h ⟨rfl, by rw [hkf]; show 0 + fn = fn; omega, by rw [hkf]; exact hf1, Nat.le_refl _⟩ (by rw [hkp]; exact hn0) (by rw [hkp]; exact hR1) hR3).mono ?_
      rintro e w' ⟨he, κ', evv', sv', Y', S', h4, hw⟩
      rw [hR2] at he h4
      exact ⟨he, runOut_of (p := p) (args := args) (F := fn) h hb hbase h4 hw⟩)
  have hev : (mrun p.vs p.xs args fn).ev.length ≤ 1000000 := by
    have h1 := few_mean p.xs 0 (begin_ p.vs args fn) rfl
    have h2 := (nice_mean p.xs 0).sum (begin_ p.vs args fn) rfl
    have h0 : (mrun p.vs p.xs args fn).ev = (mean p.xs 0 (begin_ p.vs args fn)).1.ev := (stop_steps _ 3 0).2.1
    rw [h0]
    have h3 : (begin_ p.vs args fn).ev.length = 0 := rfl
    have h4 : (begin_ p.vs args fn).steps + (begin_ p.vs args fn).fuel = 0 + fn := rfl
    omega
  unfold REnds
  generalize mrun p.vs p.xs args fn = s6 at *
  have HSZ := Lib.hid hb1.size
  clear hp hA hb0 hb1 bX bR hw1 hm hR1 hR2 hR3 hn0 hf1
  go_enter Tryz.func8, Tryz.ntmps8
  go_wp2_with (first
    | (go_at_call 12; rw [HW.out]; (with_reducible refine HC.out.mono ?_); rintro e w2 ⟨rfl, hb2⟩
       obtain ⟨y0, y1, y2⟩ := HX.out _ hb2)
    | (go_at_call 17; (with_reducible refine (HS.out _ hb2).mono ?_); rintro e w3 ⟨K, κ, Y, rfl, h3, hb3, hbase, hkp, hkf⟩
       have HOO := Lib.hid (HO.out w2 w3 K κ Y h3 hb3 hbase hkp hkf)
       clear h3 hbase hkp hkf)
    | (go_at_call 18; (with_reducible refine HOO.out.mono ?_); rintro e w4 ⟨rfl, A', c', hO⟩
       have z0 := hO.z0
       have z1 := hO.z1
       have z2 := hO.z2
       have z3 := hO.z3
       have zf := hO.fz
       have bR4 := HR.out _ (hb2.trans (hO.below.mono hb2.size))
       have r0 := bR4.cell 0
       have r1 := bR4.cell 1
       have r2 := bR4.cell 2
       have r3 := bR4.cell 3
       have rf := bR4.frozen
       have hgne : K.g ≠ w.heap.size + 1 := by have h1 := hO.g2; have h2 := (HR.out _ hb2).lt; omega
       have hglt := hO.lt
       have HOH := Lib.hid hO
       clear hO)
    | fail)
  have hO := HOH.out
  obtain ⟨w5, hw5⟩ : ∃ w5, (w4.setCell ⟨K.g, 0, none⟩ (.int .i64 s6.kind)).setCell ⟨K.g, 1, none⟩ (.int .i64 s6.value) = w5 := ⟨_, rfl⟩
  have hB5 : Below w.heap.size w w5 := by
    have h1 := ((HB.out.trans (hb2.mono HB.out.size)).trans (hO.below.mono (Nat.le_trans HB.out.size hb2.size)))
    have h2 : w.heap.size ≤ K.g := Nat.le_trans (Nat.le_trans HB.out.size hb2.size) hO.g2
    rw [← hw5]
    exact (h1.setCell (p := ⟨K.g, 0, none⟩) h2 _).setCell (p := ⟨K.g, 1, none⟩) h2 _
  have hE5 : ERow w5 w5.heap.size A' s6.ev := by
    have h1 := ((hO.row).far (g := K.g) 0 (.int .i64 s6.kind) (fun ad e => (hO.far ad e).2)).far (g := K.g) 1 (.int .i64 s6.value) (fun ad e => (hO.far ad e).2)
    rw [hw5] at h1
    have h2 : w5.heap.size = w4.heap.size := by rw [← hw5]; simp
    rw [h2]; exact h1
  have bR5 : Blk w5 (w.heap.size + 1) 32 #[.int .i64 0, .int .i64 0, .int .i64 0, .slice none 0 0] := by
    rw [← hw5]
    exact (bR4.apart (p := ⟨K.g, 0, none⟩) (fun e => hgne e.symm) _).apart (p := ⟨K.g, 1, none⟩) (fun e => hgne e.symm) _
  have q0 := bR5.cell 0
  have q1 := bR5.cell 1
  have q2 := bR5.cell 2
  have q3 := bR5.cell 3
  rw [hw5]
  clear hw5
  refine bodyPost_ret (v := .tuple #[.agg #[.int .i64 s6.kind, .int .i64 s6.value, .int .i64 s6.steps, .slice A' s6.ev.length c'], .int .i64 0]) (by simp [results, Tryz.results8, go_sem, q0, q1, q2, q3]) rfl ?_
  have hb7 := (((hB5.setCell (p := ⟨w.heap.size + 1, 0, none⟩) (Nat.le_succ _) (.int .i64 s6.kind)).setCell (p := ⟨w.heap.size + 1, 1, none⟩) (Nat.le_succ _) (.int .i64 s6.value)).setCell (p := ⟨w.heap.size + 1, 2, none⟩) (Nat.le_succ _) (.int .i64 s6.steps)).setCell (p := ⟨w.heap.size + 1, 3, none⟩) (Nat.le_succ _) (.slice A' s6.ev.length c')
  refine ⟨hb7, A', c', rfl, ?_, hO.cap, hO.none_, hev⟩
  have hlt2 := (HR.out _ hb2).lt
  have hne : ∀ ad, A' = some ad → ad.block ≠ w.heap.size + 1 := fun ad e => by have := (hO.far ad e).1; omega
  have h4 := (((hE5.far 0 (.int .i64 s6.kind) hne).far 1 (.int .i64 s6.value) hne).far 2 (.int .i64 s6.steps) hne).far 3 (.slice A' s6.ev.length c') hne
  intro i e hi
  obtain ⟨ad, q1, q2, q3⟩ := h4 i e hi
  exact ⟨ad, q1, by simpa using q2, q3⟩
end Go.Proofs.YtodejloonfkkmaaGreat.Mach
