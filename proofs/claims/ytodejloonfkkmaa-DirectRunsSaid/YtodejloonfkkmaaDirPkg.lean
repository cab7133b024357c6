/-
  What is asked of package direct; the reference's Out.
-/
import Derived.Test.YtodejloonfkkmaaMachLawA
import Derived.Test.YtodejloonfkkmaaMachEx
import Derived.Test.YtodejloonfkkmaaMachExs
set_option linter.unusedVariables false
set_option linter.unusedSimpArgs false
namespace Go.Proofs.Ytodejloonfkkmaa.Dir
open Go.RowKit Mem _root_.Go.Proofs.Ytodejloonfkkmaa.Arena _root_.Go.Proofs.Ytodejloonfkkmaa.Kinds _root_.Go.Proofs.Ytodejloonfkkmaa.Path _root_.Go.Proofs.Ytodejloonfkkmaa.Cat _root_.Go.Proofs.Ytodejloonfkkmaa.Suite _root_.Go.Proofs.Ytodejloonfkkmaa.Delta _root_.Go.Proofs.Ytodejloonfkkmaa.Mach
attribute [local go_sem ↓] Go.wp_at_zero Go.wp_at_succ

/-- What the package's functions come to. -/
structure DPkg : Prop where
  run : ∀ (p : Prg) (A : Option Addr) (c : Nat) (args : List Int) (f : Int) (w : World), p.Ok w → IRow w w.heap.size A args → args.length ≤ c → (A = none → c = 0) → args.length ≤ 1000000 → N64 f →
    Calls Try.prog 8 #[.agg #[.int .i64 p.ps, .slice p.A p.vs.length p.c, .slice p.B p.xs.length p.e], .slice A args.length c, .int .i64 f] w (RunEnds p args f w)
  out : ∀ (p : Prg) (A : Option Addr) (c : Nat) (args : List Int) (f : Int) (w : World), p.Ok w → IRow w w.heap.size A args → args.length ≤ c → (A = none → c = 0) → args.length ≤ 1000000 → N64 f →
    Calls Try.prog 11 #[.agg #[.int .i64 p.ps, .slice p.A p.vs.length p.c, .slice p.B p.xs.length p.e], .slice A args.length c, .int .i64 f] w fun e w' => e = .returned (.agg #[.int .i64 (rrun p.ps p.vs p.xs args f).kind, .int .i64 (rrun p.ps p.vs p.xs args f).value]) ∧ Below w.heap.size w w'
/-- The document's examples work. -/
def Works : Prop := ∀ w : World, Calls Try.prog 6 #[] w fun e w' => e = .returned (.bool true) ∧ Below w.heap.size w w'

set_option maxRecDepth 100000 in
set_option maxHeartbeats 1000000 in
theorem ref_DOut_any (p : Prg) (A : Option Addr) (c : Nat) (args : List Int) (f : Int) (w : World) (hp : p.Ok w) (hA : IRow w w.heap.size A args) :
    Calls Try.prog 12 #[.agg #[.int .i64 p.ps, .slice p.A p.vs.length p.c, .slice p.B p.xs.length p.e], .slice A args.length c, .int .i64 f] w fun e w' => e = .returned (.agg #[.int .i64 (rrun p.ps p.vs p.xs args f).kind, .int .i64 (rrun p.ps p.vs p.xs args f).value]) ∧ Below w.heap.size w w' := by
  have hb0 : Below w.heap.size w (w.alloc (.cells #[.int .i64 p.ps, .slice p.A p.vs.length p.c, .slice p.B p.xs.length p.e] 25)) := (Below.refl _ _).alloc (Nat.le_refl _) _
  have HR := Lib.hid (fun W (hb : Below w.heap.size w W) => (ref_MRun_any p A c args f W (hp.at hb) (hA.at hb)).mono (RunEnds.open p args f W))
  generalize rrun p.ps p.vs p.xs args f = s at *
  generalize mcheck p.ps p.vs p.xs args.length f = E at *
  have hb1 := hb0.alloc hb0.size (.cells #[.int .i64 0, .int .i64 0] 29)
  have bO := Blk.new (w.alloc (.cells #[.int .i64 p.ps, .slice p.A p.vs.length p.c, .slice p.B p.xs.length p.e] 25)) 29 #[.int .i64 0, .int .i64 0]
  have HB := Lib.hid hb1
  have HO := Lib.hid bO
  have HL := Lib.hid (show w.heap.size ≤ (w.alloc (.cells #[.int .i64 p.ps, .slice p.A p.vs.length p.c, .slice p.B p.xs.length p.e] 25)).heap.size by simp)
  clear hp hA hb0 hb1 bO
  go_enter Try.func12, Try.ntmps12
  go_wp2_with (first
    | (go_at_call 9; (with_reducible refine (HR.out _ HB.out).mono ?_); rintro e w4 ⟨hb4, A1, c1, rfl, ok1⟩
       have bO := (HO.out.below hb4 HO.out.lt).alloc (.cells #[.int .i64 s.kind, .int .i64 s.value, .int .i64 s.steps, .slice A1 s.ev.length c1] 32)
       have hb4 := HB.out.trans (hb4.mono HB.out.size)
       have bA := Blk.new w4 32 #[.int .i64 s.kind, .int .i64 s.value, .int .i64 s.steps, .slice A1 s.ev.length c1]
       have hb5 := hb4.alloc hb4.size (.cells #[.int .i64 s.kind, .int .i64 s.value, .int .i64 s.steps, .slice A1 s.ev.length c1] 32)
       rw [World.size_alloc] at bO
       obtain ⟨x0, x1, x2, x3⟩ := blk4 bA
       obtain ⟨z0, z1⟩ := bO.two
       have fz := bO.frozen)
    | fail)
  obtain ⟨r0, r1⟩ := ((bO.set 0 (.int .i64 s.kind)).set 1 (.int .i64 s.value)).two
  refine bodyPost_ret (v := .agg #[.int .i64 s.kind, .int .i64 s.value]) (by simp [results, Try.results12, go_sem, r0, r1]) rfl ?_
  exact ⟨rfl, (hb5.setCell (p := ⟨w.heap.size + 1, 0, none⟩) (Nat.le_succ _) _).setCell (p := ⟨w.heap.size + 1, 1, none⟩) (Nat.le_succ _) _⟩
end Go.Proofs.Ytodejloonfkkmaa.Dir
