/-
  Package suite, walked: may tests be.
-/
import Derived.Test.YtlecofghifjmcaaSuitePCheck
set_option linter.unusedVariables false
namespace Go.Proofs.Ytlecofghifjmcaa.Suite
open Go.RowKit Mem _root_.Go.Proofs.Ytlecofghifjmcaa.Arena _root_.Go.Proofs.Ytlecofghifjmcaa.Delta _root_.Go.Proofs.Ytlecofghifjmcaa.Path _root_.Go.Proofs.Ytlecofghifjmcaa.Cat
attribute [local go_sem ↓] Go.wp_at_zero Go.wp_at_succ

set_option maxRecDepth 100000 in
set_option maxHeartbeats 2000000 in
theorem PCheck_any (n : Int) (A : Option Addr) (c : Nat) (ts : List (List Int)) (f : Int) (w : World) (h : TRow w A ts) (hl : ts.length ≤ 1000000) :
    Calls Try.prog 10 #[.int .i64 n, .slice A ts.length c, .int .i64 f] w fun e w' => e = .returned (.int .i64 (scheck n ts f)) ∧ Below w.heap.size w w' := by
  have hb1 : Below w.heap.size w (w.alloc (.cells #[.int .i64 n] 3)) := (Below.refl _ _).alloc (Nat.le_refl _) _
  have hb2 := hb1.alloc hb1.size (.cells #[.slice A ts.length c] 22)
  have hb3 := hb2.alloc hb2.size (.cells #[.int .i64 f] 3)
  have b1 := ((Blk.new w 3 #[.int .i64 n]).alloc (.cells #[.slice A ts.length c] 22)).alloc (.cells #[.int .i64 f] 3)
  have b2 := (Blk.new (w.alloc (.cells #[.int .i64 n] 3)) 22 #[.slice A ts.length c]).alloc (.cells #[.int .i64 f] 3)
  have b3 := Blk.new ((w.alloc (.cells #[.int .i64 n] 3)).alloc (.cells #[.slice A ts.length c] 22)) 3 #[.int .i64 f]
  simp only [World.size_alloc] at b2 b3
  obtain ⟨w3, hw3⟩ : ∃ w3, ((w.alloc (.cells #[.int .i64 n] 3)).alloc (.cells #[.slice A ts.length c] 22)).alloc (.cells #[.int .i64 f] 3) = w3 := ⟨_, rfl⟩
  rw [hw3] at hb3 b1 b2 b3
  have HW := Lib.hid hw3
  have HZ := Lib.hid (show w.heap.size + 1 + 1 + 1 = w3.heap.size by rw [← hw3]; simp only [World.size_alloc])
  have HU := Lib.hid (un2_any (w.heap.size + 1) w.heap.size A c ts n w3 (h.at hb3) hl b2.lt b1.lt (b2.cell 0) (b1.cell 0))
  have H3 := Lib.hid (fun W (hb : Below w3.heap.size w3 W) => un1c_any (w.heap.size + 1 + 1) f W (b3.below hb b3.lt).lt ((b3.below hb b3.lt).cell 0))
  have HO := Lib.hid or2_any
  have HE := Lib.hid (scheck_or n ts f)
  generalize scheck n ts f = E at *
  generalize (if fewB ts && evenB n ts then (0 : Int) else 18) = e1 at *
  generalize (if fuelB f then (0 : Int) else 19) = e2 at *
  have HB := Lib.hid hb3
  clear h hb1 hb2 hb3 b1 b2 b3 hw3
  go_enter Try.func10, Try.ntmps10
  go_wp2_with fail
  rw [HW.out, HZ.out]
  refine HU.out.mono ?_
  rintro e w4 ⟨rfl, hb4⟩
  go_wp2_with fail
  refine (H3.out _ hb4).mono ?_
  rintro e w5 ⟨rfl, hb5⟩
  have hb6 := hb4.trans (hb5.mono hb4.size)
  go_wp2_with fail
  refine (HO.out _ _ _).mono ?_
  rintro e w7 ⟨rfl, rfl⟩
  rw [HE.out]
  go_wp2_with fail
  go_ret
  exact ⟨rfl, (HB.out.trans (hb6.mono HB.out.size)).alloc (Nat.le_trans HB.out.size hb6.size) _⟩

end Go.Proofs.Ytlecofghifjmcaa.Suite
