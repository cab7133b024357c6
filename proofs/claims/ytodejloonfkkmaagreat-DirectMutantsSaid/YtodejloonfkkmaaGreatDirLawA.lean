/-
  The laws of layer 17, walked on what the package's functions come to: what a program does, told directly; both ways tell the same.
-/
import Derived.Test.YtodejloonfkkmaaGreatDirPkg
import Derived.Deep.RegionHeld3
import Derived.Deep.DrawnRows
set_option maxRecDepth 100000
set_option maxHeartbeats 4000000
set_option linter.unusedVariables false
set_option linter.unusedSimpArgs false
namespace Go.Proofs.YtodejloonfkkmaaGreat.Dir
open Go.RowKit Mem Arena Kinds Path Cat Suite Delta Mach
attribute [local go_sem ↓] Go.wp_at_zero Go.wp_at_succ
theorem few17_any(p:Prg)(A:Option Addr)(c al:Nat)(f:Int)(w:World) :
  Calls Tryz.prog 6 #[.agg #[.int .i64 p.ps,.slice p.A p.vs.length p.c,.slice p.B p.xs.length p.e],.slice A al c,.int .i64 f] w fun e w'=>e=.returned (.bool (mfew p al f))∧Below w.heap.size w w':=by
 have hb0:Below w.heap.size w (w.alloc (.cells #[.int .i64 p.ps,.slice p.A p.vs.length p.c,.slice p.B p.xs.length p.e] 25)):=(Below.refl _ _).alloc (Nat.le_refl _) _
 have HF:=Lib.hid (fun W=>ref_Few_any p W)
 have HM:Hid (mfew p al f=((decide (p.xs.length≤60) && decide (p.vs.length≤20)) && (decide (al≤40) && (decide (f≤400) || decide (10000<f))))):=Lib.hid rfl
 have HB:=Lib.hid hb0
 generalize mfew p al f=E at *
 generalize (decide (p.xs.length≤60) && decide (p.vs.length≤20))=b at *
 clear hb0
 cases b
 ·have HE:=Lib.hid (show E=false by rw [HM.out];rfl)
  clear HM
  go_enter Tryz.func6,Tryz.ntmps6
  go_wp2_with (first | (go_at_call 14;(with_reducible refine(HF.out _).mono ?_);rintro e w1 ⟨rfl,hb⟩) | fail)
  go_ret
  exact⟨by rw [HE.out];rfl,HB.out.trans (hb.mono HB.out.size)⟩
 by_cases h1:al≤40
 ·have j1:(al:Int)≤40:=by omega
  by_cases h2:f≤400
  ·have HE:=Lib.hid (show E=true by rw [HM.out,decide_eq_true h1,decide_eq_true h2];rfl)
   clear HM
   go_enter Tryz.func6,Tryz.ntmps6
   go_wp2_with (first | (go_at_call 14;(with_reducible refine(HF.out _).mono ?_);rintro e w1 ⟨rfl,hb⟩) | fail)
   go_ret
   exact⟨by rw [HE.out];simp [h2],HB.out.trans (hb.mono HB.out.size)⟩
  ·by_cases h3:10000<f
   ·have HE:=Lib.hid (show E=true by rw [HM.out,decide_eq_true h1,decide_eq_true h3,Bool.or_true];rfl)
    clear HM
    go_enter Tryz.func6,Tryz.ntmps6
    go_wp2_with (first | (go_at_call 14;(with_reducible refine(HF.out _).mono ?_);rintro e w1 ⟨rfl,hb⟩) | fail)
    go_ret
    exact⟨by rw [HE.out];simp [h2,h3],HB.out.trans (hb.mono HB.out.size)⟩
   ·have HE:=Lib.hid (show E=false by rw [HM.out,decide_eq_false h2,decide_eq_false h3,Bool.or_false,Bool.and_false];rfl)
    clear HM
    go_enter Tryz.func6,Tryz.ntmps6
    go_wp2_with (first | (go_at_call 14;(with_reducible refine(HF.out _).mono ?_);rintro e w1 ⟨rfl,hb⟩) | fail)
    go_ret
    exact⟨by rw [HE.out];simp [h2,h3],HB.out.trans (hb.mono HB.out.size)⟩
 ·have j1:¬ (al:Int)≤40:=by omega
  have HE:=Lib.hid (show E=false by rw [HM.out,decide_eq_false h1,Bool.false_and,Bool.and_false])
  clear HM
  go_enter Tryz.func6,Tryz.ntmps6
  go_wp2_with (first | (go_at_call 14;(with_reducible refine(HF.out _).mono ?_);rintro e w1 ⟨rfl,hb⟩) | fail)
  go_ret
  exact⟨by rw [HE.out];rfl,HB.out.trans (hb.mono HB.out.size)⟩
end Go.Proofs.YtodejloonfkkmaaGreat.Dir
