/-
  The statements on a run's bytes, walked: they are the document's.
-/
import Derived.Test.YtekogckmgkodfaaDoorTraceWorks
import Derived.Test.YtekogckmgkodfaaDoorTraceRef
import Derived.Test.YtekogckmgkodfaaDoorTraceArgs
import Derived.Deep.QuietTactic
set_option maxRecDepth 100000
set_option maxHeartbeats 2000000
set_option linter.unusedVariables false
namespace Go.Proofs.YtekogckmgkodfaaDoor.Trc
open Go.RowKit Leb Zig Mem Wire Arena Mach
attribute [local go_sem ↓] Go.wp_at_zero Go.wp_at_succ
theorem traceTells_walk(r:Rn)(w:World)(hr:In r w)(hG:Sha.Cubes w):Calls Tryd.prog 3 #[.agg #[.int .i64 r.k,.int .i64 r.v,.int .i64 r.st,.slice r.A r.ev.length r.c]] w fun e w'=>e=.returned (.bool true)∧Below w.heap.size w w':=by
 obtain⟨k,v,st,A,c,ev⟩:=r
 simp only
 have hb0:Below w.heap.size w (w.alloc (.cells #[.int .i64 k,.int .i64 v,.int .i64 st,.slice A ev.length c] 26)):=(Below.refl _ _).alloc (Nat.le_refl _) _
 have bP:=Blk.new w 26 #[.int .i64 k,.int .i64 v,.int .i64 st,.slice A ev.length c]
 obtain⟨w1,hw1⟩:∃ w1,w.alloc (.cells #[.int .i64 k,.int .i64 v,.int .i64 st,.slice A ev.length c] 26)=w1:=⟨_,rfl⟩
 rw [hw1] at hb0 bP
 have HW:=Lib.hid hw1
 have HB:=Lib.hid hb0
 have HX:=Lib.hid (fun W (h:Below w1.heap.size w1 W)=>show W.cell? ⟨w.heap.size,0,none⟩=some (.int .i64 k)∧W.cell? ⟨w.heap.size,1,none⟩=some (.int .i64 v)∧W.cell? ⟨w.heap.size,2,none⟩=some (.int .i64 st)∧W.cell? ⟨w.heap.size,3,none⟩=some (.slice A ev.length c) from
  ⟨(bP.below h bP.lt).cell 0,(bP.below h bP.lt).cell 1,(bP.below h bP.lt).cell 2,(bP.below h bP.lt).cell 3⟩)
 have HWK:=Lib.hid (works_any w1 (hG.below hb0))
 by_cases h60:(60:Int)<(ev.length:Int)
 ·clear hw1 hb0 bP hr hG
  go_enter Tryd.func3,Tryd.ntmps3
  go_wp2_with (first
   | (go_at_call 6;rw [HW.out];refine HWK.out.mono ?_;rintro e w2 ⟨rfl,hb2⟩;obtain⟨y0,y1,y2,y3⟩:=HX.out _ hb2)
   | fail)
  go_ret
  exact⟨rfl,HB.out.trans (hb2.mono HB.out.size)⟩
 ·have hok:∀ W,Below w1.heap.size w1 W→(⟨k,v,st,A,c,ev⟩:Rn).Ok W:=fun W h=>((hr.at hb0).at h).ok (by show ev.length≤1000000;omega)
  have h64:R64 ev k v:=hr.b64
  have hlb:=bytes_len h64 (by omega)
  have HBY:=Lib.hid (fun W (h:Below w1.heap.size w1 W)=>Bytes_any ⟨k,v,st,A,c,ev⟩ W (hok W h) h64)
  have HRB:=Lib.hid (fun W (h:Below w1.heap.size w1 W)=>ref_Bytes_any ⟨k,v,st,A,c,ev⟩ W (hok W h) h64)
  have HDG:=Lib.hid (fun W (h:Below w1.heap.size w1 W)=>Digest_any ⟨k,v,st,A,c,ev⟩ W (hG.below (hb0.trans (h.mono hb0.size))) (hok W h) h64)
  have HRD:=Lib.hid (fun W (h:Below w1.heap.size w1 W)=>ref_Digest_any ⟨k,v,st,A,c,ev⟩ W (hok W h) h64)
  have HSM:=Lib.hid (fun W (h:Below w1.heap.size w1 W)=>Sha.Sum_any ⟨(bytes ev k v).toArray⟩ (by rw [size_of];omega) W (hG.below (hb0.trans (h.mono hb0.size))))
  rw [show Sha.sum (⟨(bytes ev k v).toArray⟩:ByteArray).data.toList=digest ev k v by unfold digest;simp] at HSM
  simp only at HBY HRB HDG HRD
  change Hid (∀ (W:World) (_:Below w1.heap.size w1 W),Calls _ _ _ _ fun e w'=>e=.returned (.string ⟨(digest ev k v).toArray⟩)∧_) at HRD
  generalize digest ev k v=dd at *
  generalize bytes ev k v=bb at *
  clear hw1 hb0 bP hr hG hok h64 hlb
  generalize ev.length=n at *
  go_enter Tryd.func3,Tryd.ntmps3
  go_upto_region 6 with(first
   | (go_at_call 6;rw [HW.out];refine HWK.out.mono ?_;rintro e w2 ⟨rfl,hb2⟩;obtain⟨y0,y1,y2,y3⟩:=HX.out _ hb2)
   | fail)
  have hC:=HX.out _ hb2
  have hK:=hb2.drew
  clear y0 y1 y2 y3
  go_region_held3 (fun w'=>w'.cell? ⟨w.heap.size,0,none⟩=some (.int .i64 k)∧w'.cell? ⟨w.heap.size,1,none⟩=some (.int .i64 v)∧w'.cell? ⟨w.heap.size,2,none⟩=some (.int .i64 st)∧w'.cell? ⟨w.heap.size,3,none⟩=some (.slice A n c)) (first | exact hC) (first
   | (go_at_call 7;(with_reducible refine(HBY.out _ hK).mono ?_);rintro e wn ⟨rfl,hb⟩;have hK:=hK.trans (hb.mono hK.size);have hC:=HX.out _ hK)
   | (go_at_call 8;(with_reducible refine(HRB.out _ hK).mono ?_);rintro e wn ⟨rfl,hb⟩;have hK:=hK.trans (hb.mono hK.size);have hC:=HX.out _ hK)
   | (go_at_call 9;(with_reducible refine(HDG.out _ hK).mono ?_);rintro e wn ⟨rfl,hb⟩;have hK:=hK.trans (hb.mono hK.size);have hC:=HX.out _ hK)
   | (go_at_call 10;(with_reducible refine(HRD.out _ hK).mono ?_);rintro e wn ⟨rfl,hb⟩;have hK:=hK.trans (hb.mono hK.size);have hC:=HX.out _ hK)
   | (go_at_call 11;(with_reducible refine(HSM.out _ hK).mono ?_);rintro e wn ⟨rfl,hb⟩;have hK:=hK.trans (hb.mono hK.size);have hC:=HX.out _ hK)
   | fail)
  all_goals
   go_wp2_with fail
   go_ret
   exact⟨rfl,HB.out.trans (hK.mono HB.out.size)⟩
end Go.Proofs.YtekogckmgkodfaaDoor.Trc
