/-
  The statements on a run's bytes, walked: unlike runs have unlike bytes.
-/
import Derived.Test.YtekogckmgkodfaaDoorTraceLawA
import Derived.Test.YtekogckmgkodfaaDoorOrdersU
set_option maxRecDepth 100000
set_option maxHeartbeats 4000000
set_option linter.unusedVariables false
set_option linter.unusedSimpArgs false
namespace Go.Proofs.YtekogckmgkodfaaDoor
theorem zTraceLawB0{P:Prop}(h:P:=by
  clear hw1 hb0 hb1 bP bQ hr hq hG
  go_enter Tryd.func4,Tryd.ntmps4
  go_wp2_with (first
   | (go_at_call 6;rw [HW.out];refine HWK.out.mono ?_;rintro e w2 ⟨rfl,hb2⟩;obtain⟨y0,y1,y2,y3,y4,y5,y6,y7⟩:=HX.out _ hb2)
   | fail)
  go_ret
  exact⟨rfl,HB.out.trans (hb2.mono HB.out.size)⟩):P:=h
end Go.Proofs.YtekogckmgkodfaaDoor
namespace Go.Proofs.YtekogckmgkodfaaDoor.Trc
open Go.RowKit Leb Zig Mem Wire Arena Mach
attribute [local go_sem ↓] Go.wp_at_zero Go.wp_at_succ
theorem traceApart_walk(r q:Rn)(w:World)(hr:In r w)(hq:In q w)(hG:Sha.Cubes w):Calls Tryd.prog 4 #[.agg #[.int .i64 r.k,.int .i64 r.v,.int .i64 r.st,.slice r.A r.ev.length r.c],.agg #[.int .i64 q.k,.int .i64 q.v,.int .i64 q.st,.slice q.A q.ev.length q.c]] w fun e w'=>e=.returned (.bool true)∧Below w.heap.size w w':=by
 obtain⟨k,v,st,A,c,ev⟩:=r
 obtain⟨k',v',st',A',c',ev'⟩:=q
 simp only
 have hb1:Below w.heap.size w (w.alloc (.cells #[.int .i64 k,.int .i64 v,.int .i64 st,.slice A ev.length c] 26)):=(Below.refl _ _).alloc (Nat.le_refl _) _
 have hb0:=hb1.alloc hb1.size (.cells #[.int .i64 k',.int .i64 v',.int .i64 st',.slice A' ev'.length c'] 26)
 have bP:=(Blk.new w 26 #[.int .i64 k,.int .i64 v,.int .i64 st,.slice A ev.length c]).alloc (.cells #[.int .i64 k',.int .i64 v',.int .i64 st',.slice A' ev'.length c'] 26)
 have bQ:=Blk.new (w.alloc (.cells #[.int .i64 k,.int .i64 v,.int .i64 st,.slice A ev.length c] 26)) 26 #[.int .i64 k',.int .i64 v',.int .i64 st',.slice A' ev'.length c']
 rw [World.size_alloc] at bQ
 obtain⟨w1,hw1⟩:∃ w1,(w.alloc (.cells #[.int .i64 k,.int .i64 v,.int .i64 st,.slice A ev.length c] 26)).alloc (.cells #[.int .i64 k',.int .i64 v',.int .i64 st',.slice A' ev'.length c'] 26)=w1:=⟨_,rfl⟩
 rw [hw1] at hb0 bP bQ
 have HW:=Lib.hid hw1
 have HB:=Lib.hid hb0
 have HX:=Lib.hid (fun W (h:Below w1.heap.size w1 W)=>show W.cell? ⟨w.heap.size,0,none⟩=some (.int .i64 k)∧W.cell? ⟨w.heap.size,1,none⟩=some (.int .i64 v)∧W.cell? ⟨w.heap.size,2,none⟩=some (.int .i64 st)∧W.cell? ⟨w.heap.size,3,none⟩=some (.slice A ev.length c) ∧
   W.cell? ⟨w.heap.size+1,0,none⟩=some (.int .i64 k')∧W.cell? ⟨w.heap.size+1,1,none⟩=some (.int .i64 v')∧W.cell? ⟨w.heap.size+1,2,none⟩=some (.int .i64 st')∧W.cell? ⟨w.heap.size+1,3,none⟩=some (.slice A' ev'.length c') from
  ⟨(bP.below h bP.lt).cell 0,(bP.below h bP.lt).cell 1,(bP.below h bP.lt).cell 2,(bP.below h bP.lt).cell 3,(bQ.below h bQ.lt).cell 0,(bQ.below h bQ.lt).cell 1,(bQ.below h bQ.lt).cell 2,(bQ.below h bQ.lt).cell 3⟩)
 have HWK:=Lib.hid (works_any w1 (hG.below hb0))
 by_cases h60:(60:Int)<(ev.length:Int)
 ·exact zTraceLawB0
 by_cases h61:(60:Int)<(ev'.length:Int)
 ·exact zTraceLawB0
 have hok:∀ W,Below w1.heap.size w1 W→(⟨k,v,st,A,c,ev⟩:Rn).Ok W:=fun W h=>((hr.at hb0).at h).ok (by show ev.length≤1000000;omega)
 have hok':∀ W,Below w1.heap.size w1 W→(⟨k',v',st',A',c',ev'⟩:Rn).Ok W:=fun W h=>((hq.at hb0).at h).ok (by show ev'.length≤1000000;omega)
 have H1:=Lib.hid (fun W (h:Below w1.heap.size w1 W)=>Bytes_any ⟨k,v,st,A,c,ev⟩ W (hok W h) hr.b64)
 have H2:=Lib.hid (fun W (h:Below w1.heap.size w1 W)=>Bytes_any ⟨k',v',st',A',c',ev'⟩ W (hok' W h) hq.b64)
 have HE:=Lib.hid (fun W (h:Below w1.heap.size w1 W)=>ref_Events_any A c ev A' c' ev' W (hok W h).row (hok' W h).row (hok W h).len)
 simp only at H1 H2 HE
 have HS:=bytes_iff (l:=ev) (l':=ev') (k:=k) (k':=k') (v:=v) (v':=v')
 clear hw1 hb0 hb1 bP bQ hr hq hG hok hok'
 obtain⟨E,hE⟩:∃ E,decide (ev=ev')=E:=⟨_,rfl⟩
 rw [hE] at HE
 have HXX:(bytes ev k v==bytes ev' k' v')=(E && ((k==k') && (v==v'))):=by
  rw [← hE,Bool.eq_iff_iff,beq_iff_eq,HS]
  simp
 generalize bytes ev k v=S1 at *
 generalize bytes ev' k' v'=S2 at *
 clear HS hE
 generalize ev.length=n at *
 generalize ev'.length=n' at *
 have key:∀ (p1 p2:Bool),(k==k')=p1→(v==v')=p2→Calls Tryd.prog 4 #[.agg #[.int .i64 k,.int .i64 v,.int .i64 st,.slice A n c],.agg #[.int .i64 k',.int .i64 v',.int .i64 st',.slice A' n' c']] w fun e w'=>e=.returned (.bool true)∧Below w.heap.size w w':=by
  intro p1 p2 h1 h2
  rw [h1,h2] at HXX
  cases E
  ·rw [Bool.false_and] at HXX
   go_enter Tryd.func4,Tryd.ntmps4
   go_upto_region 7 with(first
    | (go_at_call 6;rw [HW.out];refine HWK.out.mono ?_;rintro e w2 ⟨rfl,hb2⟩;obtain⟨y0,y1,y2,y3,y4,y5,y6,y7⟩:=HX.out _ hb2)
    | (go_at_call 12;refine(HE.out _ hb2).mono ?_;rintro e w3 ⟨rfl,hb⟩;have hb3:=hb2.trans (hb.mono hb2.size))
    | fail)
   have hC:=HX.out _ hb3.drew
   have hK:=hb3.drew
   clear y0 y1 y2 y3 y4 y5 y6 y7
   refine OrdU.wp_region_U 17 (fun w'=>w'.cell? ⟨w.heap.size,0,none⟩=some (.int .i64 k)∧w'.cell? ⟨w.heap.size,1,none⟩=some (.int .i64 v)∧w'.cell? ⟨w.heap.size,2,none⟩=some (.int .i64 st)∧w'.cell? ⟨w.heap.size,3,none⟩=some (.slice A n c) ∧
    w'.cell? ⟨w.heap.size+1,0,none⟩=some (.int .i64 k')∧w'.cell? ⟨w.heap.size+1,1,none⟩=some (.int .i64 v')∧w'.cell? ⟨w.heap.size+1,2,none⟩=some (.int .i64 st')∧w'.cell? ⟨w.heap.size+1,3,none⟩=some (.slice A' n' c')) (by kernel_rfl) hC (fun hHeld=>?_)
   refine OrdU.tk 0 (h:=?_)
   refine OrdU.tk 1 (h:=?_)
   refine OrdU.tk 2 (h:=?_)
   refine OrdU.tk 4 (h:=?_)
   refine OrdU.tk 7 (h:=?_)
   refine OrdU.one 3 (h:=fun K' hK'=>?_)
   go_simp
   go_at_call 7
   (with_reducible refine(H1.out _ hK).mono ?_);rintro e wn ⟨rfl,hb⟩;have hK:=hK.trans (hb.mono hK.size);have hC:=HX.out _ hK
   refine OrdU.bh hK' hC (h:=fun hHeld=>?_)
   clear hK' K'
   refine OrdU.one 5 (h:=fun K' hK'=>?_)
   go_simp
   go_at_call 7
   (with_reducible refine(H2.out _ hK).mono ?_);rintro e wm ⟨rfl,hb⟩;have hK:=hK.trans (hb.mono hK.size);have hC:=HX.out _ hK
   refine OrdU.bh hK' hC (h:=fun hHeld=>?_)
   clear hK' K'
   refine OrdU.tk 6 (h:=?_)
   refine OrdU.tk 8 (h:=?_)
   refine OrdU.tk0 9 (h:=?_)
   refine OrdU.tk0 10 (h:=?_)
   refine OrdU.tk0 11 (h:=?_)
   refine OrdU.tk0 12 (h:=?_)
   refine OrdU.tk0 13 (h:=?_)
   refine OrdU.tk 14 (h:=?_)
   refine OrdU.tk 15 (h:=?_)
   refine OrdU.tk 16 (h:=?_)
   refine OrdU.one 17 (h:=fun K' hK'=>?_)
   go_simp
   refine OrdU.bk hK' (h:=?_)
   clear hK' K'
   refine OrdU.wpAnyU_done (by kernel_rfl) ?_ _
   go_wp2_with fail
   go_ret
   exact⟨rfl,HB.out.trans (hK.mono HB.out.size)⟩
  cases p1<;>cases p2<;>simp only [Bool.and_true,Bool.and_false,Bool.true_and,Bool.false_and] at HXX
  all_goals
   go_enter Tryd.func4,Tryd.ntmps4
   go_upto_region 7 with(first
    | (go_at_call 6;rw [HW.out];refine HWK.out.mono ?_;rintro e w2 ⟨rfl,hb2⟩;obtain⟨y0,y1,y2,y3,y4,y5,y6,y7⟩:=HX.out _ hb2)
    | (go_at_call 12;refine(HE.out _ hb2).mono ?_;rintro e w3 ⟨rfl,hb⟩;have hb3:=hb2.trans (hb.mono hb2.size))
    | fail)
   have hC:=HX.out _ hb3
   have hK:=hb3.drew
   clear y0 y1 y2 y3 y4 y5 y6 y7
   go_region_held3 (fun w'=>w'.cell? ⟨w.heap.size,0,none⟩=some (.int .i64 k)∧w'.cell? ⟨w.heap.size,1,none⟩=some (.int .i64 v)∧w'.cell? ⟨w.heap.size,2,none⟩=some (.int .i64 st)∧w'.cell? ⟨w.heap.size,3,none⟩=some (.slice A n c) ∧
    w'.cell? ⟨w.heap.size+1,0,none⟩=some (.int .i64 k')∧w'.cell? ⟨w.heap.size+1,1,none⟩=some (.int .i64 v')∧w'.cell? ⟨w.heap.size+1,2,none⟩=some (.int .i64 st')∧w'.cell? ⟨w.heap.size+1,3,none⟩=some (.slice A' n' c')) (first | exact hC) (first
    | (go_at_call 7;(with_reducible refine(H1.out _ hK).mono ?_);rintro e wn ⟨rfl,hb⟩;have hK:=hK.trans (hb.mono hK.size);have hC:=HX.out _ hK)
    | (go_at_call 7;(with_reducible refine(H2.out _ hK).mono ?_);rintro e wn ⟨rfl,hb⟩;have hK:=hK.trans (hb.mono hK.size);have hC:=HX.out _ hK)
    | fail)
   all_goals
    go_wp2_with fail
    go_ret
    exact⟨rfl,HB.out.trans (hK.mono HB.out.size)⟩
 exact key _ _ rfl rfl
end Go.Proofs.YtekogckmgkodfaaDoor.Trc
