/-
  Package machine, walked: may a program be run?
-/
import Derived.Test.YtekogckmgkodfaaGreatDoorMachG
import Derived.Test.YtekogckmgkodfaaGreatDoorOrdersU
import Derived.Test.YtekogckmgkodfaaGreatDoorKindsP
set_option maxRecDepth 100000
set_option maxHeartbeats 4000000
set_option linter.unusedVariables false
namespace Go.Proofs.YtekogckmgkodfaaGreatDoor
theorem zMachPChk0{P:Prop}(h:P:=by
  have he:(T==20)=true:=by rw [hT2];rfl
  have i1:(0:Int)<(xs.length:Int):=by omega
  clear hV hE hT hT2 hK hx hTG
  clear hp hp1 hb1 bX
  go_enter Tryz.func25,Tryz.ntmps25
  go_wp2_with fail
  refine OrdU.wp_region_U 25 (fun w'=>w'.cell? ⟨w.heap.size,0,none⟩=some (.int .i64 ps)∧w'.cell? ⟨w.heap.size,1,none⟩=some (.slice pA vs.length pc)∧w'.cell? ⟨w.heap.size,2,none⟩=some (.slice (some bd) xs.length pe)∧w'.cell? bd=some (.int .i64 T)) (by kernel_rfl) hC0 (fun hHeld=>?_)
  obtain⟨c0,hc0⟩:∃ c,W1.drew=c:=⟨_,rfl⟩
  have hBc0:Below W1.heap.size W1 c0:=by rw [← hc0];exact(Below.refl _ _).drew
  rw [hc0] at hHeld ⊢
  clear hc0
  refine OrdU.tk 0 (h:=?_)
  refine OrdU.one 1 (h:=fun K' hK=>?_)
  go_simp
  go_at_call 46
  with_reducible refine(HV.out c0 hBc0).mono ?_
  rintro e c1 ⟨rfl,hbc1⟩
  have hBc1:=hBc0.trans (hbc1.mono hBc0.size)
  go_wp2_with fail
  refine OrdU.bh hK (HSS.out _ hBc1) (h:=fun hHeld=>?_)
  clear hK K'
  refine OrdU.tk 2 (h:=?_)
  refine OrdU.tk 3 (h:=?_)
  refine OrdU.tk 4 (h:=?_)
  refine OrdU.tk 5 (h:=?_)
  refine OrdU.tk 7 (h:=?_)
  refine OrdU.tk 8 (h:=?_)
  refine OrdU.tk 9 (h:=?_)
  refine OrdU.wpAnyU_ready (rs:=[6]) (by kernel_rfl) (by simp) ?_
  refine OrdU.AllReadyU.cons (o:=⟨some 9,_,_,_,_,some (3,true)⟩) rfl (fun K' hK=>?_) OrdU.AllReadyU.nil
  go_simp
  go_at_call 47
  with_reducible refine(HE.out c1 hBc1).mono ?_
  rintro e c2 ⟨rfl,hbc2⟩
  have hBc2:=hBc1.trans (hbc2.mono hBc1.size)
  go_wp2_with fail
  refine OrdU.bh hK (HSS.out _ hBc2) (h:=fun hHeld=>?_)
  clear hK K'
  refine OrdU.tk 10 (h:=?_)
  refine OrdU.tk 11 (h:=?_)
  refine OrdU.tk 12 (h:=?_)
  refine OrdU.tk 13 (h:=?_)
  refine OrdU.tk 14 (h:=?_)
  refine OrdU.tk 15 (h:=?_)
  refine OrdU.tk 16 (h:=?_)
  refine OrdU.tk 17 (h:=?_)
  refine OrdU.tk 18 (h:=?_)
  refine OrdU.tk 19 (h:=?_)
  refine OrdU.tk 20 (h:=?_)
  refine OrdU.tk 21 (h:=?_)
  refine OrdU.wpAnyU_ready (rs:=[22]) (by kernel_rfl) (by simp) ?_
  refine OrdU.AllReadyU.cons (o:=⟨some 25,_,_,_,_,some (20,true)⟩) rfl (fun K' hK=>?_) OrdU.AllReadyU.nil
  go_simp
  go_at_call 48
  with_reducible refine(HO.out c2 hBc2).mono ?_
  rintro e c3 ⟨rfl,hbc3⟩
  have hBc3:=hBc2.trans (hbc3.mono hBc2.size)
  go_wp2_with fail
  refine OrdU.bh hK (HSS.out _ hBc3) (h:=fun hHeld=>?_)
  clear hK K'
  refine OrdU.tk 23 (h:=?_)
  refine OrdU.tk 24 (h:=?_)
  refine OrdU.one 25 (h:=fun K' hK=>?_)
  go_simp
  refine OrdU.bk hK (h:=?_)
  clear hK K'
  refine OrdU.wpAnyU_done (by kernel_rfl) ?_ _
  go_wp2_with fail
  go_ret
  exact⟨rfl,HB1.out.trans (hBc3.mono HB1.out.size)⟩):P:=h
theorem zMachPChk1{P:Prop}(h:P:=by
  go_enter Tryz.func11,Tryz.ntmps11
  go_wp2_with (first | (go_at_call 25;(with_reducible refine HSO.out.mono ?_);rintro e w2 ⟨rfl,hb2⟩;obtain⟨y0,y1,y2⟩:=HX.out _ hb2) | fail)
  go_ret
  exact⟨by rw [HM2.out];rfl,HB.out.trans (hb2.mono HB.out.size)⟩):P:=h
theorem zMachPChk2{P:Prop}(h:P:=by
  refine OrdU.tk 19 (h:=?_)
  refine OrdU.tk 20 (h:=?_)
  refine OrdU.tk0 21 (h:=?_)
  refine OrdU.tk0 22 (h:=?_)
  refine OrdU.tk0 23 (h:=?_)
  refine OrdU.tk 24 (h:=?_)
  refine OrdU.one 25 (h:=fun K' hK=>?_)
  go_simp
  refine OrdU.bk hK (h:=?_)
  clear hK K'
  refine OrdU.wpAnyU_done (by kernel_rfl) ?_ _
  go_wp2_with fail
  go_ret
  exact⟨rfl,HB1.out.trans (hBc2.mono HB1.out.size)⟩):P:=h
end Go.Proofs.YtekogckmgkodfaaGreatDoor
namespace Go.Proofs.YtekogckmgkodfaaGreatDoor.Mach
open Go.RowKit Mem Arena Kinds
attribute [local go_sem ↓] Go.wp_at_zero Go.wp_at_succ
def msound(ps:Int)(vs:List Int)(xs:List Nd):Bool:=decide (avars ps vs=0∧aend xs 0=xs.length∧otag xs 0=20∧okind vs xs 0=2)
theorem sound_vars(ps:Int)(pA:Option Addr)(pc:Nat)(vs:List Int)(pB:Option Addr)(pe:Nat)(xs:List Nd)(w:World)(hp:Prg.Ok ⟨ps,pA,pc,vs,pB,pe,xs⟩ w)(hV:avars ps vs≠0):Calls Tryz.prog 25 #[.agg #[.int .i64 ps,.slice pA vs.length pc,.slice pB xs.length pe]] w fun e w'=>e=.returned (.bool false)∧Below w.heap.size w w':=by
 have hb1:=(Below.refl w.heap.size w).alloc (Nat.le_refl _) (.cells #[.int .i64 ps,.slice pA vs.length pc,.slice pB xs.length pe] 25)
 have bX:=Blk.new w 25 #[.int .i64 ps,.slice pA vs.length pc,.slice pB xs.length pe]
 have hp1:=hp.at hb1
 have hlx:=hp.lx
 obtain⟨W1,hW1⟩:∃ W1,w.alloc (.cells #[.int .i64 ps,.slice pA vs.length pc,.slice pB xs.length pe] 25)=W1:=⟨_,rfl⟩
 rw [hW1] at hb1 bX hp1
 have hbx:=bX.lt
 have HV:=Lib.hid (fun W (hb:Below W1.heap.size W1 W)=>Vars_any ⟨ps,pA,pc,vs,pB,pe,xs⟩ W (hp1.at hb))
 have HE:=Lib.hid (fun W (hb:Below W1.heap.size W1 W)=>End_any pB pe xs 0 W (hp1.at hb).body hlx)
 have HO:=Lib.hid (fun W (hb:Below W1.heap.size W1 W)=>Of_any ⟨ps,pA,pc,vs,pB,pe,xs⟩ 0 W (hp1.at hb))
 have HSS:=Lib.hid (fun W (hb:Below W1.heap.size W1 W)=>show(fun w'=>w'.cell? ⟨w.heap.size,0,none⟩=some (.int .i64 ps)∧w'.cell? ⟨w.heap.size,1,none⟩=some (.slice pA vs.length pc)∧w'.cell? ⟨w.heap.size,2,none⟩=some (.slice pB xs.length pe)) W from by
  have b:=bX.below hb hbx
  exact⟨b.cell 0,b.cell 1,b.cell 2⟩)
 have hC0:(fun w'=>w'.cell? ⟨w.heap.size,0,none⟩=some (.int .i64 ps)∧w'.cell? ⟨w.heap.size,1,none⟩=some (.slice pA vs.length pc)∧w'.cell? ⟨w.heap.size,2,none⟩=some (.slice pB xs.length pe)) W1.drew:=HSS.out _ (Below.refl _ _).drew
 have HB1:=Lib.hid hb1
 simp only at HV HE HO
 have hv:(avars ps vs==0)=false:=by simp;exact hV
 clear hV
 clear hp hp1 hb1 bX
 go_enter Tryz.func25,Tryz.ntmps25
 go_wp2_with fail
 refine OrdU.wp_region_U 25 (fun w'=>w'.cell? ⟨w.heap.size,0,none⟩=some (.int .i64 ps)∧w'.cell? ⟨w.heap.size,1,none⟩=some (.slice pA vs.length pc)∧w'.cell? ⟨w.heap.size,2,none⟩=some (.slice pB xs.length pe)) (by kernel_rfl) hC0 (fun hHeld=>?_)
 obtain⟨c0,hc0⟩:∃ c,W1.drew=c:=⟨_,rfl⟩
 have hBc0:Below W1.heap.size W1 c0:=by rw [← hc0];exact(Below.refl _ _).drew
 rw [hc0] at hHeld ⊢
 clear hc0
 refine OrdU.tk 0 (h:=?_)
 refine OrdU.one 1 (h:=fun K' hK=>?_)
 go_simp
 go_at_call 46
 with_reducible refine(HV.out c0 hBc0).mono ?_
 rintro e c1 ⟨rfl,hbc1⟩
 have hBc1:=hBc0.trans (hbc1.mono hBc0.size)
 go_wp2_with fail
 refine OrdU.bh hK (HSS.out _ hBc1) (h:=fun hHeld=>?_)
 clear hK K'
 refine OrdU.tk 2 (h:=?_)
 refine OrdU.tk 3 (h:=?_)
 refine OrdU.tk0 4 (h:=?_)
 refine OrdU.tk0 5 (h:=?_)
 refine OrdU.tk0 7 (h:=?_)
 refine OrdU.tk0 8 (h:=?_)
 refine OrdU.tk0 9 (h:=?_)
 refine OrdU.tk0 6 (h:=?_)
 refine OrdU.tk0 10 (h:=?_)
 refine OrdU.tk 11 (h:=?_)
 refine OrdU.tk 12 (h:=?_)
 refine OrdU.tk0 13 (h:=?_)
 refine OrdU.tk0 14 (h:=?_)
 refine OrdU.tk0 15 (h:=?_)
 refine OrdU.tk0 16 (h:=?_)
 refine OrdU.tk0 17 (h:=?_)
 refine OrdU.tk0 18 (h:=?_)
 refine OrdU.tk 19 (h:=?_)
 refine OrdU.tk 20 (h:=?_)
 refine OrdU.tk0 21 (h:=?_)
 refine OrdU.tk0 22 (h:=?_)
 refine OrdU.tk0 23 (h:=?_)
 refine OrdU.tk 24 (h:=?_)
 refine OrdU.one 25 (h:=fun K' hK=>?_)
 go_simp
 refine OrdU.bk hK (h:=?_)
 clear hK K'
 refine OrdU.wpAnyU_done (by kernel_rfl) ?_ _
 go_wp2_with fail
 go_ret
 exact⟨rfl,HB1.out.trans (hBc1.mono HB1.out.size)⟩
theorem sound_end(ps:Int)(pA:Option Addr)(pc:Nat)(vs:List Int)(pB:Option Addr)(pe:Nat)(xs:List Nd)(w:World)(hp:Prg.Ok ⟨ps,pA,pc,vs,pB,pe,xs⟩ w)(hV:avars ps vs=0)(hE:aend xs 0≠xs.length):Calls Tryz.prog 25 #[.agg #[.int .i64 ps,.slice pA vs.length pc,.slice pB xs.length pe]] w fun e w'=>e=.returned (.bool false)∧Below w.heap.size w w':=by
 have hb1:=(Below.refl w.heap.size w).alloc (Nat.le_refl _) (.cells #[.int .i64 ps,.slice pA vs.length pc,.slice pB xs.length pe] 25)
 have bX:=Blk.new w 25 #[.int .i64 ps,.slice pA vs.length pc,.slice pB xs.length pe]
 have hp1:=hp.at hb1
 have hlx:=hp.lx
 obtain⟨W1,hW1⟩:∃ W1,w.alloc (.cells #[.int .i64 ps,.slice pA vs.length pc,.slice pB xs.length pe] 25)=W1:=⟨_,rfl⟩
 rw [hW1] at hb1 bX hp1
 have hbx:=bX.lt
 have HV:=Lib.hid (fun W (hb:Below W1.heap.size W1 W)=>Vars_any ⟨ps,pA,pc,vs,pB,pe,xs⟩ W (hp1.at hb))
 have HE:=Lib.hid (fun W (hb:Below W1.heap.size W1 W)=>End_any pB pe xs 0 W (hp1.at hb).body hlx)
 have HO:=Lib.hid (fun W (hb:Below W1.heap.size W1 W)=>Of_any ⟨ps,pA,pc,vs,pB,pe,xs⟩ 0 W (hp1.at hb))
 have HSS:=Lib.hid (fun W (hb:Below W1.heap.size W1 W)=>show(fun w'=>w'.cell? ⟨w.heap.size,0,none⟩=some (.int .i64 ps)∧w'.cell? ⟨w.heap.size,1,none⟩=some (.slice pA vs.length pc)∧w'.cell? ⟨w.heap.size,2,none⟩=some (.slice pB xs.length pe)) W from by
  have b:=bX.below hb hbx
  exact⟨b.cell 0,b.cell 1,b.cell 2⟩)
 have hC0:(fun w'=>w'.cell? ⟨w.heap.size,0,none⟩=some (.int .i64 ps)∧w'.cell? ⟨w.heap.size,1,none⟩=some (.slice pA vs.length pc)∧w'.cell? ⟨w.heap.size,2,none⟩=some (.slice pB xs.length pe)) W1.drew:=HSS.out _ (Below.refl _ _).drew
 have HB1:=Lib.hid hb1
 simp only at HV HE HO
 rw [hV] at HV
 have he:(aend xs 0==(xs.length:Int))=false:=by simp;exact hE
 clear hV hE
 clear hp hp1 hb1 bX
 go_enter Tryz.func25,Tryz.ntmps25
 go_wp2_with fail
 refine OrdU.wp_region_U 25 (fun w'=>w'.cell? ⟨w.heap.size,0,none⟩=some (.int .i64 ps)∧w'.cell? ⟨w.heap.size,1,none⟩=some (.slice pA vs.length pc)∧w'.cell? ⟨w.heap.size,2,none⟩=some (.slice pB xs.length pe)) (by kernel_rfl) hC0 (fun hHeld=>?_)
 obtain⟨c0,hc0⟩:∃ c,W1.drew=c:=⟨_,rfl⟩
 have hBc0:Below W1.heap.size W1 c0:=by rw [← hc0];exact(Below.refl _ _).drew
 rw [hc0] at hHeld ⊢
 clear hc0
 refine OrdU.tk 0 (h:=?_)
 refine OrdU.one 1 (h:=fun K' hK=>?_)
 go_simp
 go_at_call 46
 with_reducible refine(HV.out c0 hBc0).mono ?_
 rintro e c1 ⟨rfl,hbc1⟩
 have hBc1:=hBc0.trans (hbc1.mono hBc0.size)
 go_wp2_with fail
 refine OrdU.bh hK (HSS.out _ hBc1) (h:=fun hHeld=>?_)
 clear hK K'
 refine OrdU.tk 2 (h:=?_)
 refine OrdU.tk 3 (h:=?_)
 refine OrdU.tk 4 (h:=?_)
 refine OrdU.tk 5 (h:=?_)
 refine OrdU.tk 7 (h:=?_)
 refine OrdU.tk 8 (h:=?_)
 refine OrdU.tk 9 (h:=?_)
 refine OrdU.wpAnyU_ready (rs:=[6]) (by kernel_rfl) (by simp) ?_
 refine OrdU.AllReadyU.cons (o:=⟨some 9,_,_,_,_,some (3,true)⟩) rfl (fun K' hK=>?_) OrdU.AllReadyU.nil
 go_simp
 go_at_call 47
 with_reducible refine(HE.out c1 hBc1).mono ?_
 rintro e c2 ⟨rfl,hbc2⟩
 have hBc2:=hBc1.trans (hbc2.mono hBc1.size)
 go_wp2_with fail
 refine OrdU.bh hK (HSS.out _ hBc2) (h:=fun hHeld=>?_)
 clear hK K'
 refine OrdU.tk 10 (h:=?_)
 refine OrdU.tk 11 (h:=?_)
 refine OrdU.tk 12 (h:=?_)
 refine OrdU.tk0 13 (h:=?_)
 refine OrdU.tk0 14 (h:=?_)
 refine OrdU.tk0 15 (h:=?_)
 refine OrdU.tk0 16 (h:=?_)
 refine OrdU.tk0 17 (h:=?_)
 refine OrdU.tk0 18 (h:=?_)
 exact zMachPChk2
theorem sound_tag(ps:Int)(pA:Option Addr)(pc:Nat)(vs:List Int)(bd:Addr)(pe:Nat)(xs:List Nd)(w:World)(hp:Prg.Ok ⟨ps,pA,pc,vs,(some bd),pe,xs⟩ w)(hV:avars ps vs=0)(hE:aend xs 0=xs.length)(hpos:0<xs.length)(T:Int)(hT:otag xs 0=T)(hT2:T≠20):Calls Tryz.prog 25 #[.agg #[.int .i64 ps,.slice pA vs.length pc,.slice (some bd) xs.length pe]] w fun e w'=>e=.returned (.bool false)∧Below w.heap.size w w':=by
 have hb1:=(Below.refl w.heap.size w).alloc (Nat.le_refl _) (.cells #[.int .i64 ps,.slice pA vs.length pc,.slice (some bd) xs.length pe] 25)
 have bX:=Blk.new w 25 #[.int .i64 ps,.slice pA vs.length pc,.slice (some bd) xs.length pe]
 have hp1:=hp.at hb1
 have hlx:=hp.lx
 obtain⟨W1,hW1⟩:∃ W1,w.alloc (.cells #[.int .i64 ps,.slice pA vs.length pc,.slice (some bd) xs.length pe] 25)=W1:=⟨_,rfl⟩
 rw [hW1] at hb1 bX hp1
 have hbx:=bX.lt
 have HV:=Lib.hid (fun W (hb:Below W1.heap.size W1 W)=>Vars_any ⟨ps,pA,pc,vs,(some bd),pe,xs⟩ W (hp1.at hb))
 have HE:=Lib.hid (fun W (hb:Below W1.heap.size W1 W)=>End_any (some bd) pe xs 0 W (hp1.at hb).body hlx)
 have HO:=Lib.hid (fun W (hb:Below W1.heap.size W1 W)=>Of_any ⟨ps,pA,pc,vs,(some bd),pe,xs⟩ 0 W (hp1.at hb))
 obtain⟨x,hx⟩:∃ x,xs[0]? = some x:=⟨_,List.getElem?_eq_getElem (by omega)⟩
 have hTG:T=x.1:=by rw [← hT];unfold otag;rw [List.getD_eq_getElem?_getD,show(0:Int).toNat=0 from rfl,hx];rfl
 have HSS:=Lib.hid (fun W (hb:Below W1.heap.size W1 W)=>show(fun w'=>w'.cell? ⟨w.heap.size,0,none⟩=some (.int .i64 ps)∧w'.cell? ⟨w.heap.size,1,none⟩=some (.slice pA vs.length pc)∧w'.cell? ⟨w.heap.size,2,none⟩=some (.slice (some bd) xs.length pe)∧w'.cell? bd=some (.int .i64 T)) W from by
  have b:=bX.below hb hbx
  exact⟨b.cell 0,b.cell 1,b.cell 2,(by obtain⟨ad,e,-,q,-⟩:=(hp1.at hb).body 0 x hx;cases e;rw [hTG];exact q)⟩)
 have hC0:(fun w'=>w'.cell? ⟨w.heap.size,0,none⟩=some (.int .i64 ps)∧w'.cell? ⟨w.heap.size,1,none⟩=some (.slice pA vs.length pc)∧w'.cell? ⟨w.heap.size,2,none⟩=some (.slice (some bd) xs.length pe)∧w'.cell? bd=some (.int .i64 T)) W1.drew:=HSS.out _ (Below.refl _ _).drew
 have HB1:=Lib.hid hb1
 simp only at HV HE HO
 rw [hV] at HV
 rw [hE] at HE
 have he:(T==20)=false:=by simp;exact hT2
 have i1:(0:Int)<(xs.length:Int):=by omega
 clear hV hE hT hT2 hx hTG
 clear hp hp1 hb1 bX
 go_enter Tryz.func25,Tryz.ntmps25
 go_wp2_with fail
 refine OrdU.wp_region_U 25 (fun w'=>w'.cell? ⟨w.heap.size,0,none⟩=some (.int .i64 ps)∧w'.cell? ⟨w.heap.size,1,none⟩=some (.slice pA vs.length pc)∧w'.cell? ⟨w.heap.size,2,none⟩=some (.slice (some bd) xs.length pe)∧w'.cell? bd=some (.int .i64 T)) (by kernel_rfl) hC0 (fun hHeld=>?_)
 obtain⟨c0,hc0⟩:∃ c,W1.drew=c:=⟨_,rfl⟩
 have hBc0:Below W1.heap.size W1 c0:=by rw [← hc0];exact(Below.refl _ _).drew
 rw [hc0] at hHeld ⊢
 clear hc0
 refine OrdU.tk 0 (h:=?_)
 refine OrdU.one 1 (h:=fun K' hK=>?_)
 go_simp
 go_at_call 46
 with_reducible refine(HV.out c0 hBc0).mono ?_
 rintro e c1 ⟨rfl,hbc1⟩
 have hBc1:=hBc0.trans (hbc1.mono hBc0.size)
 go_wp2_with fail
 refine OrdU.bh hK (HSS.out _ hBc1) (h:=fun hHeld=>?_)
 clear hK K'
 refine OrdU.tk 2 (h:=?_)
 refine OrdU.tk 3 (h:=?_)
 refine OrdU.tk 4 (h:=?_)
 refine OrdU.tk 5 (h:=?_)
 refine OrdU.tk 7 (h:=?_)
 refine OrdU.tk 8 (h:=?_)
 refine OrdU.tk 9 (h:=?_)
 refine OrdU.wpAnyU_ready (rs:=[6]) (by kernel_rfl) (by simp) ?_
 refine OrdU.AllReadyU.cons (o:=⟨some 9,_,_,_,_,some (3,true)⟩) rfl (fun K' hK=>?_) OrdU.AllReadyU.nil
 go_simp
 go_at_call 47
 with_reducible refine(HE.out c1 hBc1).mono ?_
 rintro e c2 ⟨rfl,hbc2⟩
 have hBc2:=hBc1.trans (hbc2.mono hBc1.size)
 go_wp2_with fail
 refine OrdU.bh hK (HSS.out _ hBc2) (h:=fun hHeld=>?_)
 clear hK K'
 refine OrdU.tk 10 (h:=?_)
 refine OrdU.tk 11 (h:=?_)
 refine OrdU.tk 12 (h:=?_)
 refine OrdU.tk 13 (h:=?_)
 refine OrdU.tk 14 (h:=?_)
 refine OrdU.tk 15 (h:=?_)
 refine OrdU.tk 16 (h:=?_)
 refine OrdU.tk 17 (h:=?_)
 refine OrdU.tk 18 (h:=?_)
 exact zMachPChk2
theorem sound_of(ps:Int)(pA:Option Addr)(pc:Nat)(vs:List Int)(bd:Addr)(pe:Nat)(xs:List Nd)(w:World)(hp:Prg.Ok ⟨ps,pA,pc,vs,(some bd),pe,xs⟩ w)(hV:avars ps vs=0)(hE:aend xs 0=xs.length)(hpos:0<xs.length)(T:Int)(hT:otag xs 0=T)(hT2:T=20)(hK:okind vs xs 0≠2):Calls Tryz.prog 25 #[.agg #[.int .i64 ps,.slice pA vs.length pc,.slice (some bd) xs.length pe]] w fun e w'=>e=.returned (.bool false)∧Below w.heap.size w w':=by
 have hb1:=(Below.refl w.heap.size w).alloc (Nat.le_refl _) (.cells #[.int .i64 ps,.slice pA vs.length pc,.slice (some bd) xs.length pe] 25)
 have bX:=Blk.new w 25 #[.int .i64 ps,.slice pA vs.length pc,.slice (some bd) xs.length pe]
 have hp1:=hp.at hb1
 have hlx:=hp.lx
 obtain⟨W1,hW1⟩:∃ W1,w.alloc (.cells #[.int .i64 ps,.slice pA vs.length pc,.slice (some bd) xs.length pe] 25)=W1:=⟨_,rfl⟩
 rw [hW1] at hb1 bX hp1
 have hbx:=bX.lt
 have HV:=Lib.hid (fun W (hb:Below W1.heap.size W1 W)=>Vars_any ⟨ps,pA,pc,vs,(some bd),pe,xs⟩ W (hp1.at hb))
 have HE:=Lib.hid (fun W (hb:Below W1.heap.size W1 W)=>End_any (some bd) pe xs 0 W (hp1.at hb).body hlx)
 have HO:=Lib.hid (fun W (hb:Below W1.heap.size W1 W)=>Of_any ⟨ps,pA,pc,vs,(some bd),pe,xs⟩ 0 W (hp1.at hb))
 obtain⟨x,hx⟩:∃ x,xs[0]? = some x:=⟨_,List.getElem?_eq_getElem (by omega)⟩
 have hTG:T=x.1:=by rw [← hT];unfold otag;rw [List.getD_eq_getElem?_getD,show(0:Int).toNat=0 from rfl,hx];rfl
 have HSS:=Lib.hid (fun W (hb:Below W1.heap.size W1 W)=>show(fun w'=>w'.cell? ⟨w.heap.size,0,none⟩=some (.int .i64 ps)∧w'.cell? ⟨w.heap.size,1,none⟩=some (.slice pA vs.length pc)∧w'.cell? ⟨w.heap.size,2,none⟩=some (.slice (some bd) xs.length pe)∧w'.cell? bd=some (.int .i64 T)) W from by
  have b:=bX.below hb hbx
  exact⟨b.cell 0,b.cell 1,b.cell 2,(by obtain⟨ad,e,-,q,-⟩:=(hp1.at hb).body 0 x hx;cases e;rw [hTG];exact q)⟩)
 have hC0:(fun w'=>w'.cell? ⟨w.heap.size,0,none⟩=some (.int .i64 ps)∧w'.cell? ⟨w.heap.size,1,none⟩=some (.slice pA vs.length pc)∧w'.cell? ⟨w.heap.size,2,none⟩=some (.slice (some bd) xs.length pe)∧w'.cell? bd=some (.int .i64 T)) W1.drew:=HSS.out _ (Below.refl _ _).drew
 have HB1:=Lib.hid hb1
 simp only at HV HE HO
 rw [hV] at HV
 rw [hE] at HE
 have hk:(okind vs xs 0==2)=false:=by simp;exact hK
 exact zMachPChk0
theorem sound_yes(ps:Int)(pA:Option Addr)(pc:Nat)(vs:List Int)(bd:Addr)(pe:Nat)(xs:List Nd)(w:World)(hp:Prg.Ok ⟨ps,pA,pc,vs,(some bd),pe,xs⟩ w)(hV:avars ps vs=0)(hE:aend xs 0=xs.length)(hpos:0<xs.length)(T:Int)(hT:otag xs 0=T)(hT2:T=20)(hK:okind vs xs 0=2):Calls Tryz.prog 25 #[.agg #[.int .i64 ps,.slice pA vs.length pc,.slice (some bd) xs.length pe]] w fun e w'=>e=.returned (.bool true)∧Below w.heap.size w w':=by
 have hb1:=(Below.refl w.heap.size w).alloc (Nat.le_refl _) (.cells #[.int .i64 ps,.slice pA vs.length pc,.slice (some bd) xs.length pe] 25)
 have bX:=Blk.new w 25 #[.int .i64 ps,.slice pA vs.length pc,.slice (some bd) xs.length pe]
 have hp1:=hp.at hb1
 have hlx:=hp.lx
 obtain⟨W1,hW1⟩:∃ W1,w.alloc (.cells #[.int .i64 ps,.slice pA vs.length pc,.slice (some bd) xs.length pe] 25)=W1:=⟨_,rfl⟩
 rw [hW1] at hb1 bX hp1
 have hbx:=bX.lt
 have HV:=Lib.hid (fun W (hb:Below W1.heap.size W1 W)=>Vars_any ⟨ps,pA,pc,vs,(some bd),pe,xs⟩ W (hp1.at hb))
 have HE:=Lib.hid (fun W (hb:Below W1.heap.size W1 W)=>End_any (some bd) pe xs 0 W (hp1.at hb).body hlx)
 have HO:=Lib.hid (fun W (hb:Below W1.heap.size W1 W)=>Of_any ⟨ps,pA,pc,vs,(some bd),pe,xs⟩ 0 W (hp1.at hb))
 obtain⟨x,hx⟩:∃ x,xs[0]? = some x:=⟨_,List.getElem?_eq_getElem (by omega)⟩
 have hTG:T=x.1:=by rw [← hT];unfold otag;rw [List.getD_eq_getElem?_getD,show(0:Int).toNat=0 from rfl,hx];rfl
 have HSS:=Lib.hid (fun W (hb:Below W1.heap.size W1 W)=>show(fun w'=>w'.cell? ⟨w.heap.size,0,none⟩=some (.int .i64 ps)∧w'.cell? ⟨w.heap.size,1,none⟩=some (.slice pA vs.length pc)∧w'.cell? ⟨w.heap.size,2,none⟩=some (.slice (some bd) xs.length pe)∧w'.cell? bd=some (.int .i64 T)) W from by
  have b:=bX.below hb hbx
  exact⟨b.cell 0,b.cell 1,b.cell 2,(by obtain⟨ad,e,-,q,-⟩:=(hp1.at hb).body 0 x hx;cases e;rw [hTG];exact q)⟩)
 have hC0:(fun w'=>w'.cell? ⟨w.heap.size,0,none⟩=some (.int .i64 ps)∧w'.cell? ⟨w.heap.size,1,none⟩=some (.slice pA vs.length pc)∧w'.cell? ⟨w.heap.size,2,none⟩=some (.slice (some bd) xs.length pe)∧w'.cell? bd=some (.int .i64 T)) W1.drew:=HSS.out _ (Below.refl _ _).drew
 have HB1:=Lib.hid hb1
 simp only at HV HE HO
 rw [hV] at HV
 rw [hE] at HE
 rw [hK] at HO
 exact zMachPChk0
theorem sound_any(p:Prg)(w:World)(hp:p.Ok w):Calls Tryz.prog 25 #[.agg #[.int .i64 p.ps,.slice p.A p.vs.length p.c,.slice p.B p.xs.length p.e]] w fun e w'=>e=.returned (.bool (msound p.ps p.vs p.xs))∧Below w.heap.size w w':=by
 obtain⟨ps,pA,pc,vs,pB,pe,xs⟩:=p
 simp only
 unfold msound
 by_cases hV:avars ps vs=0
 ·by_cases hE:aend xs 0=xs.length
  ·have hpos:0<xs.length:=by
    rcases aend_cases xs 0 with q | ⟨k,n,e,-,e2,h1,h2⟩<;>omega
   obtain⟨bd,rfl⟩:∃ bd,pB=some bd:=by
    obtain⟨x,hx⟩:∃ x,xs[0]? = some x:=⟨_,List.getElem?_eq_getElem hpos⟩
    obtain⟨ad,h0,-⟩:=hp.body 0 x hx
    exact⟨ad,h0⟩
   by_cases hT:otag xs 0=20
   ·by_cases hK:okind vs xs 0=2
    ·rw [decide_eq_true ⟨hV,hE,hT,hK⟩]
     exact sound_yes ps pA pc vs bd pe xs w hp hV hE hpos _ rfl hT hK
    ·rw [decide_eq_false (fun z=>hK z.2.2.2)]
     exact sound_of ps pA pc vs bd pe xs w hp hV hE hpos _ rfl hT hK
   ·rw [decide_eq_false (fun z=>hT z.2.2.1)]
    exact sound_tag ps pA pc vs bd pe xs w hp hV hE hpos _ rfl hT
  ·rw [decide_eq_false (fun z=>hE z.2.1)]
   exact sound_end ps pA pc vs pB pe xs w hp hV hE
 ·rw [decide_eq_false (fun z=>hV z.1)]
  exact sound_vars ps pA pc vs pB pe xs w hp hV
theorem mcheck_no{ps:Int}{vs:List Int}{xs:List Nd}{al:Nat}{f:Int}(h:msound ps vs xs=false):mcheck ps vs xs al f=23:=by
 unfold msound at h
 have h:=of_decide_eq_false h
 unfold mcheck
 split
 ·rfl
 ·rw [if_pos (by omega)]
theorem mcheck_yes{ps:Int}{vs:List Int}{xs:List Nd}{al:Nat}{f:Int}(h:msound ps vs xs=true):mcheck ps vs xs al f=if(al:Int)≠ps then 18 else if f<0∨10000<f then 19 else 0:=by
 unfold msound at h
 obtain⟨h1,h2,h3,h4⟩:=of_decide_eq_true h
 unfold mcheck
 rw [if_neg (by omega),if_neg (by omega)]
theorem check_any(p:Prg)(A:Option Addr)(c:Nat)(al:Nat)(f:Int)(w:World)(hp:p.Ok w) :
  Calls Tryz.prog 11 #[.agg #[.int .i64 p.ps,.slice p.A p.vs.length p.c,.slice p.B p.xs.length p.e],.slice A al c,.int .i64 f] w fun e w'=>e=.returned (.int .i64 (mcheck p.ps p.vs p.xs al f))∧Below w.heap.size w w':=by
 have hb1:=(Below.refl w.heap.size w).alloc (Nat.le_refl _) (.cells #[.int .i64 p.ps,.slice p.A p.vs.length p.c,.slice p.B p.xs.length p.e] 25)
 have bX:=Blk.new w 25 #[.int .i64 p.ps,.slice p.A p.vs.length p.c,.slice p.B p.xs.length p.e]
 have hp1:=hp.at hb1
 obtain⟨W1,hW1⟩:∃ W1,w.alloc (.cells #[.int .i64 p.ps,.slice p.A p.vs.length p.c,.slice p.B p.xs.length p.e] 25)=W1:=⟨_,rfl⟩
 rw [hW1] at hb1 bX hp1
 have hbx:=bX.lt
 obtain⟨x0,x1,x2⟩:=bX.three
 have HSO:=Lib.hid (sound_any p W1 hp1)
 have HB:=Lib.hid hb1
 have HX:=Lib.hid (fun W (hb:Below W1.heap.size W1 W)=>(bX.below hb hbx).three)
 cases hs:msound p.ps p.vs p.xs with
 | false =>
  have HM:=Lib.hid (mcheck_no (al:=al) (f:=f) hs)
  rw [hs] at HSO
  clear hs hp hp1 hb1 bX
  go_enter Tryz.func11,Tryz.ntmps11
  go_wp2_with (first | (go_at_call 25;(with_reducible refine HSO.out.mono ?_);rintro e w2 ⟨rfl,hb2⟩;obtain⟨y0,y1,y2⟩:=HX.out _ hb2) | fail)
  go_ret
  exact⟨by rw [HM.out];rfl,HB.out.trans (hb2.mono HB.out.size)⟩
 | true =>
  have HM:=Lib.hid (mcheck_yes (al:=al) (f:=f) hs)
  rw [hs] at HSO
  clear hs hp hp1 hb1 bX
  by_cases h1:(al:Int)=p.ps
  ·have e1:((al:Int) != p.ps)=false:=by simp;exact h1
   have HM1:=Lib.hid (HM.out.trans (if_neg (by omega)))
   clear HM
   by_cases h2:f<0
   ·have e2:decide (f<0)=true:=decide_eq_true h2
    have HM2:=Lib.hid (HM1.out.trans (if_pos (.inl h2)))
    clear HM1 h1 h2
    exact zMachPChk1
   ·have e2:decide (f<0)=false:=decide_eq_false h2
    by_cases h3:10000<f
    ·have e3:decide (10000<f)=true:=decide_eq_true h3
     have HM2:=Lib.hid (HM1.out.trans (if_pos (.inr h3)))
     clear HM1 h1 h2 h3
     exact zMachPChk1
    ·have e3:decide (10000<f)=false:=decide_eq_false h3
     have HM2:=Lib.hid (HM1.out.trans (if_neg (by omega)))
     clear HM1 h1 h2 h3
     exact zMachPChk1
  ·have e1:((al:Int) != p.ps)=true:=by simp;exact h1
   have HM2:=Lib.hid (HM.out.trans (if_pos h1))
   clear HM h1
   exact zMachPChk1
end Go.Proofs.YtekogckmgkodfaaGreatDoor.Mach
