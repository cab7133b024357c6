/-
  Package direct, walked: a node is entered: what it does is told by the type of its tag.
  Package direct, walked: what nodes do that tell a value.
  Package direct, walked: what nodes do that divide, that choose, that store.
  Package direct, walked: a Block, a While.
  Package direct, walked: every node of a typed program, entered, does what it means.
-/
import Derived.Test.YtekogckmgkodfaaGreatDoorDirG
import Derived.Test.YtekogckmgkodfaaGreatDoorOrdersU
import Derived.Deep.RegionHeld3
import Derived.Deep.DrawnRows
import Derived.Test.YtekogckmgkodfaaGreatDoorMachG
set_option maxRecDepth 100000
set_option maxHeartbeats 2000000
set_option linter.unusedVariables false
set_option linter.unusedSimpArgs false
namespace Go.Proofs.YtekogckmgkodfaaGreatDoor
theorem zDirH0{P:Prop}(h:P:=by
  go_wp2_with (first
   | (go_at_call 35;(with_reducible refine(H1.out _ _ _ _ H0.out).mono ?_);rintro e w1 hE;obtain⟨rfl,κ1,evv1,Y1,pos1,h1,hw1⟩:=hE.to_over ho1)
   | fail)
  exact⟨rfl,DEnds.over h1 (HW0.out.trans hw1) ho1⟩):P:=h
theorem zDirH1{P:Prop}(h:P:=by
  go_wp2_with (first
   | (go_at_call 35;(with_reducible refine(H1.out _ _ _ _ H0.out).mono ?_);rintro e w1 hE;obtain⟨rfl,κ1,evv1,Y1,h1,hw1⟩:=hE.to_on ho1)
   | (go_at_call 35;(with_reducible refine(H2.out _ _ _ _ h1).mono ?_);rintro e w2 hE;obtain⟨rfl,κ2,evv2,Y2,pos2,h2,hw2⟩:=hE.to_over ho2)
   | fail)
  exact⟨rfl,DEnds.over h2 ((HW0.out.trans hw1).trans hw2) ho2⟩):P:=h
theorem zDirH2{P:Prop}(h:P:=by
  go_wp2_with (first
   | (go_at_call 35;(with_reducible refine(H1.out _ _ _ _ H0.out).mono ?_);rintro e w1 hE;obtain⟨rfl,κ1,evv1,Y1,h1,hw1⟩:=hE.to_on ho1)
   | (go_at_call 35;(with_reducible refine(H2.out _ _ _ _ h1).mono ?_);rintro e w2 hE;obtain⟨rfl,κ2,evv2,Y2,h2,hw2⟩:=hE.to_on ho2)
   | (go_at_call 144;(refine(truth_any _ _).mono ?_);rintro e w3 ⟨rfl,rfl⟩)
   | fail)
  go_ret
  exact DEnds.on h2 ((HW0.out.trans hw1).trans hw2) ho2):P:=h
theorem zDirH3{P:Prop}(h:P:=by
  go_wp2_with (first
   | (go_at_call 35;(with_reducible refine(H1.out _ _ _ _ H0.out).mono ?_);rintro e w1 hE;obtain⟨rfl,κ1,evv1,Y1,h1,hw1⟩:=hE.to_on ho1)
   | (go_at_call 35;(with_reducible refine(H2.out _ _ _ _ h1).mono ?_);rintro e w2 hE;obtain⟨rfl,κ2,evv2,Y2,h2,hw2⟩:=hE.to_on ho2)
   | fail)
  go_ret
  exact(DEnds.on h2 ((HW0.out.trans hw1).trans hw2) ho2).cast (by rw [IntWalk.i64_left])):P:=h
theorem zDirH4{P:Prop}(h:P:=by
  rw [hm]
  by_cases z:s1.over=true
  ·rw [bind_over (by rw [hr1];exact z),hr1,if_pos z]
  ·rw [bind_on (by rw [hr1];simpa using z),hr1,if_neg z]
   rfl):P:=h
theorem zDirH5{P:Prop}(h:P:=by
  go_wp2_with (first
   | (go_at_call 35;(with_reducible refine(H1.out _ _ _ _ H0.out).mono ?_);rintro e w1 hE;obtain⟨rfl,κ1,evv1,Y1,h1,hw1⟩:=hE.to_on ho1)
   | (go_at_call 141;(with_reducible refine(H2.out _ _ _ _ h1).mono ?_);rintro e w2 hE;obtain⟨rfl,κ2,evv2,Y2,pos2,h2,hw2⟩:=hE.to_over ho2)
   | fail)
  exact⟨rfl,DEnds.over h2 ((HW0.out.trans hw1).trans hw2) ho2⟩):P:=h
theorem zDirH6{P:Prop}(h:P:=by
  go_wp2_with (first
   | (go_at_call 35;(with_reducible refine(H1.out _ _ _ _ H0.out).mono ?_);rintro e w1 hE;obtain⟨rfl,κ1,evv1,Y1,h1,hw1⟩:=hE.to_on ho1)
   | (go_at_call 141;(with_reducible refine(H2.out _ _ _ _ h1).mono ?_);rintro e w2 hE;obtain⟨rfl,κ2,evv2,Y2,pos2,h2,hw2⟩:=hE.to_over ho3)
   | fail)
  exact⟨rfl,DEnds.over h2 ((HW0.out.trans hw1).trans hw2) ho3⟩):P:=h
theorem zDirH7{P:Prop}(h:P:=by
  go_wp2_with (first
   | (go_at_call 35;(with_reducible refine(H1.out _ _ _ _ H0.out).mono ?_);rintro e w1 hE;obtain⟨rfl,κ1,evv1,Y1,h1,hw1⟩:=hE.to_on ho1)
   | (go_at_call 35;(with_reducible refine(H2.out _ _ _ _ h1).mono ?_);rintro e w2 hE;obtain⟨rfl,κ2,evv2,Y2,h2,hw2⟩:=hE.to_on ho2)
   | fail)
  go_ret
  exact DEnds.on h2 ((HW0.out.trans hw1).trans hw2) ho2):P:=h
theorem zDirH8{P:Prop}(h:P:=by
  go_wp2_with (first
   | (go_at_call 35;(with_reducible refine(H1.out _ _ _ _ H0.out).mono ?_);rintro e w1 hE;obtain⟨rfl,κ1,evv1,Y1,h1,hw1⟩:=hE.to_on ho1)
   | (go_at_call 130;(with_reducible refine(pass_any h1 HN.out).mono ?_);rintro e w4 ⟨rfl,h4,hw4⟩)
   | fail)
  go_ret
  exact DEnds.on h4 ((HW0.out.trans hw1).trans hw4) ho1):P:=h
end Go.Proofs.YtekogckmgkodfaaGreatDoor
namespace Go.Proofs.YtekogckmgkodfaaGreatDoor.Dir
open Go.RowKit Mem Arena Kinds Path Cat Suite Mach
attribute [local go_sem ↓] Go.wp_at_zero Go.wp_at_succ
section
variable {K:DK} {κ:Nat→Nat} {evv:Value} {Y:List ((Option Addr×Nat)×List Int)} {s:St} {pos:Int} {W W':World}
theorem denter_out(h:DM K κ evv Y s pos W)(ho:s.over=false)(h0:s.steps=K.F)(v q:Int):Calls Tryz.prog 35 #[.pointer (some ⟨K.g,0,none⟩)] W (DEnds K κ (s.stop 4 0,v) q W):=by
 have HT:=Lib.hid (take_out h h0)
 clear h
 go_enter Tryz.func35,Tryz.ntmps35
 go_wp2_with (first | (go_at_call 77;(with_reducible refine HT.out.mono ?_);rintro e w1 ⟨rfl,h1,hw1⟩) | fail)
 exact⟨rfl,DEnds.stopped h1 hw1 ho 4 0⟩
theorem denter_on(h:DM K κ evv Y s pos W)(ho:s.over=false)(h0:s.steps≠K.F)(hF:s.steps≤10000){k m:Nat}(hp:pos=k){N:Int}(hx:K.p.xs[k]? = some ((m:Int),N))(hm:m<27){T:TypeId}{F:FuncId}
  (hT:∀ (K:DK) (evv:Value) (n:Nat) (pos:Int),(rcells K evv n pos)[9+m]? = some (.iface T (.agg #[])))
  (hM : ∀ n W, (method (n + 1) T (.agg #[]) "offshoot/direct.does").run Tryz.prog W = .ok (F, .agg #[]) W)
  (hCF:∀ (cs:Array Value) (W:World),(callFunc F cs).run Tryz.prog W=.ok (.enter F cs) W) {r:St×Int} {q':Int}
  (HD:∀ κ evv Y W,DM K κ evv Y s.tick ((k:Int)+1) W→Calls Tryz.prog F #[.agg #[],.pointer (some ⟨K.g,0,none⟩),.int .i64 N] W (DEnds K κ r q' W)) :
  Calls Tryz.prog 35 #[.pointer (some ⟨K.g,0,none⟩)] W (DEnds K κ r q' W):=by
 subst hp
 have HT:=Lib.hid (take_on h h0 hF)
 have hkx:=(List.getElem?_eq_some_iff.1 hx).1
 have i1:(k:Int)<(K.p.xs.length:Int):=by omega
 have i2:(0:Int)≤(k:Int):=by omega
 have hlx:=h.lx
 have v1:IntKind.i64.wrap ((k:Int)+1)=(k:Int)+1:=IntWalk.i64_in _ (by omega)
 have m1:(m:Int)<27:=by omega
 have m2:(0:Int)≤(m:Int):=by omega
 have HX:=Lib.hid hx
 have HDD:=Lib.hid HD
 have HTT:=Lib.hid hT
 have hMM:=hM
 clear h hx HD hT hM
 go_enter Tryz.func35,Tryz.ntmps35
 go_wp2_with (first | (go_at_call 77;(with_reducible refine HT.out.mono ?_);rintro e w1 ⟨rfl,h1,hw1⟩) | fail)
 obtain⟨ad,hB,hbk,d0,d1⟩:=h1.body k _ HX.out
 simp only at d0 d1
 have c4:w1.cell? ⟨K.g,4,none⟩=some (.slice K.p.B K.p.xs.length K.p.e):=h1.cell 4
 rw [hB] at c4
 have c5:w1.cell? ⟨K.g,5,none⟩=some (.int .i64 k):=h1.cell 5
 have hz:=h1.below ((Below.refl w1.heap.size w1).alloc (Nat.le_refl _) (.cells #[.int .i64 0,.int .i64 0] 105))
 have c4z:(w1.alloc (.cells #[.int .i64 0,.int .i64 0] 105)).cell? ⟨K.g,4,none⟩=some (.slice K.p.B K.p.xs.length K.p.e):=hz.cell 4
 rw [hB] at c4z
 have c5z:(w1.alloc (.cells #[.int .i64 0,.int .i64 0] 105)).cell? ⟨K.g,5,none⟩=some (.int .i64 k):=hz.cell 5
 obtain⟨ad',hB',-,d0z,d1z⟩:=hz.body k _ HX.out
 obtain rfl:ad=ad':=by rw [hB] at hB';exact Option.some.inj hB'
 simp only at d0z d1z
 have hb2:=((Below.refl w1.heap.size w1).alloc (Nat.le_refl _) (.cells #[.int .i64 (m:Int),.int .i64 N] 105))
 have bX:Blk (w1.alloc (.cells #[.int .i64 (m:Int),.int .i64 N] 105)) w1.heap.size 105 #[.int .i64 (m:Int),.int .i64 N]:=Blk.new w1 _ _
 have h2:=h1.below hb2
 have hw2:=hw1.below hb2
 have c5a:(w1.alloc (.cells #[.int .i64 (m:Int),.int .i64 N] 105)).cell? ⟨K.g,5,none⟩=some (.int .i64 k):=h2.cell 5
 have f5a:=h2.blk.frozen 5
 have h3:=h2.goto ((k:Int)+1)
 have hw3:=hw2.setCell (a:=⟨K.g,5,none⟩) (.inl (by rw [h1.lab.g];decide)) (.int .i64 ((k:Int)+1))
 have bX3:Blk ((w1.alloc (.cells #[.int .i64 (m:Int),.int .i64 N] 105)).setCell ⟨K.g,5,none⟩ (.int .i64 ((k:Int)+1))) w1.heap.size 105 #[.int .i64 (m:Int),.int .i64 N]:=bX.apart (by show w1.heap.size≠K.g;have:=h1.glt;omega) _
 have cT:((w1.alloc (.cells #[.int .i64 (m:Int),.int .i64 N] 105)).setCell ⟨K.g,5,none⟩ (.int .i64 ((k:Int)+1))).cell? ⟨K.g,9+m,none⟩=some (.iface T (.agg #[])):=by
  rw [h3.cell (9+m)];exact HTT.out _ _ _ _
 obtain⟨x0,x1⟩:=bX3.two
 have H3:=Lib.hid h3
 have HW3:=Lib.hid hw3
 clear h1 hw1 hB hB' hz hb2 bX h2 hw2 h3 hw3 bX3
 obtain⟨W3,hW3⟩:∃ W3,((w1.alloc (.cells #[.int .i64 (m:Int),.int .i64 N] 105)).setCell ⟨K.g,5,none⟩ (.int .i64 ((k:Int)+1))).drew=W3:=⟨_,rfl⟩
 have H4:=Lib.hid (show DM K κ evv Y s.tick ((k:Int)+1) W3.drew from by rw [← hW3];exact H3.out.drew.drew)
 have HW4:=Lib.hid (show Went κ κ W W3.drew from by rw [← hW3];exact HW3.out.drew.drew)
 have hS:(fun w':World=>w'.cell? ⟨K.g,9+m,none⟩=some (.iface T (.agg #[]))∧w'.cell? ⟨w1.heap.size,0,none⟩=some (.int .i64 (m:Int))∧w'.cell? ⟨w1.heap.size,1,none⟩=some (.int .i64 N)) W3:=by rw [← hW3];exact⟨cT,x0,x1⟩
 have HWW:=Lib.hid hW3
 clear cT x0 x1 H3 HW3 hW3
 go_region
 go_wp2_with fail
 rw [HWW.out]
 refine OrdU.wp_region_U 10 (fun w'=>w'.cell? ⟨K.g,9+m,none⟩=some (.iface T (.agg #[]))∧w'.cell? ⟨w1.heap.size,0,none⟩=some (.int .i64 (m:Int))∧w'.cell? ⟨w1.heap.size,1,none⟩=some (.int .i64 N)) (by kernel_rfl) hS (fun hHeld=>?_)
 refine OrdU.tk 0 (h:=?_)
 refine OrdU.tk 1 (h:=?_)
 refine OrdU.tk 2 (h:=?_)
 refine OrdU.tk 3 (h:=?_)
 refine OrdU.tk 4 (h:=?_)
 refine OrdU.tk 5 (h:=?_)
 refine OrdU.tk 6 (h:=?_)
 refine OrdU.tk 7 (h:=?_)
 refine OrdU.tk 8 (h:=?_)
 refine OrdU.tk 9 (h:=?_)
 refine OrdU.one 10 (h:=fun K' hK=>?_)
 go_simp
 (refine(HDD.out _ _ _ _ H4.out).mono ?_)
 rintro e w2 hE
 have HE:=Lib.hid (hE.then HW4.out)
 by_cases hr:r.1.over=true
 ·obtain⟨rfl,-⟩:=hE.to_over hr
  clear hE
  go_simp
  exact⟨rfl,HE.out⟩
 have hr:r.1.over=false:=by simpa using hr
 obtain⟨rfl,-⟩:=hE.to_on hr
 clear hE
 go_simp
 refine OrdU.bk hK (h:=?_)
 clear hK K'
 refine OrdU.one 11 (h:=fun K' hK=>?_)
 go_simp
 refine OrdU.bk hK (h:=?_)
 clear hK K'
 refine OrdU.wpAnyU_done (by kernel_rfl) ?_ _
 go_wp2_with fail
 go_ret
 exact HE.out
end
theorem truth_any(p:Bool)(w:World):Calls Tryz.prog 144 #[.bool p] w fun e w'=>e=.returned (.int .i64 (b01 p))∧w'=w:=by
 cases p
 ·go_enter Tryz.func144,Tryz.ntmps144
  go_wp2_with fail
  go_ret
  exact⟨rfl,rfl⟩
 ·go_enter Tryz.func144,Tryz.ntmps144
  go_wp2_with fail
  go_ret
  exact⟨rfl,rfl⟩
section
variable {K:DK} {κ:Nat→Nat} {evv:Value} {Y:List ((Option Addr×Nat)×List Int)} {s:St} {pos:Int} {W W':World}
theorem do_constant{k:Int}(N:Int)(h:DM K κ evv Y s k W)(ho:s.over=false):Calls Tryz.prog 131 #[.agg #[],.pointer (some ⟨K.g,0,none⟩),.int .i64 N] W (DEnds K κ (s,N) k W):=by
 have hb0:=(Below.refl W.heap.size W).alloc (Nat.le_refl _) (.cells #[] 119)
 have H0:=Lib.hid (h.below hb0)
 have HW0:=Lib.hid ((Went.refl κ W).below hb0)
 clear h hb0
 go_enter Tryz.func131,Tryz.ntmps131
 go_wp2_with fail
 go_ret
 exact DEnds.on H0.out HW0.out ho
theorem do_skip{k:Int}(N:Int)(h:DM K κ evv Y s k W)(ho:s.over=false):Calls Tryz.prog 159 #[.agg #[],.pointer (some ⟨K.g,0,none⟩),.int .i64 N] W (DEnds K κ (s,0) k W):=by
 have hb0:=(Below.refl W.heap.size W).alloc (Nat.le_refl _) (.cells #[] 143)
 have H0:=Lib.hid (h.below hb0)
 have HW0:=Lib.hid ((Went.refl κ W).below hb0)
 clear h hb0
 go_enter Tryz.func159,Tryz.ntmps159
 go_wp2_with fail
 go_ret
 exact DEnds.on H0.out HW0.out ho
theorem do_neg{k q2:Int}(N:Int)(h:DM K κ evv Y s k W){s1:St}{a:Int}(h1:NodeOk K k s (s1,a) q2) :
  Calls Tryz.prog 135 #[.agg #[],.pointer (some ⟨K.g,0,none⟩),.int .i64 N] W (DEnds K κ (if s1.over=true then(s1,0) else(s1,IntKind.i64.wrap (0-a))) q2 W):=by
 have hb0:=(Below.refl W.heap.size W).alloc (Nat.le_refl _) (.cells #[] 122)
 have H0:=Lib.hid (h.below hb0)
 have HW0:=Lib.hid ((Went.refl κ W).below hb0)
 clear h hb0
 have H1:=Lib.hid h1
 clear h1
 by_cases ho1:s1.over=true
 ·rw [if_pos ho1]
  go_enter Tryz.func135,Tryz.ntmps135
  exact zDirH0
 rw [if_neg ho1]
 have ho1:s1.over=false:=by simpa using ho1
 go_enter Tryz.func135,Tryz.ntmps135
 go_wp2_with (first
  | (go_at_call 35;(with_reducible refine(H1.out _ _ _ _ H0.out).mono ?_);rintro e w1 hE;obtain⟨rfl,κ1,evv1,Y1,h1,hw1⟩:=hE.to_on ho1)
  | fail)
 go_ret
 exact(DEnds.on h1 (HW0.out.trans hw1) ho1).cast (by rw [Int.zero_sub,IntWalk.i64_left])
theorem do_not{k q2:Int}(N:Int)(h:DM K κ evv Y s k W){s1:St}{a:Int}(h1:NodeOk K k s (s1,a) q2) :
  Calls Tryz.prog 136 #[.agg #[],.pointer (some ⟨K.g,0,none⟩),.int .i64 N] W (DEnds K κ (if s1.over=true then(s1,0) else(s1,IntKind.i64.wrap (1-a))) q2 W):=by
 have hb0:=(Below.refl W.heap.size W).alloc (Nat.le_refl _) (.cells #[] 123)
 have H0:=Lib.hid (h.below hb0)
 have HW0:=Lib.hid ((Went.refl κ W).below hb0)
 clear h hb0
 have H1:=Lib.hid h1
 clear h1
 by_cases ho1:s1.over=true
 ·rw [if_pos ho1]
  go_enter Tryz.func136,Tryz.ntmps136
  exact zDirH0
 rw [if_neg ho1]
 have ho1:s1.over=false:=by simpa using ho1
 go_enter Tryz.func136,Tryz.ntmps136
 go_wp2_with (first
  | (go_at_call 35;(with_reducible refine(H1.out _ _ _ _ H0.out).mono ?_);rintro e w1 hE;obtain⟨rfl,κ1,evv1,Y1,h1,hw1⟩:=hE.to_on ho1)
  | fail)
 go_ret
 exact(DEnds.on h1 (HW0.out.trans hw1) ho1).cast (by rw [IntWalk.i64_left])
theorem do_add{k q2 q3:Int}(N:Int)(h:DM K κ evv Y s k W){s1 s2:St}{a b:Int}(h1:NodeOk K k s (s1,a) q2)(h2:s1.over=false→NodeOk K q2 s1 (s2,b) q3) :
  Calls Tryz.prog 137 #[.agg #[],.pointer (some ⟨K.g,0,none⟩),.int .i64 N] W (DEnds K κ (if s1.over=true then(s1,0) else if s2.over=true then(s2,0) else(s2,IntKind.i64.wrap (a+b))) q3 W):=by
 have hb0:=(Below.refl W.heap.size W).alloc (Nat.le_refl _) (.cells #[] 124)
 have H0:=Lib.hid (h.below hb0)
 have HW0:=Lib.hid ((Went.refl κ W).below hb0)
 clear h hb0
 have H1:=Lib.hid h1
 clear h1
 by_cases ho1:s1.over=true
 ·rw [if_pos ho1]
  clear h2
  go_enter Tryz.func137,Tryz.ntmps137
  exact zDirH0
 rw [if_neg ho1]
 have ho1:s1.over=false:=by simpa using ho1
 have H2:=Lib.hid (h2 ho1)
 clear h2
 by_cases ho2:s2.over=true
 ·rw [if_pos ho2]
  go_enter Tryz.func137,Tryz.ntmps137
  exact zDirH1
 rw [if_neg ho2]
 have ho2:s2.over=false:=by simpa using ho2
 go_enter Tryz.func137,Tryz.ntmps137
 exact zDirH3
theorem do_sub{k q2 q3:Int}(N:Int)(h:DM K κ evv Y s k W){s1 s2:St}{a b:Int}(h1:NodeOk K k s (s1,a) q2)(h2:s1.over=false→NodeOk K q2 s1 (s2,b) q3) :
  Calls Tryz.prog 138 #[.agg #[],.pointer (some ⟨K.g,0,none⟩),.int .i64 N] W (DEnds K κ (if s1.over=true then(s1,0) else if s2.over=true then(s2,0) else(s2,IntKind.i64.wrap (a-b))) q3 W):=by
 have hb0:=(Below.refl W.heap.size W).alloc (Nat.le_refl _) (.cells #[] 125)
 have H0:=Lib.hid (h.below hb0)
 have HW0:=Lib.hid ((Went.refl κ W).below hb0)
 clear h hb0
 have H1:=Lib.hid h1
 clear h1
 by_cases ho1:s1.over=true
 ·rw [if_pos ho1]
  clear h2
  go_enter Tryz.func138,Tryz.ntmps138
  exact zDirH0
 rw [if_neg ho1]
 have ho1:s1.over=false:=by simpa using ho1
 have H2:=Lib.hid (h2 ho1)
 clear h2
 by_cases ho2:s2.over=true
 ·rw [if_pos ho2]
  go_enter Tryz.func138,Tryz.ntmps138
  exact zDirH1
 rw [if_neg ho2]
 have ho2:s2.over=false:=by simpa using ho2
 go_enter Tryz.func138,Tryz.ntmps138
 exact zDirH3
theorem do_mul{k q2 q3:Int}(N:Int)(h:DM K κ evv Y s k W){s1 s2:St}{a b:Int}(h1:NodeOk K k s (s1,a) q2)(h2:s1.over=false→NodeOk K q2 s1 (s2,b) q3) :
  Calls Tryz.prog 139 #[.agg #[],.pointer (some ⟨K.g,0,none⟩),.int .i64 N] W (DEnds K κ (if s1.over=true then(s1,0) else if s2.over=true then(s2,0) else(s2,IntKind.i64.wrap (a*b))) q3 W):=by
 have hb0:=(Below.refl W.heap.size W).alloc (Nat.le_refl _) (.cells #[] 126)
 have H0:=Lib.hid (h.below hb0)
 have HW0:=Lib.hid ((Went.refl κ W).below hb0)
 clear h hb0
 have H1:=Lib.hid h1
 clear h1
 by_cases ho1:s1.over=true
 ·rw [if_pos ho1]
  clear h2
  go_enter Tryz.func139,Tryz.ntmps139
  exact zDirH0
 rw [if_neg ho1]
 have ho1:s1.over=false:=by simpa using ho1
 have H2:=Lib.hid (h2 ho1)
 clear h2
 by_cases ho2:s2.over=true
 ·rw [if_pos ho2]
  go_enter Tryz.func139,Tryz.ntmps139
  exact zDirH1
 rw [if_neg ho2]
 have ho2:s2.over=false:=by simpa using ho2
 go_enter Tryz.func139,Tryz.ntmps139
 exact zDirH3
theorem do_eq{k q2 q3:Int}(N:Int)(h:DM K κ evv Y s k W){s1 s2:St}{a b:Int}(h1:NodeOk K k s (s1,a) q2)(h2:s1.over=false→NodeOk K q2 s1 (s2,b) q3) :
  Calls Tryz.prog 143 #[.agg #[],.pointer (some ⟨K.g,0,none⟩),.int .i64 N] W (DEnds K κ (if s1.over=true then(s1,0) else if s2.over=true then(s2,0) else(s2,b01 (a==b))) q3 W):=by
 have hb0:=(Below.refl W.heap.size W).alloc (Nat.le_refl _) (.cells #[] 129)
 have H0:=Lib.hid (h.below hb0)
 have HW0:=Lib.hid ((Went.refl κ W).below hb0)
 clear h hb0
 have H1:=Lib.hid h1
 clear h1
 by_cases ho1:s1.over=true
 ·rw [if_pos ho1]
  clear h2
  go_enter Tryz.func143,Tryz.ntmps143
  exact zDirH0
 rw [if_neg ho1]
 have ho1:s1.over=false:=by simpa using ho1
 have H2:=Lib.hid (h2 ho1)
 clear h2
 by_cases ho2:s2.over=true
 ·rw [if_pos ho2]
  go_enter Tryz.func143,Tryz.ntmps143
  exact zDirH1
 rw [if_neg ho2]
 have ho2:s2.over=false:=by simpa using ho2
 go_enter Tryz.func143,Tryz.ntmps143
 exact zDirH2
theorem do_ne{k q2 q3:Int}(N:Int)(h:DM K κ evv Y s k W){s1 s2:St}{a b:Int}(h1:NodeOk K k s (s1,a) q2)(h2:s1.over=false→NodeOk K q2 s1 (s2,b) q3) :
  Calls Tryz.prog 145 #[.agg #[],.pointer (some ⟨K.g,0,none⟩),.int .i64 N] W (DEnds K κ (if s1.over=true then(s1,0) else if s2.over=true then(s2,0) else(s2,b01 (a != b))) q3 W):=by
 have hb0:=(Below.refl W.heap.size W).alloc (Nat.le_refl _) (.cells #[] 130)
 have H0:=Lib.hid (h.below hb0)
 have HW0:=Lib.hid ((Went.refl κ W).below hb0)
 clear h hb0
 have H1:=Lib.hid h1
 clear h1
 by_cases ho1:s1.over=true
 ·rw [if_pos ho1]
  clear h2
  go_enter Tryz.func145,Tryz.ntmps145
  exact zDirH0
 rw [if_neg ho1]
 have ho1:s1.over=false:=by simpa using ho1
 have H2:=Lib.hid (h2 ho1)
 clear h2
 by_cases ho2:s2.over=true
 ·rw [if_pos ho2]
  go_enter Tryz.func145,Tryz.ntmps145
  exact zDirH1
 rw [if_neg ho2]
 have ho2:s2.over=false:=by simpa using ho2
 go_enter Tryz.func145,Tryz.ntmps145
 exact zDirH2
theorem do_lt{k q2 q3:Int}(N:Int)(h:DM K κ evv Y s k W){s1 s2:St}{a b:Int}(h1:NodeOk K k s (s1,a) q2)(h2:s1.over=false→NodeOk K q2 s1 (s2,b) q3) :
  Calls Tryz.prog 146 #[.agg #[],.pointer (some ⟨K.g,0,none⟩),.int .i64 N] W (DEnds K κ (if s1.over=true then(s1,0) else if s2.over=true then(s2,0) else(s2,b01 (decide (a<b)))) q3 W):=by
 have hb0:=(Below.refl W.heap.size W).alloc (Nat.le_refl _) (.cells #[] 131)
 have H0:=Lib.hid (h.below hb0)
 have HW0:=Lib.hid ((Went.refl κ W).below hb0)
 clear h hb0
 have H1:=Lib.hid h1
 clear h1
 by_cases ho1:s1.over=true
 ·rw [if_pos ho1]
  clear h2
  go_enter Tryz.func146,Tryz.ntmps146
  exact zDirH0
 rw [if_neg ho1]
 have ho1:s1.over=false:=by simpa using ho1
 have H2:=Lib.hid (h2 ho1)
 clear h2
 by_cases ho2:s2.over=true
 ·rw [if_pos ho2]
  go_enter Tryz.func146,Tryz.ntmps146
  exact zDirH1
 rw [if_neg ho2]
 have ho2:s2.over=false:=by simpa using ho2
 go_enter Tryz.func146,Tryz.ntmps146
 exact zDirH2
theorem do_le{k q2 q3:Int}(N:Int)(h:DM K κ evv Y s k W){s1 s2:St}{a b:Int}(h1:NodeOk K k s (s1,a) q2)(h2:s1.over=false→NodeOk K q2 s1 (s2,b) q3) :
  Calls Tryz.prog 147 #[.agg #[],.pointer (some ⟨K.g,0,none⟩),.int .i64 N] W (DEnds K κ (if s1.over=true then(s1,0) else if s2.over=true then(s2,0) else(s2,b01 (decide (a≤b)))) q3 W):=by
 have hb0:=(Below.refl W.heap.size W).alloc (Nat.le_refl _) (.cells #[] 132)
 have H0:=Lib.hid (h.below hb0)
 have HW0:=Lib.hid ((Went.refl κ W).below hb0)
 clear h hb0
 have H1:=Lib.hid h1
 clear h1
 by_cases ho1:s1.over=true
 ·rw [if_pos ho1]
  clear h2
  go_enter Tryz.func147,Tryz.ntmps147
  exact zDirH0
 rw [if_neg ho1]
 have ho1:s1.over=false:=by simpa using ho1
 have H2:=Lib.hid (h2 ho1)
 clear h2
 by_cases ho2:s2.over=true
 ·rw [if_pos ho2]
  go_enter Tryz.func147,Tryz.ntmps147
  exact zDirH1
 rw [if_neg ho2]
 have ho2:s2.over=false:=by simpa using ho2
 go_enter Tryz.func147,Tryz.ntmps147
 exact zDirH2
theorem do_gt{k q2 q3:Int}(N:Int)(h:DM K κ evv Y s k W){s1 s2:St}{a b:Int}(h1:NodeOk K k s (s1,a) q2)(h2:s1.over=false→NodeOk K q2 s1 (s2,b) q3) :
  Calls Tryz.prog 148 #[.agg #[],.pointer (some ⟨K.g,0,none⟩),.int .i64 N] W (DEnds K κ (if s1.over=true then(s1,0) else if s2.over=true then(s2,0) else(s2,b01 (decide (b<a)))) q3 W):=by
 have hb0:=(Below.refl W.heap.size W).alloc (Nat.le_refl _) (.cells #[] 133)
 have H0:=Lib.hid (h.below hb0)
 have HW0:=Lib.hid ((Went.refl κ W).below hb0)
 clear h hb0
 have H1:=Lib.hid h1
 clear h1
 by_cases ho1:s1.over=true
 ·rw [if_pos ho1]
  clear h2
  go_enter Tryz.func148,Tryz.ntmps148
  exact zDirH0
 rw [if_neg ho1]
 have ho1:s1.over=false:=by simpa using ho1
 have H2:=Lib.hid (h2 ho1)
 clear h2
 by_cases ho2:s2.over=true
 ·rw [if_pos ho2]
  go_enter Tryz.func148,Tryz.ntmps148
  exact zDirH1
 rw [if_neg ho2]
 have ho2:s2.over=false:=by simpa using ho2
 go_enter Tryz.func148,Tryz.ntmps148
 exact zDirH2
theorem do_ge{k q2 q3:Int}(N:Int)(h:DM K κ evv Y s k W){s1 s2:St}{a b:Int}(h1:NodeOk K k s (s1,a) q2)(h2:s1.over=false→NodeOk K q2 s1 (s2,b) q3) :
  Calls Tryz.prog 149 #[.agg #[],.pointer (some ⟨K.g,0,none⟩),.int .i64 N] W (DEnds K κ (if s1.over=true then(s1,0) else if s2.over=true then(s2,0) else(s2,b01 (decide (b≤a)))) q3 W):=by
 have hb0:=(Below.refl W.heap.size W).alloc (Nat.le_refl _) (.cells #[] 134)
 have H0:=Lib.hid (h.below hb0)
 have HW0:=Lib.hid ((Went.refl κ W).below hb0)
 clear h hb0
 have H1:=Lib.hid h1
 clear h1
 by_cases ho1:s1.over=true
 ·rw [if_pos ho1]
  clear h2
  go_enter Tryz.func149,Tryz.ntmps149
  exact zDirH0
 rw [if_neg ho1]
 have ho1:s1.over=false:=by simpa using ho1
 have H2:=Lib.hid (h2 ho1)
 clear h2
 by_cases ho2:s2.over=true
 ·rw [if_pos ho2]
  go_enter Tryz.func149,Tryz.ntmps149
  exact zDirH1
 rw [if_neg ho2]
 have ho2:s2.over=false:=by simpa using ho2
 go_enter Tryz.func149,Tryz.ntmps149
 exact zDirH2
end
section
variable {K:DK} {κ:Nat→Nat} {evv:Value} {Y:List ((Option Addr×Nat)×List Int)} {s:St} {pos:Int} {W W':World}
def dvs(r:St×Int):St×Int:=if r.1.over=true then r else if r.2=0 then(r.1.stop 1 0,0) else r
theorem divisor_any{k q2:Int}(h:DM K κ evv Y s k W){s1:St}{a:Int}(h1:NodeOk K k s (s1,a) q2):Calls Tryz.prog 141 #[.pointer (some ⟨K.g,0,none⟩)] W (DEnds K κ (dvs (s1,a)) q2 W):=by
 unfold dvs
 simp only
 have H0:=Lib.hid h
 have H1:=Lib.hid h1
 clear h h1
 by_cases ho1:s1.over=true
 ·rw [if_pos ho1]
  go_enter Tryz.func141,Tryz.ntmps141
  go_wp2_with (first
   | (go_at_call 35;(with_reducible refine(H1.out _ _ _ _ H0.out).mono ?_);rintro e w1 hE;obtain⟨rfl,κ1,evv1,Y1,pos1,h1,hw1⟩:=hE.to_over ho1)
   | fail)
  exact⟨rfl,DEnds.over h1 (hw1) ho1⟩
 rw [if_neg ho1]
 have ho1:s1.over=false:=by simpa using ho1
 by_cases ha:a=0
 ·subst ha
  rw [if_pos rfl]
  go_enter Tryz.func141,Tryz.ntmps141
  go_wp2_with (first
   | (go_at_call 35;(with_reducible refine(H1.out _ _ _ _ H0.out).mono ?_);rintro e w1 hE;obtain⟨rfl,κ1,evv1,Y1,h1,hw1⟩:=hE.to_on ho1)
   | (go_at_call 36;(with_reducible refine(without_any 1 _).mono ?_);rintro e w3 ⟨rfl,hb3⟩)
   | fail)
  exact⟨rfl,DEnds.stopped (h1.below hb3) (hw1.below hb3) ho1 1 0⟩
 rw [if_neg ha]
 have e1:(a==0)=false:=by simpa using ha
 go_enter Tryz.func141,Tryz.ntmps141
 go_wp2_with (first
  | (go_at_call 35;(with_reducible refine(H1.out _ _ _ _ H0.out).mono ?_);rintro e w1 hE;obtain⟨rfl,κ1,evv1,Y1,h1,hw1⟩:=hE.to_on ho1)
  | fail)
 go_ret
 exact DEnds.on h1 hw1 ho1
theorem do_div{k q2 q3:Int}(N:Int)(h:DM K κ evv Y s k W){s1 s2:St}{a b:Int}(h1:NodeOk K k s (s1,a) q2)(h2:s1.over=false→NodeOk K q2 s1 (s2,b) q3) :
  Calls Tryz.prog 140 #[.agg #[],.pointer (some ⟨K.g,0,none⟩),.int .i64 N] W (DEnds K κ (if s1.over=true then(s1,0) else if s2.over=true then(s2,0) else if b=0 then(s2.stop 1 0,0) else(s2,IntKind.i64.wrap (a.tdiv b))) q3 W):=by
 have hb0:=(Below.refl W.heap.size W).alloc (Nat.le_refl _) (.cells #[] 127)
 have H0:=Lib.hid (h.below hb0)
 have HW0:=Lib.hid ((Went.refl κ W).below hb0)
 clear h hb0
 have H1:=Lib.hid h1
 clear h1
 by_cases ho1:s1.over=true
 ·rw [if_pos ho1]
  clear h2
  go_enter Tryz.func140,Tryz.ntmps140
  exact zDirH0
 rw [if_neg ho1]
 have ho1:s1.over=false:=by simpa using ho1
 have H2:=Lib.hid (fun κ evv Y W h=>divisor_any (κ:=κ) (evv:=evv) (Y:=Y) (W:=W) h (h2 ho1))
 clear h2
 unfold dvs at H2
 simp only at H2
 by_cases ho2:s2.over=true
 ·rw [if_pos ho2] at H2 ⊢
  go_enter Tryz.func140,Tryz.ntmps140
  exact zDirH5
 rw [if_neg ho2] at H2 ⊢
 have ho2:s2.over=false:=by simpa using ho2
 by_cases hz:b=0
 ·rw [if_pos hz] at H2 ⊢
  have ho3:(s2.stop 1 0,(0:Int)).1.over=true:=stop_over _ _ _
  go_enter Tryz.func140,Tryz.ntmps140
  exact zDirH6
 rw [if_neg hz] at H2 ⊢
 go_enter Tryz.func140,Tryz.ntmps140
 go_wp2_with (first
  | (go_at_call 35;(with_reducible refine(H1.out _ _ _ _ H0.out).mono ?_);rintro e w1 hE;obtain⟨rfl,κ1,evv1,Y1,h1,hw1⟩:=hE.to_on ho1)
  | (go_at_call 141;(with_reducible refine(H2.out _ _ _ _ h1).mono ?_);rintro e w2 hE;obtain⟨rfl,κ2,evv2,Y2,h2,hw2⟩:=hE.to_on ho2)
  | fail)
 go_ret
 exact(DEnds.on h2 ((HW0.out.trans hw1).trans hw2) ho2).cast (by rw [IntWalk.i64_left])
theorem do_mod{k q2 q3:Int}(N:Int)(h:DM K κ evv Y s k W){s1 s2:St}{a b:Int}(h1:NodeOk K k s (s1,a) q2)(h2:s1.over=false→NodeOk K q2 s1 (s2,b) q3) :
  Calls Tryz.prog 142 #[.agg #[],.pointer (some ⟨K.g,0,none⟩),.int .i64 N] W (DEnds K κ (if s1.over=true then(s1,0) else if s2.over=true then(s2,0) else if b=0 then(s2.stop 1 0,0) else(s2,a.tmod b)) q3 W):=by
 have hb0:=(Below.refl W.heap.size W).alloc (Nat.le_refl _) (.cells #[] 128)
 have H0:=Lib.hid (h.below hb0)
 have HW0:=Lib.hid ((Went.refl κ W).below hb0)
 clear h hb0
 have H1:=Lib.hid h1
 clear h1
 by_cases ho1:s1.over=true
 ·rw [if_pos ho1]
  clear h2
  go_enter Tryz.func142,Tryz.ntmps142
  exact zDirH0
 rw [if_neg ho1]
 have ho1:s1.over=false:=by simpa using ho1
 have H2:=Lib.hid (fun κ evv Y W h=>divisor_any (κ:=κ) (evv:=evv) (Y:=Y) (W:=W) h (h2 ho1))
 clear h2
 unfold dvs at H2
 simp only at H2
 by_cases ho2:s2.over=true
 ·rw [if_pos ho2] at H2 ⊢
  go_enter Tryz.func142,Tryz.ntmps142
  exact zDirH5
 rw [if_neg ho2] at H2 ⊢
 have ho2:s2.over=false:=by simpa using ho2
 by_cases hz:b=0
 ·rw [if_pos hz] at H2 ⊢
  have ho3:(s2.stop 1 0,(0:Int)).1.over=true:=stop_over _ _ _
  go_enter Tryz.func142,Tryz.ntmps142
  exact zDirH6
 rw [if_neg hz] at H2 ⊢
 go_enter Tryz.func142,Tryz.ntmps142
 go_wp2_with (first
  | (go_at_call 35;(with_reducible refine(H1.out _ _ _ _ H0.out).mono ?_);rintro e w1 hE;obtain⟨rfl,κ1,evv1,Y1,h1,hw1⟩:=hE.to_on ho1)
  | (go_at_call 141;(with_reducible refine(H2.out _ _ _ _ h1).mono ?_);rintro e w2 hE;obtain⟨rfl,κ2,evv2,Y2,h2,hw2⟩:=hE.to_on ho2)
  | fail)
 go_ret
 exact DEnds.on h2 ((HW0.out.trans hw1).trans hw2) ho2
theorem do_and{k:Int}{q2 n:Nat}(N:Int)(h:DM K κ evv Y s k W){s1 s2:St}{a b:Int}(h1:NodeOk K k s (s1,a) q2)(hn:scan 1 (K.p.xs.drop q2)=some n)(h2:s1.over=false→a≠0→NodeOk K q2 s1 (s2,b) ((q2+n:Nat):Int)) :
  Calls Tryz.prog 150 #[.agg #[],.pointer (some ⟨K.g,0,none⟩),.int .i64 N] W (DEnds K κ (if s1.over=true then(s1,0) else if a=0 then(s1,0) else(s2,b)) ((q2+n:Nat):Int) W):=by
 have hb0:=(Below.refl W.heap.size W).alloc (Nat.le_refl _) (.cells #[] 135)
 have H0:=Lib.hid (h.below hb0)
 have HW0:=Lib.hid ((Went.refl κ W).below hb0)
 clear h hb0
 have H1:=Lib.hid h1
 clear h1
 by_cases ho1:s1.over=true
 ·rw [if_pos ho1]
  clear h2
  go_enter Tryz.func150,Tryz.ntmps150
  exact zDirH0
 rw [if_neg ho1]
 have ho1:s1.over=false:=by simpa using ho1
 by_cases ha:a=0
 ·subst ha
  rw [if_pos rfl]
  have HN:=Lib.hid hn
  clear h2 hn
  go_enter Tryz.func150,Tryz.ntmps150
  exact zDirH8
 rw [if_neg ha]
 have e1:(a==0)=false:=by simpa using ha
 have H2:=Lib.hid (h2 ho1 ha)
 clear h2 hn
 generalize ((q2+n:Nat):Int)=q3 at *
 by_cases ho2:s2.over=true
 ·go_enter Tryz.func150,Tryz.ntmps150
  go_wp2_with (first
   | (go_at_call 35;(with_reducible refine(H1.out _ _ _ _ H0.out).mono ?_);rintro e w1 hE;obtain⟨rfl,κ1,evv1,Y1,h1,hw1⟩:=hE.to_on ho1)
   | (go_at_call 35;(with_reducible refine(H2.out _ _ _ _ h1).mono ?_);rintro e w2 hE;obtain⟨rfl,κ2,evv2,Y2,pos2,h2,hw2⟩:=hE.to_over ho2)
   | fail)
  exact⟨rfl,DEnds.over h2 ((HW0.out.trans hw1).trans hw2) ho2⟩
 have ho2:s2.over=false:=by simpa using ho2
 go_enter Tryz.func150,Tryz.ntmps150
 exact zDirH7
theorem do_or{k:Int}{q2 n:Nat}(N:Int)(h:DM K κ evv Y s k W){s1 s2:St}{a b:Int}(h1:NodeOk K k s (s1,a) q2)(hn:scan 1 (K.p.xs.drop q2)=some n)(h2:s1.over=false→a≠1→NodeOk K q2 s1 (s2,b) ((q2+n:Nat):Int)) :
  Calls Tryz.prog 151 #[.agg #[],.pointer (some ⟨K.g,0,none⟩),.int .i64 N] W (DEnds K κ (if s1.over=true then(s1,0) else if a=1 then(s1,1) else(s2,b)) ((q2+n:Nat):Int) W):=by
 have hb0:=(Below.refl W.heap.size W).alloc (Nat.le_refl _) (.cells #[] 136)
 have H0:=Lib.hid (h.below hb0)
 have HW0:=Lib.hid ((Went.refl κ W).below hb0)
 clear h hb0
 have H1:=Lib.hid h1
 clear h1
 by_cases ho1:s1.over=true
 ·rw [if_pos ho1]
  clear h2
  go_enter Tryz.func151,Tryz.ntmps151
  exact zDirH0
 rw [if_neg ho1]
 have ho1:s1.over=false:=by simpa using ho1
 by_cases ha:a=1
 ·subst ha
  rw [if_pos rfl]
  have HN:=Lib.hid hn
  clear h2 hn
  go_enter Tryz.func151,Tryz.ntmps151
  exact zDirH8
 rw [if_neg ha]
 have e1:(a==1)=false:=by simpa using ha
 have H2:=Lib.hid (h2 ho1 ha)
 clear h2 hn
 generalize ((q2+n:Nat):Int)=q3 at *
 by_cases ho2:s2.over=true
 ·go_enter Tryz.func151,Tryz.ntmps151
  go_wp2_with (first
   | (go_at_call 35;(with_reducible refine(H1.out _ _ _ _ H0.out).mono ?_);rintro e w1 hE;obtain⟨rfl,κ1,evv1,Y1,h1,hw1⟩:=hE.to_on ho1)
   | (go_at_call 35;(with_reducible refine(H2.out _ _ _ _ h1).mono ?_);rintro e w2 hE;obtain⟨rfl,κ2,evv2,Y2,pos2,h2,hw2⟩:=hE.to_over ho2)
   | fail)
  exact⟨rfl,DEnds.over h2 ((HW0.out.trans hw1).trans hw2) ho2⟩
 have ho2:s2.over=false:=by simpa using ho2
 go_enter Tryz.func151,Tryz.ntmps151
 exact zDirH7
theorem do_giveBack{k q2:Int}(N:Int)(h:DM K κ evv Y s k W){s1:St}{a:Int}(h1:NodeOk K k s (s1,a) q2)(q3:Int) :
  Calls Tryz.prog 158 #[.agg #[],.pointer (some ⟨K.g,0,none⟩),.int .i64 N] W (DEnds K κ (if s1.over=true then(s1,0) else(s1.stop 0 a,0)) q3 W):=by
 have hb0:=(Below.refl W.heap.size W).alloc (Nat.le_refl _) (.cells #[] 142)
 have H0:=Lib.hid (h.below hb0)
 have HW0:=Lib.hid ((Went.refl κ W).below hb0)
 clear h hb0
 have H1:=Lib.hid h1
 clear h1
 by_cases ho1:s1.over=true
 ·rw [if_pos ho1]
  go_enter Tryz.func158,Tryz.ntmps158
  exact zDirH0
 rw [if_neg ho1]
 have ho1:s1.over=false:=by simpa using ho1
 go_enter Tryz.func158,Tryz.ntmps158
 go_wp2_with (first
  | (go_at_call 35;(with_reducible refine(H1.out _ _ _ _ H0.out).mono ?_);rintro e w1 hE;obtain⟨rfl,κ1,evv1,Y1,h1,hw1⟩:=hE.to_on ho1)
  | fail)
 exact⟨rfl,DEnds.stopped h1 (HW0.out.trans hw1) ho1 0 a⟩
theorem do_branch{k:Int}{q2 n2 n3:Nat}(N:Int)(h:DM K κ evv Y s k W){s1 s2:St}{a b:Int}(h1:NodeOk K k s (s1,a) q2)(hn2:scan 1 (K.p.xs.drop q2)=some n2)(hn3:scan 1 (K.p.xs.drop (q2+n2))=some n3)
  (h2:s1.over=false→(a=1→NodeOk K q2 s1 (s2,b) ((q2+n2:Nat):Int))∧(a≠1→NodeOk K ((q2+n2:Nat):Int) s1 (s2,b) ((q2+n2+n3:Nat):Int))) :
  Calls Tryz.prog 156 #[.agg #[],.pointer (some ⟨K.g,0,none⟩),.int .i64 N] W (DEnds K κ (if s1.over=true then(s1,0) else(s2,0)) ((q2+n2+n3:Nat):Int) W):=by
 have hb0:=(Below.refl W.heap.size W).alloc (Nat.le_refl _) (.cells #[] 140)
 have H0:=Lib.hid (h.below hb0)
 have HW0:=Lib.hid ((Went.refl κ W).below hb0)
 clear h hb0
 have H1:=Lib.hid h1
 clear h1
 by_cases ho1:s1.over=true
 ·rw [if_pos ho1]
  clear h2
  go_enter Tryz.func156,Tryz.ntmps156
  exact zDirH0
 rw [if_neg ho1]
 have ho1:s1.over=false:=by simpa using ho1
 have HN2:=Lib.hid hn2
 have HN3:=Lib.hid hn3
 clear hn2 hn3
 by_cases ha:a=1
 ·subst ha
  have H2:=Lib.hid ((h2 ho1).1 rfl)
  clear h2
  by_cases ho2:s2.over=true
  ·go_enter Tryz.func156,Tryz.ntmps156
   go_wp2_with (first
    | (go_at_call 35;(with_reducible refine(H1.out _ _ _ _ H0.out).mono ?_);rintro e w1 hE;obtain⟨rfl,κ1,evv1,Y1,h1,hw1⟩:=hE.to_on ho1)
    | (go_at_call 35;(with_reducible refine(H2.out _ _ _ _ h1).mono ?_);rintro e w2 hE;obtain⟨rfl,κ2,evv2,Y2,pos2,h2,hw2⟩:=hE.to_over ho2)
    | fail)
   exact⟨rfl,DEnds.over h2 ((HW0.out.trans hw1).trans hw2) ho2⟩
  have ho2:s2.over=false:=by simpa using ho2
  go_enter Tryz.func156,Tryz.ntmps156
  go_wp2_with (first
   | (go_at_call 35;(with_reducible refine(H1.out _ _ _ _ H0.out).mono ?_);rintro e w1 hE;obtain⟨rfl,κ1,evv1,Y1,h1,hw1⟩:=hE.to_on ho1)
   | (go_at_call 35;(with_reducible refine(H2.out _ _ _ _ h1).mono ?_);rintro e w2 hE;obtain⟨rfl,κ2,evv2,Y2,h2,hw2⟩:=hE.to_on ho2)
   | (go_at_call 130;(with_reducible refine(pass_any h2 HN3.out).mono ?_);rintro e w4 ⟨rfl,h4,hw4⟩)
   | fail)
  go_ret
  exact DEnds.on h4 (((HW0.out.trans hw1).trans hw2).trans hw4) ho2
 have e1:(a==1)=false:=by simpa using ha
 have H2:=Lib.hid ((h2 ho1).2 ha)
 clear h2
 by_cases ho2:s2.over=true
 ·go_enter Tryz.func156,Tryz.ntmps156
  go_wp2_with (first
   | (go_at_call 35;(with_reducible refine(H1.out _ _ _ _ H0.out).mono ?_);rintro e w1 hE;obtain⟨rfl,κ1,evv1,Y1,h1,hw1⟩:=hE.to_on ho1)
   | (go_at_call 130;(with_reducible refine(pass_any h1 HN2.out).mono ?_);rintro e w4 ⟨rfl,h4,hw4⟩)
   | (go_at_call 35;(with_reducible refine(H2.out _ _ _ _ h4).mono ?_);rintro e w2 hE;obtain⟨rfl,κ2,evv2,Y2,pos2,h2,hw2⟩:=hE.to_over ho2)
   | fail)
  exact⟨rfl,DEnds.over h2 (((HW0.out.trans hw1).trans hw4).trans hw2) ho2⟩
 have ho2:s2.over=false:=by simpa using ho2
 go_enter Tryz.func156,Tryz.ntmps156
 go_wp2_with (first
  | (go_at_call 35;(with_reducible refine(H1.out _ _ _ _ H0.out).mono ?_);rintro e w1 hE;obtain⟨rfl,κ1,evv1,Y1,h1,hw1⟩:=hE.to_on ho1)
  | (go_at_call 130;(with_reducible refine(pass_any h1 HN2.out).mono ?_);rintro e w4 ⟨rfl,h4,hw4⟩)
  | (go_at_call 35;(with_reducible refine(H2.out _ _ _ _ h4).mono ?_);rintro e w2 hE;obtain⟨rfl,κ2,evv2,Y2,h2,hw2⟩:=hE.to_on ho2)
  | fail)
 go_ret
 exact DEnds.on h2 (((HW0.out.trans hw1).trans hw4).trans hw2) ho2
theorem do_variable{k:Int}(h:DM K κ evv Y s k W)(ho:s.over=false){n:Nat}(hn:n<K.p.vs.length){x:Int}(hx:dcell K.p.vs s n=[x]) :
  Calls Tryz.prog 132 #[.agg #[],.pointer (some ⟨K.g,0,none⟩),.int .i64 n] W (DEnds K κ (s,x) k W):=by
 have hb0:=(Below.refl W.heap.size W).alloc (Nat.le_refl _) (.cells #[] 120)
 have H0:=Lib.hid (h.below hb0)
 have HW0:=Lib.hid ((Went.refl κ W).below hb0)
 clear h hb0
 obtain⟨cb,cc,b,c,e1,y1,-,y3,-,-⟩:=H0.out.var hn (by rw [hx];exact Nat.zero_lt_one)
 have c8:(W.alloc (.cells #[] 120)).cell? ⟨K.g,8,none⟩=some K.cv:=H0.out.cell 8
 rw [e1] at c8
 have y0:=y3 0 x (by rw [hx];rfl)
 rw [hx] at y1
 have i1:(n:Int)<(K.p.vs.length:Int):=by omega
 have i2:(0:Int)≤(n:Int):=by omega
 clear y3 hx e1 hn
 go_enter Tryz.func132,Tryz.ntmps132
 go_wp2_with fail
 go_ret
 exact DEnds.on H0.out HW0.out ho
theorem do_element{k q2:Int}(h:DM K κ evv Y s k W){s1:St}{a:Int}(h1:NodeOk K k s (s1,a) q2){n:Nat}(hn:n<K.p.vs.length)(hp:0<(dcell K.p.vs s1 n).length) :
  Calls Tryz.prog 133 #[.agg #[],.pointer (some ⟨K.g,0,none⟩),.int .i64 n] W (DEnds K κ (if s1.over=true then(s1,0) else if a<0∨((dcell K.p.vs s1 n).length:Int)≤a then(s1.stop 2 0,0) else(s1,(dcell K.p.vs s1 n).getD a.toNat 0)) q2 W):=by
 have hb0:=(Below.refl W.heap.size W).alloc (Nat.le_refl _) (.cells #[] 121)
 have H0:=Lib.hid (h.below hb0)
 have HW0:=Lib.hid ((Went.refl κ W).below hb0)
 clear h hb0
 have H1:=Lib.hid h1
 have HN:=Lib.hid hn
 have HP:=Lib.hid hp
 clear h1 hn hp
 by_cases ho1:s1.over=true
 ·rw [if_pos ho1]
  go_enter Tryz.func133,Tryz.ntmps133
  exact zDirH0
 rw [if_neg ho1]
 have ho1:s1.over=false:=by simpa using ho1
 by_cases hi:a<0∨((dcell K.p.vs s1 n).length:Int)≤a
 ·rw [if_pos hi]
  have HI:=Lib.hid hi
  clear hi
  go_enter Tryz.func133,Tryz.ntmps133
  go_wp2_with (first
   | (go_at_call 35;(with_reducible refine(H1.out _ _ _ _ H0.out).mono ?_);rintro e w1 hE;obtain⟨rfl,κ1,evv1,Y1,h1,hw1⟩:=hE.to_on ho1)
   | (go_at_call 134;(with_reducible refine(place_out h1 HN.out HP.out HI.out).mono ?_);rintro e w4 ⟨rfl,h4,hw4⟩)
   | fail)
  exact⟨rfl,DEnds.stopped h4 ((HW0.out.trans hw1).trans hw4) ho1 2 0⟩
 rw [if_neg hi]
 obtain⟨i,rfl⟩:=Int.eq_ofNat_of_zero_le (show 0≤a by omega)
 have hil:i<(dcell K.p.vs s1 n).length:=by omega
 obtain⟨x,hx⟩:∃ x,(dcell K.p.vs s1 n)[i]? = some x:=⟨_,List.getElem?_eq_getElem hil⟩
 rw [Int.toNat_natCast,List.getD_eq_getElem?_getD,hx]
 have HI:=Lib.hid hil
 have HX:=Lib.hid hx
 clear hi hil hx
 go_enter Tryz.func133,Tryz.ntmps133
 go_wp2_with (first
  | (go_at_call 35;(with_reducible refine(H1.out _ _ _ _ H0.out).mono ?_);rintro e w1 hE;obtain⟨rfl,κ1,evv1,Y1,h1,hw1⟩:=hE.to_on ho1)
  | (go_at_call 134;(with_reducible refine(place_in h1 HN.out HI.out).mono ?_);rintro e w4 ⟨rfl,bb,cc,rfl,hy4,hc4,hf4,hk4⟩;have hc5:=hc4 i x HX.out;clear hc4 hf4 hy4 hk4)
  | fail)
 go_ret
 exact DEnds.on h1 (HW0.out.trans hw1) ho1
theorem do_set{k q2:Int}(h:DM K κ evv Y s k W){s1:St}{a:Int}(h1:NodeOk K k s (s1,a) q2)(he:s1.ev.length<1000000){n:Nat}(hn:n<K.p.vs.length){x:Int}(hx:dcell K.p.vs s1 n=[x]){s2:St}(hd:dcells K.p.vs s2=(dcells K.p.vs s1).set n [a])(hv:s2.ev=s1.ev++[((n:Int),-1,a)])(hs:s2.steps=s1.steps)(ho2:s1.over=false→s2.over=false) :
  Calls Tryz.prog 153 #[.agg #[],.pointer (some ⟨K.g,0,none⟩),.int .i64 n] W (DEnds K κ (if s1.over=true then(s1,0) else(s2,0)) q2 W):=by
 have hb0:=(Below.refl W.heap.size W).alloc (Nat.le_refl _) (.cells #[] 138)
 have H0:=Lib.hid (h.below hb0)
 have HW0:=Lib.hid ((Went.refl κ W).below hb0)
 clear h hb0
 have H1:=Lib.hid h1
 have HN:=Lib.hid hn
 have HE:=Lib.hid he
 have HD:=Lib.hid (show dcells K.p.vs s2=(dcells K.p.vs s1).set n ([x].set 0 a) from hd)
 have HV:=Lib.hid hv
 have HS:=Lib.hid hs
 have HX:=Lib.hid hx
 have i1:(n:Int)<(K.p.vs.length:Int):=by omega
 have i2:(0:Int)≤(n:Int):=by omega
 clear h1 hn he hd hv hs hx
 by_cases ho1:s1.over=true
 ·rw [if_pos ho1]
  clear ho2
  go_enter Tryz.func153,Tryz.ntmps153
  exact zDirH0
 rw [if_neg ho1]
 have ho1:s1.over=false:=by simpa using ho1
 have ho2:=ho2 ho1
 go_enter Tryz.func153,Tryz.ntmps153
 go_wp2_with (first
  | (go_at_call 35;(with_reducible refine(H1.out _ _ _ _ H0.out).mono ?_);rintro e w1 hE;obtain⟨rfl,κ1,evv1,Y1,h1,hw1⟩:=hE.to_on ho1;obtain⟨cb,cc,b,c,e1,y1,y2,-,-,-⟩:=h1.var HN.out (by rw [HX.out];exact Nat.zero_lt_one);have c8:w1.cell? ⟨K.g,8,none⟩=some K.cv:=h1.cell 8;rw [e1] at c8;rw [HX.out] at y1 y2;have HY:=Lib.hid y2;clear e1 y2)
  | (go_at_call 154;(with_reducible refine(store_any h1 HE.out HY.out (show 0<1 by decide) (n:Int) (-1) a HD.out HV.out HS.out).mono ?_);rintro e w5 ⟨rfl,κ5,evv5,Y5,h5,hw5⟩)
  | fail)
 go_ret
 exact DEnds.on h5 ((HW0.out.trans hw1).trans hw5) ho2
theorem do_put{k q2 q3:Int}(h:DM K κ evv Y s k W){s1 s2:St}{a b:Int}(h1:NodeOk K k s (s1,a) q2)(h2:s1.over=false→NodeOk K q2 s1 (s2,b) q3){n:Nat}(hn:n<K.p.vs.length){s3:St}
  (hA:s1.over=false→s2.ev.length<1000000∧0<(dcell K.p.vs s2 n).length∧(¬ (a<0∨((dcell K.p.vs s2 n).length:Int)≤a)→dcells K.p.vs s3=(dcells K.p.vs s2).set n ((dcell K.p.vs s2 n).set a.toNat b)∧s3.ev=s2.ev++[((n:Int),a,b)]∧s3.steps=s2.steps∧(s2.over=false→s3.over=false))) :
  Calls Tryz.prog 155 #[.agg #[],.pointer (some ⟨K.g,0,none⟩),.int .i64 n] W (DEnds K κ (if s1.over=true then(s1,0) else if s2.over=true then(s2,0) else if a<0∨((dcell K.p.vs s2 n).length:Int)≤a then(s2.stop 2 0,0) else(s3,0)) q3 W):=by
 have hb0:=(Below.refl W.heap.size W).alloc (Nat.le_refl _) (.cells #[] 139)
 have H0:=Lib.hid (h.below hb0)
 have HW0:=Lib.hid ((Went.refl κ W).below hb0)
 clear h hb0
 have H1:=Lib.hid h1
 have HN:=Lib.hid hn
 clear h1 hn
 by_cases ho1:s1.over=true
 ·rw [if_pos ho1]
  clear h2 hA
  go_enter Tryz.func155,Tryz.ntmps155
  exact zDirH0
 rw [if_neg ho1]
 have ho1:s1.over=false:=by simpa using ho1
 have H2:=Lib.hid (h2 ho1)
 obtain⟨he,hp,hd⟩:=hA ho1
 have HP:=Lib.hid hp
 have HE:=Lib.hid he
 clear h2 hp he hA
 by_cases ho2:s2.over=true
 ·rw [if_pos ho2]
  clear hd
  go_enter Tryz.func155,Tryz.ntmps155
  exact zDirH1
 rw [if_neg ho2]
 have ho2:s2.over=false:=by simpa using ho2
 by_cases hi:a<0∨((dcell K.p.vs s2 n).length:Int)≤a
 ·rw [if_pos hi]
  have HI:=Lib.hid hi
  clear hi hd
  go_enter Tryz.func155,Tryz.ntmps155
  go_wp2_with (first
   | (go_at_call 35;(with_reducible refine(H1.out _ _ _ _ H0.out).mono ?_);rintro e w1 hE;obtain⟨rfl,κ1,evv1,Y1,h1,hw1⟩:=hE.to_on ho1)
   | (go_at_call 35;(with_reducible refine(H2.out _ _ _ _ h1).mono ?_);rintro e w2 hE;obtain⟨rfl,κ2,evv2,Y2,h2,hw2⟩:=hE.to_on ho2)
   | (go_at_call 134;(with_reducible refine(place_out h2 HN.out HP.out HI.out).mono ?_);rintro e w4 ⟨rfl,h4,hw4⟩)
   | fail)
  exact⟨rfl,DEnds.stopped h4 (((HW0.out.trans hw1).trans hw2).trans hw4) ho2 2 0⟩
 rw [if_neg hi]
 obtain⟨hd,hv,hs,ho3⟩:=hd hi
 obtain⟨i,rfl⟩:=Int.eq_ofNat_of_zero_le (show 0≤a by omega)
 have hil:i<(dcell K.p.vs s2 n).length:=by omega
 rw [Int.toNat_natCast] at hd
 have HD:=Lib.hid hd
 have HV:=Lib.hid hv
 have HS:=Lib.hid hs
 have ho3:=ho3 ho2
 have HI:=Lib.hid hil
 clear hi hil hd hv hs
 go_enter Tryz.func155,Tryz.ntmps155
 go_wp2_with (first
  | (go_at_call 35;(with_reducible refine(H1.out _ _ _ _ H0.out).mono ?_);rintro e w1 hE;obtain⟨rfl,κ1,evv1,Y1,h1,hw1⟩:=hE.to_on ho1)
  | (go_at_call 35;(with_reducible refine(H2.out _ _ _ _ h1).mono ?_);rintro e w2 hE;obtain⟨rfl,κ2,evv2,Y2,h2,hw2⟩:=hE.to_on ho2)
  | (go_at_call 134;(with_reducible refine(place_in h2 HN.out HI.out).mono ?_);rintro e w4 ⟨rfl,bb,cc,rfl,hy4,hc4,hf4,hk4⟩;have HY:=Lib.hid hy4;clear hc4 hf4 hy4 hk4)
  | (go_at_call 154;(with_reducible refine(store_any h2 HE.out HY.out HI.out (n:Int) (i:Int) b HD.out HV.out HS.out).mono ?_);rintro e w5 ⟨rfl,κ5,evv5,Y5,h5,hw5⟩)
  | fail)
 go_ret
 exact DEnds.on h5 (((HW0.out.trans hw1).trans hw2).trans hw5) ho3
end
section
variable {K:DK} {κ:Nat→Nat} {evv:Value} {Y:List ((Option Addr×Nat)×List Int)} {s:St} {pos:Int} {W W':World}
theorem do_block{P:Nat→Int}{R:Nat→St}{n:Nat}(hn:n≤1000000)(h:DM K κ evv Y (R 0) (P 0) W)(ho:(R 0).over=false)(hstep:∀ j,j<n→(R j).over=false→∃ v,NodeOk K (P j) (R j) (R (j+1),v) (P (j+1)))(hover:∀ j,j≤n→(R j).over=true→R n=R j) :
  Calls Tryz.prog 152 #[.agg #[],.pointer (some ⟨K.g,0,none⟩),.int .i64 n] W (DEnds K κ (R n,0) (P n) W):=by
 have hb0:=(Below.refl W.heap.size W).alloc (Nat.le_refl _) (.cells #[] 137)
 have H0:=Lib.hid (h.below hb0)
 have HW0:=Lib.hid ((Went.refl κ W).below hb0)
 clear h hb0
 have HC0:=Lib.hid (show Came K κ (R 0) (P 0) W _ from⟨_,_,_,H0.out,HW0.out⟩)
 have HST:=Lib.hid hstep
 have HOV:=Lib.hid hover
 clear H0 HW0 hstep hover
 go_enter Tryz.func152,Tryz.ntmps152
 go_wp2_with fail
 go_loopw [8] (fun i wr=>∃ j:Nat,j≤n∧i=.int .i64 j∧(R j).over=false∧Came K κ (R j) (P j) W wr) (fun i _=>n-(intOf i).toNat)
 case atStart=>exact⟨0,Nat.zero_le _,rfl,ho,HC0.out⟩
 case round =>
  obtain⟨j,hj,rfl,hoj,κ0,evv0,Y0,h0,hw0⟩:=hrel
  by_cases hlt:j<n
  ·obtain⟨v,hv⟩:=HST.out j hlt hoj
   have H1:=Lib.hid hv
   have HM:=Lib.hid h0
   have HW:=Lib.hid hw0
   have j1:(j:Int)<(n:Int):=by omega
   have v2:IntKind.i64.wrap ((j:Int)+1)=(j:Int)+1:=IntWalk.i64_in _ (by omega)
   clear hv h0 hw0
   by_cases ho1:(R (j+1)).over=true
   ·have HE:=Lib.hid (HOV.out (j+1) hlt ho1)
    go_wp2_with (first
     | (go_at_call 35;(with_reducible refine(H1.out _ _ _ _ HM.out).mono ?_);rintro e w1 hE;obtain⟨rfl,κ1,evv1,Y1,pos1,h1,hw1⟩:=hE.to_over ho1)
     | fail)
    exact⟨rfl,by rw [HE.out];exact DEnds.over h1 (HW.out.trans hw1) ho1⟩
   have ho1:(R (j+1)).over=false:=by simpa using ho1
   go_wp2_with (first
    | (go_at_call 35;(with_reducible refine(H1.out _ _ _ _ HM.out).mono ?_);rintro e w1 hE;obtain⟨rfl,κ1,evv1,Y1,h1,hw1⟩:=hE.to_on ho1)
    | fail)
   go_roundw
   case rel=>exact⟨j+1,hlt,by go_num,ho1,κ1,evv1,Y1,h1,HW.out.trans hw1⟩
   case measure=>simp [intOf];omega
  ·obtain rfl:j=n:=by omega
   have j1:¬ (j:Int)<(j:Int):=by omega
   have HM:=Lib.hid h0
   have HW:=Lib.hid hw0
   clear h0 hw0
   go_wp2_with fail
   go_ret
   exact DEnds.on HM.out HW.out hoj
def againM(mc mb:Mach.Sem):Mach.Sem:=bindM mc fun a=>if a=1 then bindM mb fun _=>whileM mc mb else pureM 0
structure LoopOk (K:DK) (mc mb:Mach.Sem) (c q2:Int) (q3:Nat) (G:St→Prop):Prop where
 nc:Nice mc
 nb:Nice mb
 on:∀ s,G s→s.over=false∧s.steps+s.fuel=K.F
 top:K.F≤10000
 tick:∀ s,G s→s.fuel≠0→G s.tick
 cond:∀ s,G s→NodeOk K c s (mc s) q2∧((mc s).1.over=false→G (mc s).1∧((mc s).2=0∨(mc s).2=1)∧s.steps≤(mc s).1.steps)
 body:∀ s,G s→NodeOk K q2 s (mb s) q3∧((mb s).1.over=false→G (mb s).1∧s.steps≤(mb s).1.steps)
def leftD(K:DK)(w:World):Nat:=K.F-(match w.cell? ⟨K.g,2,none⟩ with | some v=>(intOf v).toNat | none=>0)
theorem DM.left(h:DM K κ evv Y s pos W):leftD K W=K.F-s.steps:=by
 have c2:W.cell? ⟨K.g,2,none⟩=some (.int .i64 s.steps):=h.cell 2
 unfold leftD
 rw [c2]
 simp [intOf]
def AtCond(K:DK)(κ:Nat→Nat)(c:Int)(G:St→Prop)(mc mb:Mach.Sem)(r:St×Int)(W wr:World):Prop:=∃ s,G s∧againM mc mb s=r∧Came K κ s c W wr
theorem do_loop{c:Int}{q2 n:Nat}(N:Int)(h:DM K κ evv Y s c W)(hn:scan 1 (K.p.xs.drop q2)=some n){G:St→Prop}{mc mb:Mach.Sem}(hL:LoopOk K mc mb c q2 (q2+n) G)(hG:G s) :
  Calls Tryz.prog 157 #[.agg #[],.pointer (some ⟨K.g,0,none⟩),.int .i64 N] W (DEnds K κ (againM mc mb s) ((q2+n:Nat):Int) W):=by
 have hb0:=(Below.refl W.heap.size W).alloc (Nat.le_refl _) (.cells #[] 141)
 have H0:=Lib.hid (h.below hb0)
 have HW0:=Lib.hid ((Went.refl κ W).below hb0)
 clear h hb0
 generalize hr:againM mc mb s=r
 have HC0:=Lib.hid (show AtCond K κ c G mc mb r W _ from⟨s,hG,hr,_,_,_,H0.out,HW0.out⟩)
 have c5:(W.alloc (.cells #[] 141)).cell? ⟨K.g,5,none⟩=some (.int .i64 c):=H0.out.cell 5
 have HN:=Lib.hid hn
 have HL:=Lib.hid hL
 clear H0 HW0 hn hL hG hr
 go_enter Tryz.func157,Tryz.ntmps157
 go_wp2_with fail
 go_loopw [] (fun wr=>AtCond K κ c G mc mb r W wr) (fun wr=>leftD K wr)
 case atStart=>exact HC0.out
 case round =>
  clear c5 HC0
  obtain⟨s0,hG,hr,κ0,evv0,Y0,h0,hw0⟩:=hrel
  have hmu:=h0.left
  obtain⟨hc,hc2⟩:=HL.out.cond s0 hG
  obtain⟨s1,a,hr1⟩:∃ s1 a,mc s0=(s1,a):=⟨_,_,rfl⟩
  rw [hr1] at hc hc2
  simp only at hc2
  have HM:=Lib.hid h0
  have HW:=Lib.hid hw0
  have H1:=Lib.hid hc
  have HMU:=Lib.hid hmu
  have ho0:=(HL.out.on s0 hG).1
  clear hc h0 hw0 hmu
  by_cases ho1:s1.over=true
  ·have HR:=Lib.hid (show r=(s1,0) by rw [← hr];unfold againM;rw [bind_over (by rw [hr1];exact ho1),hr1])
   clear hr hr1 hc2 hG
   go_wp2_with (first
    | (go_at_call 35;(with_reducible refine(H1.out _ _ _ _ HM.out).mono ?_);rintro e w1 hE;obtain⟨rfl,κ1,evv1,Y1,pos1,h1,hw1⟩:=hE.to_over ho1)
    | fail)
   exact⟨rfl,by rw [HR.out];exact DEnds.over h1 (HW.out.trans hw1) ho1⟩
  have ho1:s1.over=false:=by simpa using ho1
  obtain⟨hG1,ha,hst1⟩:=hc2 ho1
  rcases ha with rfl | rfl
  ·have HR:=Lib.hid (show r=(s1,0) by rw [← hr];unfold againM;rw [bind_on (by rw [hr1];exact ho1),hr1];rfl)
   clear hr hr1 hc2 hG hG1
   go_wp2_with (first
    | (go_at_call 35;(with_reducible refine(H1.out _ _ _ _ HM.out).mono ?_);rintro e w1 hE;obtain⟨rfl,κ1,evv1,Y1,h1,hw1⟩:=hE.to_on ho1)
    | (go_at_call 130;(with_reducible refine(pass_any h1 HN.out).mono ?_);rintro e w4 ⟨rfl,h4,hw4⟩)
    | fail)
   go_ret
   rw [HR.out]
   exact DEnds.on h4 ((HW.out.trans hw1).trans hw4) ho1
  obtain⟨hb,hb2⟩:=HL.out.body s1 hG1
  obtain⟨s2,b,hr2⟩:∃ s2 b,mb s1=(s2,b):=⟨_,_,rfl⟩
  rw [hr2] at hb hb2
  simp only at hb2
  have H2:=Lib.hid hb
  clear hb
  have hr':r=bindM mb (fun _=>whileM mc mb) s1:=by rw [← hr];unfold againM;rw [bind_on (by rw [hr1];exact ho1),hr1];rfl
  clear hr hr1 hc2 hG
  by_cases ho2:s2.over=true
  ·have HR:=Lib.hid (show r=(s2,0) by rw [hr',bind_over (by rw [hr2];exact ho2),hr2])
   clear hr' hr2 hb2 hG1
   go_wp2_with (first
    | (go_at_call 35;(with_reducible refine(H1.out _ _ _ _ HM.out).mono ?_);rintro e w1 hE;obtain⟨rfl,κ1,evv1,Y1,h1,hw1⟩:=hE.to_on ho1)
    | (go_at_call 35;(with_reducible refine(H2.out _ _ _ _ h1).mono ?_);rintro e w2 hE;obtain⟨rfl,κ2,evv2,Y2,pos2,h2,hw2⟩:=hE.to_over ho2)
    | fail)
   exact⟨rfl,by rw [HR.out];exact DEnds.over h2 ((HW.out.trans hw1).trans hw2) ho2⟩
  have ho2:s2.over=false:=by simpa using ho2
  obtain⟨hG2,hst2⟩:=hb2 ho2
  have hr3:r=enterM (againM mc mb) s2:=by rw [hr',bind_on (by rw [hr2];exact ho2),hr2];exact while_is HL.out.nc HL.out.nb s2
  obtain⟨-,hsum⟩:=HL.out.on s2 hG2
  have htop:=HL.out.top
  clear hr' hr2 hb2 hG1
  by_cases hf:s2.fuel=0
  ·have HR:=Lib.hid (show r=(s2.stop 4 0,0) by rw [hr3];unfold enterM;rw [if_neg (by rw [ho2];decide),if_pos hf])
   have HF:=Lib.hid (show s2.steps=K.F by omega)
   clear hr3 hsum hG2
   go_wp2_with (first
    | (go_at_call 35;(with_reducible refine(H1.out _ _ _ _ HM.out).mono ?_);rintro e w1 hE;obtain⟨rfl,κ1,evv1,Y1,h1,hw1⟩:=hE.to_on ho1)
    | (go_at_call 35;(with_reducible refine(H2.out _ _ _ _ h1).mono ?_);rintro e w2 hE;obtain⟨rfl,κ2,evv2,Y2,h2,hw2⟩:=hE.to_on ho2)
    | (go_at_call 77;(with_reducible refine(take_out h2 HF.out).mono ?_);rintro e w3 ⟨rfl,h3,hw3⟩)
    | fail)
   exact⟨rfl,by rw [HR.out];exact DEnds.stopped h3 (((HW.out.trans hw1).trans hw2).trans hw3) ho2 4 0⟩
  have HR:=Lib.hid (show againM mc mb s2.tick=r by rw [hr3,Mach.enter_on ho2 hf])
  have HF:=Lib.hid (show s2.steps≠K.F by omega)
  have HLE:=Lib.hid (show s2.steps≤10000 by omega)
  have HGT:=Lib.hid (HL.out.tick s2 hG2 hf)
  have HST:=Lib.hid (show s0.steps<s2.tick.steps∧s2.tick.steps≤K.F by show s0.steps<s2.steps+1∧s2.steps+1≤K.F;omega)
  clear hr3 hsum hG2 hf htop hst1 hst2
  generalize hq3:((q2+n:Nat):Int)=q3 at *
  go_wp2_with (first
   | (go_at_call 35;(with_reducible refine(H1.out _ _ _ _ HM.out).mono ?_);rintro e w1 hE;obtain⟨rfl,κ1,evv1,Y1,h1,hw1⟩:=hE.to_on ho1)
   | (go_at_call 35;(with_reducible refine(H2.out _ _ _ _ h1).mono ?_);rintro e w2 hE;obtain⟨rfl,κ2,evv2,Y2,h2,hw2⟩:=hE.to_on ho2)
   | (go_at_call 77;(with_reducible refine(take_on h2 HF.out HLE.out).mono ?_);rintro e w3 ⟨rfl,h3,hw3⟩;have c5:w3.cell? ⟨K.g,5,none⟩=some (.int .i64 q3):=h3.cell 5;have f5:=h3.blk.frozen 5)
   | fail)
  have h5:=h3.goto c
  have hw5:=hw3.setCell (a:=⟨K.g,5,none⟩) (.inl (by rw [h2.lab.g];decide)) (.int .i64 c)
  go_roundw
  case rel=>exact⟨s2.tick,HGT.out,HR.out,κ2,evv2,Y2,h5,((HW.out.trans hw1).trans hw2).trans hw5⟩
  case measure =>
   rw [HMU.out,h5.left]
   have:=HST.out
   omega
end
end Go.Proofs.YtekogckmgkodfaaGreatDoor.Dir
namespace Go.Proofs.YtekogckmgkodfaaGreatDoor.Dir
open Go.RowKit Mem Arena Kinds Path Cat Suite Mach
section
variable {K:DK} {κ:Nat→Nat} {evv:Value} {Y:List ((Option Addr×Nat)×List Int)} {s:St} {pos:Int} {W W':World}
theorem ent_1(h:DM K κ evv Y s pos W)(ho:s.over=false)(h0:s.steps≠K.F)(hF:s.steps≤10000){k:Nat}(hp:pos=k){N:Int}(hx:K.p.xs[k]? = some (1,N)){r:St×Int}{q':Int}
  (HD:∀ κ evv Y W,DM K κ evv Y s.tick ((k:Int)+1) W→Calls Tryz.prog 131 #[.agg #[],.pointer (some ⟨K.g,0,none⟩),.int .i64 N] W (DEnds K κ r q' W)):Calls Tryz.prog 35 #[.pointer (some ⟨K.g,0,none⟩)] W (DEnds K κ r q' W) :=
 denter_on h ho h0 hF hp (m:=1) hx (by decide) (fun _ _ _ _=>rfl) (fun n W=>by kernel_rfl) (fun cs W=>by kernel_rfl) HD
theorem ent_2(h:DM K κ evv Y s pos W)(ho:s.over=false)(h0:s.steps≠K.F)(hF:s.steps≤10000){k:Nat}(hp:pos=k){N:Int}(hx:K.p.xs[k]? = some (2,N)){r:St×Int}{q':Int}
  (HD:∀ κ evv Y W,DM K κ evv Y s.tick ((k:Int)+1) W→Calls Tryz.prog 131 #[.agg #[],.pointer (some ⟨K.g,0,none⟩),.int .i64 N] W (DEnds K κ r q' W)):Calls Tryz.prog 35 #[.pointer (some ⟨K.g,0,none⟩)] W (DEnds K κ r q' W) :=
 denter_on h ho h0 hF hp (m:=2) hx (by decide) (fun _ _ _ _=>rfl) (fun n W=>by kernel_rfl) (fun cs W=>by kernel_rfl) HD
theorem ent_3(h:DM K κ evv Y s pos W)(ho:s.over=false)(h0:s.steps≠K.F)(hF:s.steps≤10000){k:Nat}(hp:pos=k){N:Int}(hx:K.p.xs[k]? = some (3,N)){r:St×Int}{q':Int}
  (HD:∀ κ evv Y W,DM K κ evv Y s.tick ((k:Int)+1) W→Calls Tryz.prog 132 #[.agg #[],.pointer (some ⟨K.g,0,none⟩),.int .i64 N] W (DEnds K κ r q' W)):Calls Tryz.prog 35 #[.pointer (some ⟨K.g,0,none⟩)] W (DEnds K κ r q' W) :=
 denter_on h ho h0 hF hp (m:=3) hx (by decide) (fun _ _ _ _=>rfl) (fun n W=>by kernel_rfl) (fun cs W=>by kernel_rfl) HD
theorem ent_4(h:DM K κ evv Y s pos W)(ho:s.over=false)(h0:s.steps≠K.F)(hF:s.steps≤10000){k:Nat}(hp:pos=k){N:Int}(hx:K.p.xs[k]? = some (4,N)){r:St×Int}{q':Int}
  (HD:∀ κ evv Y W,DM K κ evv Y s.tick ((k:Int)+1) W→Calls Tryz.prog 133 #[.agg #[],.pointer (some ⟨K.g,0,none⟩),.int .i64 N] W (DEnds K κ r q' W)):Calls Tryz.prog 35 #[.pointer (some ⟨K.g,0,none⟩)] W (DEnds K κ r q' W) :=
 denter_on h ho h0 hF hp (m:=4) hx (by decide) (fun _ _ _ _=>rfl) (fun n W=>by kernel_rfl) (fun cs W=>by kernel_rfl) HD
theorem ent_5(h:DM K κ evv Y s pos W)(ho:s.over=false)(h0:s.steps≠K.F)(hF:s.steps≤10000){k:Nat}(hp:pos=k){N:Int}(hx:K.p.xs[k]? = some (5,N)){r:St×Int}{q':Int}
  (HD:∀ κ evv Y W,DM K κ evv Y s.tick ((k:Int)+1) W→Calls Tryz.prog 135 #[.agg #[],.pointer (some ⟨K.g,0,none⟩),.int .i64 N] W (DEnds K κ r q' W)):Calls Tryz.prog 35 #[.pointer (some ⟨K.g,0,none⟩)] W (DEnds K κ r q' W) :=
 denter_on h ho h0 hF hp (m:=5) hx (by decide) (fun _ _ _ _=>rfl) (fun n W=>by kernel_rfl) (fun cs W=>by kernel_rfl) HD
theorem ent_6(h:DM K κ evv Y s pos W)(ho:s.over=false)(h0:s.steps≠K.F)(hF:s.steps≤10000){k:Nat}(hp:pos=k){N:Int}(hx:K.p.xs[k]? = some (6,N)){r:St×Int}{q':Int}
  (HD:∀ κ evv Y W,DM K κ evv Y s.tick ((k:Int)+1) W→Calls Tryz.prog 136 #[.agg #[],.pointer (some ⟨K.g,0,none⟩),.int .i64 N] W (DEnds K κ r q' W)):Calls Tryz.prog 35 #[.pointer (some ⟨K.g,0,none⟩)] W (DEnds K κ r q' W) :=
 denter_on h ho h0 hF hp (m:=6) hx (by decide) (fun _ _ _ _=>rfl) (fun n W=>by kernel_rfl) (fun cs W=>by kernel_rfl) HD
theorem ent_7(h:DM K κ evv Y s pos W)(ho:s.over=false)(h0:s.steps≠K.F)(hF:s.steps≤10000){k:Nat}(hp:pos=k){N:Int}(hx:K.p.xs[k]? = some (7,N)){r:St×Int}{q':Int}
  (HD:∀ κ evv Y W,DM K κ evv Y s.tick ((k:Int)+1) W→Calls Tryz.prog 137 #[.agg #[],.pointer (some ⟨K.g,0,none⟩),.int .i64 N] W (DEnds K κ r q' W)):Calls Tryz.prog 35 #[.pointer (some ⟨K.g,0,none⟩)] W (DEnds K κ r q' W) :=
 denter_on h ho h0 hF hp (m:=7) hx (by decide) (fun _ _ _ _=>rfl) (fun n W=>by kernel_rfl) (fun cs W=>by kernel_rfl) HD
theorem ent_8(h:DM K κ evv Y s pos W)(ho:s.over=false)(h0:s.steps≠K.F)(hF:s.steps≤10000){k:Nat}(hp:pos=k){N:Int}(hx:K.p.xs[k]? = some (8,N)){r:St×Int}{q':Int}
  (HD:∀ κ evv Y W,DM K κ evv Y s.tick ((k:Int)+1) W→Calls Tryz.prog 138 #[.agg #[],.pointer (some ⟨K.g,0,none⟩),.int .i64 N] W (DEnds K κ r q' W)):Calls Tryz.prog 35 #[.pointer (some ⟨K.g,0,none⟩)] W (DEnds K κ r q' W) :=
 denter_on h ho h0 hF hp (m:=8) hx (by decide) (fun _ _ _ _=>rfl) (fun n W=>by kernel_rfl) (fun cs W=>by kernel_rfl) HD
theorem ent_9(h:DM K κ evv Y s pos W)(ho:s.over=false)(h0:s.steps≠K.F)(hF:s.steps≤10000){k:Nat}(hp:pos=k){N:Int}(hx:K.p.xs[k]? = some (9,N)){r:St×Int}{q':Int}
  (HD:∀ κ evv Y W,DM K κ evv Y s.tick ((k:Int)+1) W→Calls Tryz.prog 139 #[.agg #[],.pointer (some ⟨K.g,0,none⟩),.int .i64 N] W (DEnds K κ r q' W)):Calls Tryz.prog 35 #[.pointer (some ⟨K.g,0,none⟩)] W (DEnds K κ r q' W) :=
 denter_on h ho h0 hF hp (m:=9) hx (by decide) (fun _ _ _ _=>rfl) (fun n W=>by kernel_rfl) (fun cs W=>by kernel_rfl) HD
theorem ent_10(h:DM K κ evv Y s pos W)(ho:s.over=false)(h0:s.steps≠K.F)(hF:s.steps≤10000){k:Nat}(hp:pos=k){N:Int}(hx:K.p.xs[k]? = some (10,N)){r:St×Int}{q':Int}
  (HD:∀ κ evv Y W,DM K κ evv Y s.tick ((k:Int)+1) W→Calls Tryz.prog 140 #[.agg #[],.pointer (some ⟨K.g,0,none⟩),.int .i64 N] W (DEnds K κ r q' W)):Calls Tryz.prog 35 #[.pointer (some ⟨K.g,0,none⟩)] W (DEnds K κ r q' W) :=
 denter_on h ho h0 hF hp (m:=10) hx (by decide) (fun _ _ _ _=>rfl) (fun n W=>by kernel_rfl) (fun cs W=>by kernel_rfl) HD
theorem ent_11(h:DM K κ evv Y s pos W)(ho:s.over=false)(h0:s.steps≠K.F)(hF:s.steps≤10000){k:Nat}(hp:pos=k){N:Int}(hx:K.p.xs[k]? = some (11,N)){r:St×Int}{q':Int}
  (HD:∀ κ evv Y W,DM K κ evv Y s.tick ((k:Int)+1) W→Calls Tryz.prog 142 #[.agg #[],.pointer (some ⟨K.g,0,none⟩),.int .i64 N] W (DEnds K κ r q' W)):Calls Tryz.prog 35 #[.pointer (some ⟨K.g,0,none⟩)] W (DEnds K κ r q' W) :=
 denter_on h ho h0 hF hp (m:=11) hx (by decide) (fun _ _ _ _=>rfl) (fun n W=>by kernel_rfl) (fun cs W=>by kernel_rfl) HD
theorem ent_12(h:DM K κ evv Y s pos W)(ho:s.over=false)(h0:s.steps≠K.F)(hF:s.steps≤10000){k:Nat}(hp:pos=k){N:Int}(hx:K.p.xs[k]? = some (12,N)){r:St×Int}{q':Int}
  (HD:∀ κ evv Y W,DM K κ evv Y s.tick ((k:Int)+1) W→Calls Tryz.prog 143 #[.agg #[],.pointer (some ⟨K.g,0,none⟩),.int .i64 N] W (DEnds K κ r q' W)):Calls Tryz.prog 35 #[.pointer (some ⟨K.g,0,none⟩)] W (DEnds K κ r q' W) :=
 denter_on h ho h0 hF hp (m:=12) hx (by decide) (fun _ _ _ _=>rfl) (fun n W=>by kernel_rfl) (fun cs W=>by kernel_rfl) HD
theorem ent_13(h:DM K κ evv Y s pos W)(ho:s.over=false)(h0:s.steps≠K.F)(hF:s.steps≤10000){k:Nat}(hp:pos=k){N:Int}(hx:K.p.xs[k]? = some (13,N)){r:St×Int}{q':Int}
  (HD:∀ κ evv Y W,DM K κ evv Y s.tick ((k:Int)+1) W→Calls Tryz.prog 145 #[.agg #[],.pointer (some ⟨K.g,0,none⟩),.int .i64 N] W (DEnds K κ r q' W)):Calls Tryz.prog 35 #[.pointer (some ⟨K.g,0,none⟩)] W (DEnds K κ r q' W) :=
 denter_on h ho h0 hF hp (m:=13) hx (by decide) (fun _ _ _ _=>rfl) (fun n W=>by kernel_rfl) (fun cs W=>by kernel_rfl) HD
theorem ent_14(h:DM K κ evv Y s pos W)(ho:s.over=false)(h0:s.steps≠K.F)(hF:s.steps≤10000){k:Nat}(hp:pos=k){N:Int}(hx:K.p.xs[k]? = some (14,N)){r:St×Int}{q':Int}
  (HD:∀ κ evv Y W,DM K κ evv Y s.tick ((k:Int)+1) W→Calls Tryz.prog 146 #[.agg #[],.pointer (some ⟨K.g,0,none⟩),.int .i64 N] W (DEnds K κ r q' W)):Calls Tryz.prog 35 #[.pointer (some ⟨K.g,0,none⟩)] W (DEnds K κ r q' W) :=
 denter_on h ho h0 hF hp (m:=14) hx (by decide) (fun _ _ _ _=>rfl) (fun n W=>by kernel_rfl) (fun cs W=>by kernel_rfl) HD
theorem ent_15(h:DM K κ evv Y s pos W)(ho:s.over=false)(h0:s.steps≠K.F)(hF:s.steps≤10000){k:Nat}(hp:pos=k){N:Int}(hx:K.p.xs[k]? = some (15,N)){r:St×Int}{q':Int}
  (HD:∀ κ evv Y W,DM K κ evv Y s.tick ((k:Int)+1) W→Calls Tryz.prog 147 #[.agg #[],.pointer (some ⟨K.g,0,none⟩),.int .i64 N] W (DEnds K κ r q' W)):Calls Tryz.prog 35 #[.pointer (some ⟨K.g,0,none⟩)] W (DEnds K κ r q' W) :=
 denter_on h ho h0 hF hp (m:=15) hx (by decide) (fun _ _ _ _=>rfl) (fun n W=>by kernel_rfl) (fun cs W=>by kernel_rfl) HD
theorem ent_16(h:DM K κ evv Y s pos W)(ho:s.over=false)(h0:s.steps≠K.F)(hF:s.steps≤10000){k:Nat}(hp:pos=k){N:Int}(hx:K.p.xs[k]? = some (16,N)){r:St×Int}{q':Int}
  (HD:∀ κ evv Y W,DM K κ evv Y s.tick ((k:Int)+1) W→Calls Tryz.prog 148 #[.agg #[],.pointer (some ⟨K.g,0,none⟩),.int .i64 N] W (DEnds K κ r q' W)):Calls Tryz.prog 35 #[.pointer (some ⟨K.g,0,none⟩)] W (DEnds K κ r q' W) :=
 denter_on h ho h0 hF hp (m:=16) hx (by decide) (fun _ _ _ _=>rfl) (fun n W=>by kernel_rfl) (fun cs W=>by kernel_rfl) HD
theorem ent_17(h:DM K κ evv Y s pos W)(ho:s.over=false)(h0:s.steps≠K.F)(hF:s.steps≤10000){k:Nat}(hp:pos=k){N:Int}(hx:K.p.xs[k]? = some (17,N)){r:St×Int}{q':Int}
  (HD:∀ κ evv Y W,DM K κ evv Y s.tick ((k:Int)+1) W→Calls Tryz.prog 149 #[.agg #[],.pointer (some ⟨K.g,0,none⟩),.int .i64 N] W (DEnds K κ r q' W)):Calls Tryz.prog 35 #[.pointer (some ⟨K.g,0,none⟩)] W (DEnds K κ r q' W) :=
 denter_on h ho h0 hF hp (m:=17) hx (by decide) (fun _ _ _ _=>rfl) (fun n W=>by kernel_rfl) (fun cs W=>by kernel_rfl) HD
theorem ent_18(h:DM K κ evv Y s pos W)(ho:s.over=false)(h0:s.steps≠K.F)(hF:s.steps≤10000){k:Nat}(hp:pos=k){N:Int}(hx:K.p.xs[k]? = some (18,N)){r:St×Int}{q':Int}
  (HD:∀ κ evv Y W,DM K κ evv Y s.tick ((k:Int)+1) W→Calls Tryz.prog 150 #[.agg #[],.pointer (some ⟨K.g,0,none⟩),.int .i64 N] W (DEnds K κ r q' W)):Calls Tryz.prog 35 #[.pointer (some ⟨K.g,0,none⟩)] W (DEnds K κ r q' W) :=
 denter_on h ho h0 hF hp (m:=18) hx (by decide) (fun _ _ _ _=>rfl) (fun n W=>by kernel_rfl) (fun cs W=>by kernel_rfl) HD
theorem ent_19(h:DM K κ evv Y s pos W)(ho:s.over=false)(h0:s.steps≠K.F)(hF:s.steps≤10000){k:Nat}(hp:pos=k){N:Int}(hx:K.p.xs[k]? = some (19,N)){r:St×Int}{q':Int}
  (HD:∀ κ evv Y W,DM K κ evv Y s.tick ((k:Int)+1) W→Calls Tryz.prog 151 #[.agg #[],.pointer (some ⟨K.g,0,none⟩),.int .i64 N] W (DEnds K κ r q' W)):Calls Tryz.prog 35 #[.pointer (some ⟨K.g,0,none⟩)] W (DEnds K κ r q' W) :=
 denter_on h ho h0 hF hp (m:=19) hx (by decide) (fun _ _ _ _=>rfl) (fun n W=>by kernel_rfl) (fun cs W=>by kernel_rfl) HD
theorem ent_20(h:DM K κ evv Y s pos W)(ho:s.over=false)(h0:s.steps≠K.F)(hF:s.steps≤10000){k:Nat}(hp:pos=k){N:Int}(hx:K.p.xs[k]? = some (20,N)){r:St×Int}{q':Int}
  (HD:∀ κ evv Y W,DM K κ evv Y s.tick ((k:Int)+1) W→Calls Tryz.prog 152 #[.agg #[],.pointer (some ⟨K.g,0,none⟩),.int .i64 N] W (DEnds K κ r q' W)):Calls Tryz.prog 35 #[.pointer (some ⟨K.g,0,none⟩)] W (DEnds K κ r q' W) :=
 denter_on h ho h0 hF hp (m:=20) hx (by decide) (fun _ _ _ _=>rfl) (fun n W=>by kernel_rfl) (fun cs W=>by kernel_rfl) HD
theorem ent_21(h:DM K κ evv Y s pos W)(ho:s.over=false)(h0:s.steps≠K.F)(hF:s.steps≤10000){k:Nat}(hp:pos=k){N:Int}(hx:K.p.xs[k]? = some (21,N)){r:St×Int}{q':Int}
  (HD:∀ κ evv Y W,DM K κ evv Y s.tick ((k:Int)+1) W→Calls Tryz.prog 153 #[.agg #[],.pointer (some ⟨K.g,0,none⟩),.int .i64 N] W (DEnds K κ r q' W)):Calls Tryz.prog 35 #[.pointer (some ⟨K.g,0,none⟩)] W (DEnds K κ r q' W) :=
 denter_on h ho h0 hF hp (m:=21) hx (by decide) (fun _ _ _ _=>rfl) (fun n W=>by kernel_rfl) (fun cs W=>by kernel_rfl) HD
theorem ent_22(h:DM K κ evv Y s pos W)(ho:s.over=false)(h0:s.steps≠K.F)(hF:s.steps≤10000){k:Nat}(hp:pos=k){N:Int}(hx:K.p.xs[k]? = some (22,N)){r:St×Int}{q':Int}
  (HD:∀ κ evv Y W,DM K κ evv Y s.tick ((k:Int)+1) W→Calls Tryz.prog 155 #[.agg #[],.pointer (some ⟨K.g,0,none⟩),.int .i64 N] W (DEnds K κ r q' W)):Calls Tryz.prog 35 #[.pointer (some ⟨K.g,0,none⟩)] W (DEnds K κ r q' W) :=
 denter_on h ho h0 hF hp (m:=22) hx (by decide) (fun _ _ _ _=>rfl) (fun n W=>by kernel_rfl) (fun cs W=>by kernel_rfl) HD
theorem ent_23(h:DM K κ evv Y s pos W)(ho:s.over=false)(h0:s.steps≠K.F)(hF:s.steps≤10000){k:Nat}(hp:pos=k){N:Int}(hx:K.p.xs[k]? = some (23,N)){r:St×Int}{q':Int}
  (HD:∀ κ evv Y W,DM K κ evv Y s.tick ((k:Int)+1) W→Calls Tryz.prog 156 #[.agg #[],.pointer (some ⟨K.g,0,none⟩),.int .i64 N] W (DEnds K κ r q' W)):Calls Tryz.prog 35 #[.pointer (some ⟨K.g,0,none⟩)] W (DEnds K κ r q' W) :=
 denter_on h ho h0 hF hp (m:=23) hx (by decide) (fun _ _ _ _=>rfl) (fun n W=>by kernel_rfl) (fun cs W=>by kernel_rfl) HD
theorem ent_24(h:DM K κ evv Y s pos W)(ho:s.over=false)(h0:s.steps≠K.F)(hF:s.steps≤10000){k:Nat}(hp:pos=k){N:Int}(hx:K.p.xs[k]? = some (24,N)){r:St×Int}{q':Int}
  (HD:∀ κ evv Y W,DM K κ evv Y s.tick ((k:Int)+1) W→Calls Tryz.prog 157 #[.agg #[],.pointer (some ⟨K.g,0,none⟩),.int .i64 N] W (DEnds K κ r q' W)):Calls Tryz.prog 35 #[.pointer (some ⟨K.g,0,none⟩)] W (DEnds K κ r q' W) :=
 denter_on h ho h0 hF hp (m:=24) hx (by decide) (fun _ _ _ _=>rfl) (fun n W=>by kernel_rfl) (fun cs W=>by kernel_rfl) HD
theorem ent_25(h:DM K κ evv Y s pos W)(ho:s.over=false)(h0:s.steps≠K.F)(hF:s.steps≤10000){k:Nat}(hp:pos=k){N:Int}(hx:K.p.xs[k]? = some (25,N)){r:St×Int}{q':Int}
  (HD:∀ κ evv Y W,DM K κ evv Y s.tick ((k:Int)+1) W→Calls Tryz.prog 158 #[.agg #[],.pointer (some ⟨K.g,0,none⟩),.int .i64 N] W (DEnds K κ r q' W)):Calls Tryz.prog 35 #[.pointer (some ⟨K.g,0,none⟩)] W (DEnds K κ r q' W) :=
 denter_on h ho h0 hF hp (m:=25) hx (by decide) (fun _ _ _ _=>rfl) (fun n W=>by kernel_rfl) (fun cs W=>by kernel_rfl) HD
theorem ent_26(h:DM K κ evv Y s pos W)(ho:s.over=false)(h0:s.steps≠K.F)(hF:s.steps≤10000){k:Nat}(hp:pos=k){N:Int}(hx:K.p.xs[k]? = some (26,N)){r:St×Int}{q':Int}
  (HD:∀ κ evv Y W,DM K κ evv Y s.tick ((k:Int)+1) W→Calls Tryz.prog 159 #[.agg #[],.pointer (some ⟨K.g,0,none⟩),.int .i64 N] W (DEnds K κ r q' W)):Calls Tryz.prog 35 #[.pointer (some ⟨K.g,0,none⟩)] W (DEnds K κ r q' W) :=
 denter_on h ho h0 hF hp (m:=26) hx (by decide) (fun _ _ _ _=>rfl) (fun n W=>by kernel_rfl) (fun cs W=>by kernel_rfl) HD
end
structure Good (K:DK) (s:St):Prop where
 on:s.over=false
 wt:WT K.p.vs s
 fits:Fits s
 sum:s.steps+s.fuel=K.F
structure Good1 (K:DK) (s:St):Prop where
 on:s.over=false
 wt:WT K.p.vs s
 fits:Fits1 s
 sum:s.steps+s.fuel=K.F
section
variable {K:DK} {s:St}
theorem Good.le(h:Good K s):s.steps≤10000:=by have:=h.fits.top;omega
theorem Good1.good(h:Good1 K s):Good K s:=⟨h.on,h.wt,h.fits.fits,h.sum⟩
theorem Good.tick(h:Good K s)(h0:s.fuel≠0):Good1 K s.tick:=⟨h.on,h.wt.tick,h.fits.tick h0,by have:=h.sum;show s.steps+1+(s.fuel-1)=K.F;omega⟩
theorem Good1.he(h:Good1 K s):s.ev.length<1000000:=by have:=h.fits.ev;have:=h.fits.top;omega
theorem Good1.behind(h:Good1 K s)(hall:∀ k n:Nat,scan 1 (K.p.xs.drop k)=some n→0≤okind K.p.vs K.p.xs k){k n:Nat}(hn:scan 1 (K.p.xs.drop k)=some n):s.steps≤(mean K.p.xs k s).1.steps∧((mean K.p.xs k s).1.over=false→Good1 K (mean K.p.xs k s).1∧Of1 (okind K.p.vs K.p.xs k) (mean K.p.xs k s).2):=by
 obtain⟨a1,a2⟩:=sound_mean hall _ k n (Nat.le_refl _) hn s h.wt h.on
 exact⟨(nice_mean K.p.xs k).grow s h.on,fun ho=>⟨⟨ho,a1,h.fits.mean h.on _ _,by rw [(nice_mean K.p.xs k).sum s h.on];exact h.sum⟩,a2 ho⟩⟩
theorem rest_over{ms:List Mach.Sem}(hr:∀ m∈ms,Rests m){j:Nat}(ho:(runM (ms.take j) s).over=true):∀ d,j+d≤ms.length→runM (ms.take (j+d)) s=runM (ms.take j) s
 | 0,_=>rfl
 | d+1,h=>by
  have ih:=rest_over hr ho d (by omega)
  obtain⟨m,hm⟩:∃ m,ms[j+d]? = some m:=⟨_,List.getElem?_eq_getElem (by omega)⟩
  rw [← Nat.add_assoc,runM_succ hm,ih,hr m (List.mem_of_getElem? hm) _ ho]
theorem ar_none{t N:Int}(h:t=1∨t=2∨t=3∨t=26):(ar (t,N)).toNat=0:=by
 rcases h with rfl | rfl | rfl | rfl
 all_goals
  unfold ar asks
  simp
 all_goals
  split<;>omega
theorem asz_flat{t:Int}(h:t=0∨t=1):asz t=0:=by rcases h with rfl | rfl<;>rfl
theorem dcell_flat{vs:List Int}{n:Nat}(h:vtyp vs n=0∨vtyp vs n=1):dcell vs s n=[s.vals.getD n 0]:=by
 obtain⟨-,-,h3⟩:=vtyp_nat (vs:=vs) (i:=(n:Int)) (by omega)
 rw [Int.toNat_natCast] at h3
 unfold dcell
 rw [if_pos (by rw [← h3];exact asz_flat h)]
theorem dcell_row{vs:List Int}{n:Nat}(h:0<asz (vtyp vs n)):dcell vs s n=s.arrs.getD n []∧asz (vs.getD n (-1))≠0:=by
 obtain⟨-,-,h3⟩:=vtyp_nat (vs:=vs) (i:=(n:Int)) (asz_pos h)
 rw [Int.toNat_natCast] at h3
 rw [h3] at h
 unfold dcell
 rw [if_neg (by omega)]
 exact⟨rfl,by omega⟩
theorem node_any(hlx:K.p.xs.length≤1000000)(hall:∀ k n:Nat,scan 1 (K.p.xs.drop k)=some n→0≤okind K.p.vs K.p.xs k)(hF:K.F≤10000)(M:Nat) :
  ∀ (k n:Nat) (s:St),n≤M→scan 1 (K.p.xs.drop k)=some n→Good K s→NodeOk K k s (mean K.p.xs k s) ((k+n:Nat):Int):=by
 induction M with
 | zero =>
  intro k n s hn h
  have:=(scan_le _ _ _ h).1
  omega
 | succ M ih =>
  intro k n s hn h hg κ evv Y W hM
  obtain⟨t,N,hx,hm,hl,hc⟩:=typed_cases h (hall k n h)
  have hnk:∀ m∈(akids K.p.xs k).map (mean K.p.xs),Nice m:=fun m hm=>by
   obtain⟨q,-,rfl⟩:=List.mem_map.1 hm
   exact nice_mean _ _
  have hsum:=hg.sum
  by_cases h0:s.fuel=0
  ·rw [hm,node_out hnk hg.on h0]
   have:=denter_out (W:=W) hM hg.on (by omega) 0 ((k+n:Nat):Int)
   rw [stop_no hg.on] at this
   exact this
  have hst:s.steps≠K.F:=by omega
  have hle:=hg.le
  have g1:=hg.tick h0
  have ho:=hg.on
  have hkl:(akids K.p.xs k).length≤200:=by have:=(ar_le (t,N)).2;omega
  have kid:∀ (j n':Nat) (s':St),n'<n→scan 1 (K.p.xs.drop j)=some n'→Good1 K s'→NodeOk K j s' (mean K.p.xs j s') ((j+n':Nat):Int):=fun j n' s' h1 h2 h3=>ih j n' s' (by omega) h2 h3.good
  unfold Cases at hc
  rcases hc with ht | ⟨ht,hv⟩ | ht | ht | ⟨ht,hv,q,hq⟩ | ⟨ht,q,hq⟩ | ⟨ht1,ht2,q,q2,hq⟩ | ⟨ht,q,q2,hq⟩ | ⟨ht,q,q2,hq⟩ | ⟨ht,hv,q,hq⟩ | ⟨ht,hv,q,q2,hq⟩ | ⟨ht,q,q2,q3,hq,hk1⟩ | ⟨ht,q,q2,hq,hk1⟩ | ⟨ht,q,hq⟩
  ·have e:mean K.p.xs k s=(s.tick,N):=by
    rw [hm,node_on (by omega) ho h0]
    unfold innerM
    simp only
    rw [if_pos ht];rfl
   have h1:n=1:=kids_none h (List.length_eq_zero_iff.1 (by rw [hl];exact ar_none (by omega)))
   subst h1
   rw [e]
   rcases ht with rfl | rfl
   ·exact ent_1 hM ho hst hle rfl hx fun κ' evv' Y' W' h'=>do_constant N h' g1.on
   ·exact ent_2 hM ho hst hle rfl hx fun κ' evv' Y' W' h'=>do_constant N h' g1.on
  ·subst ht
   have hvt:0≤vtyp K.p.vs N:=by omega
   obtain⟨v1,v2,-⟩:=vtyp_nat hvt
   obtain⟨m,rfl⟩:=Int.eq_ofNat_of_zero_le v1
   have h1:n=1:=kids_none h (List.length_eq_zero_iff.1 (by rw [hl];exact ar_none (by omega)))
   subst h1
   have e:mean K.p.xs k s=(s.tick,s.tick.vals.getD m 0):=by
    rw [hm,node_on (by omega) ho h0]
    rfl
   rw [e]
   exact ent_3 hM ho hst hle rfl hx fun κ' evv' Y' W' h'=>do_variable h' g1.on (by omega) (dcell_flat hv)
  ·subst ht
   have h1:n=1:=kids_none h (List.length_eq_zero_iff.1 (by rw [hl];exact ar_none (by omega)))
   subst h1
   have e:mean K.p.xs k s=(s.tick,0):=by
    rw [hm,node_on (by omega) ho h0]
    rfl
   rw [e]
   exact ent_26 hM ho hst hle rfl hx fun κ' evv' Y' W' h'=>do_skip N h' g1.on
  ·subst ht
   have hrest:∀ m∈(akids K.p.xs k).map (mean K.p.xs),Rests m:=fun m hm=>by
    obtain⟨q,hq,rfl⟩:=List.mem_map.1 hm
    obtain⟨j,n',rfl,hj⟩:=kid_node h hq
    exact fun s' hs=>mean_over hj hs
   obtain⟨P,hP0,hPn,hP⟩:=kids_many h
   obtain⟨c,hcl⟩:∃ c,(akids K.p.xs k).length=c:=⟨_,rfl⟩
   have hN:N=(c:Int):=by
    obtain⟨x,c',hx',har,-,hc',-⟩:=dkid_scan h
    rw [hx] at hx'
    obtain rfl:=Option.some.inj hx'
    unfold ar asks at har
    simp at har
    split at har<;>omega
   rw [hcl] at hPn hP hkl
   subst hN
   have hml:((akids K.p.xs k).map (mean K.p.xs)).length=c:=by rw [List.length_map];exact hcl
   have e:mean K.p.xs k s=(runM (((akids K.p.xs k).map (mean K.p.xs)).take c) s.tick,0):=by
    rw [hm,node_on (by omega) ho h0,List.take_of_length_le (by rw [hml];exact Nat.le_refl _)]
    exact seq_run _ hrest _
   have hgd:∀ j,j≤c→(runM (((akids K.p.xs k).map (mean K.p.xs)).take j) s.tick).over=false→Good1 K (runM (((akids K.p.xs k).map (mean K.p.xs)).take j) s.tick):=fun j=>by
    induction j with
    | zero=>intro _ _;exact g1
    | succ j ihj =>
     intro hj hoj
     obtain⟨hq,m,hm1,-,-⟩:=hP j (by omega)
     have hms:((akids K.p.xs k).map (mean K.p.xs))[j]? = some (mean K.p.xs (P j)):=by rw [List.getElem?_map,hq];rfl
     rw [runM_succ hms] at hoj ⊢
     by_cases hpo:(runM (((akids K.p.xs k).map (mean K.p.xs)).take j) s.tick).over=true
     ·rw [hrest _ (List.mem_of_getElem? hms) _ hpo] at hoj
      rw [hoj] at hpo;cases hpo
     ·exact(((ihj (by omega) (by simpa using hpo)).behind hall hm1).2 hoj).1
   rw [e]
   have hpk:((k:Int)+1)=((P 0:Nat):Int):=by rw [hP0];omega
   rw [← hPn]
   refine ent_20 hM ho hst hle rfl hx fun κ' evv' Y' W' h'=>?_
   rw [hpk] at h'
   refine do_block (P:=fun j=>((P j:Nat):Int)) (R:=fun j=>runM (((akids K.p.xs k).map (mean K.p.xs)).take j) s.tick) (n:=c) (by omega) h' g1.on (fun j hj hoj=>?_) (fun j hj hoj=>?_)
   ·obtain⟨hq,m,hm1,hPj,hmn⟩:=hP j hj
    have hms:((akids K.p.xs k).map (mean K.p.xs))[j]? = some (mean K.p.xs (P j)):=by rw [List.getElem?_map,hq];rfl
    refine⟨(mean K.p.xs (P j) (runM (((akids K.p.xs k).map (mean K.p.xs)).take j) s.tick)).2,?_⟩
    have:=kid (P j) m _ hmn hm1 (hgd j (by omega) hoj)
    rw [runM_succ hms,hPj]
    exact this
   ·obtain⟨d,rfl⟩:∃ d,c=j+d:=⟨c-j,by omega⟩
    exact rest_over hrest hoj d (by omega)
  ·subst ht
   have hvt:0≤vtyp K.p.vs N:=asz_pos hv
   obtain⟨v1,v2,v3⟩:=vtyp_nat hvt
   obtain⟨m,rfl⟩:=Int.eq_ofNat_of_zero_le v1
   obtain⟨n1,rfl,hs1,hnn⟩:=kids_one h hq
   have K1:=kid (k+1) n1 s.tick (by omega) hs1 g1
   obtain⟨-,B1⟩:=g1.behind hall hs1
   rw [hq] at hm
   simp only [List.map_cons,List.map_nil] at hm
   have hm:=congrFun hm s
   rw [node_on (by omega) ho h0,inner_kid (by omega) (by omega) (by omega) (by omega) (by omega)] at hm
   obtain⟨s1,a,hr1⟩:∃ s1 a,mean K.p.xs ((k+1:Nat):Int) s.tick=(s1,a):=⟨_,_,rfl⟩
   rw [hr1] at K1 B1
   simp only at B1
   rw [show(((k+1:Nat):Int))=(k:Int)+1 by omega] at K1
   have hd:=fun s':St=>dcell_row (s:=s') hv
   have hdl:∀ s':St,WT K.p.vs s'→0<(s'.arrs.getD m []).length:=fun s' w=>by
    have:=w.ta m (by omega)
    rw [Int.toNat_natCast] at v3
    rw [← v3] at this
    omega
   have e:mean K.p.xs k s=(if s1.over=true then(s1,0) else if a<0∨((dcell K.p.vs s1 m).length:Int)≤a then(s1.stop 2 0,0) else(s1,(dcell K.p.vs s1 m).getD a.toNat 0)):=by
    rw [hm]
    by_cases z:s1.over=true
    ·rw [bind_over (by rw [hr1];exact z),hr1,if_pos z]
    ·rw [bind_on (by rw [hr1];simpa using z),hr1,if_neg z]
     rw [(hd s1).1]
     rfl
   rw [e,hnn,← Nat.add_assoc]
   have hp0:0<(dcell K.p.vs s1 m).length:=by
    rw [(hd s1).1]
    by_cases z:s1.over=true
    ·have hw:=(sound_mean hall _ (k+1) n1 (Nat.le_refl _) hs1 s.tick g1.wt g1.on).1
     rw [hr1] at hw
     exact hdl _ hw
    ·exact hdl _ (B1 (by simpa using z)).1.wt
   exact ent_4 hM ho hst hle rfl hx fun κ' evv' Y' W' h'=>do_element h' K1 (by omega) hp0
  ·have ht3:=ht
   obtain⟨n1,rfl,hs1,hnn⟩:=kids_one h hq
   have K1:=kid (k+1) n1 s.tick (by omega) hs1 g1
   obtain⟨-,B1⟩:=g1.behind hall hs1
   rw [hq] at hm
   simp only [List.map_cons,List.map_nil] at hm
   have hm:=congrFun hm s
   rw [node_on (by omega) ho h0,inner_kid (by omega) (by omega) (by omega) (by omega) (by omega)] at hm
   obtain⟨s1,a,hr1⟩:∃ s1 a,mean K.p.xs ((k+1:Nat):Int) s.tick=(s1,a):=⟨_,_,rfl⟩
   rw [hr1] at K1 B1
   simp only at B1
   rw [show(((k+1:Nat):Int))=(k:Int)+1 by omega] at K1
   rw [hnn,← Nat.add_assoc]
   rcases ht with rfl | rfl
   ·have e:mean K.p.xs k s=(if s1.over=true then(s1,0) else(s1,IntKind.i64.wrap (0-a))):=by
     exact zDirH4
    rw [e]
    exact ent_5 hM ho hst hle rfl hx fun κ' evv' Y' W' h'=>do_neg N h' K1
   ·have e:mean K.p.xs k s=(if s1.over=true then(s1,0) else(s1,IntKind.i64.wrap (1-a))):=by
     exact zDirH4
    rw [e]
    exact ent_6 hM ho hst hle rfl hx fun κ' evv' Y' W' h'=>do_not N h' K1
  ·obtain⟨n1,n2,rfl,hs1,rfl,hs2,hnn⟩:=kids_two h hq
   have K1:=kid (k+1) n1 s.tick (by omega) hs1 g1
   obtain⟨-,B1⟩:=g1.behind hall hs1
   rw [hq] at hm
   simp only [List.map_cons,List.map_nil] at hm
   have hm:=congrFun hm s
   rw [node_on (by omega) ho h0,inner_kid (by omega) (by omega) (by omega) (by omega) (by omega)] at hm
   obtain⟨s1,a,hr1⟩:∃ s1 a,mean K.p.xs ((k+1:Nat):Int) s.tick=(s1,a):=⟨_,_,rfl⟩
   rw [hr1] at K1 B1
   simp only at B1
   rw [show(((k+1:Nat):Int))=(k:Int)+1 by omega] at K1
   obtain⟨s2,b,hr2⟩:∃ s2 b,mean K.p.xs ((k+1+n1:Nat):Int) s1=(s2,b):=⟨_,_,rfl⟩
   have K2:s1.over=false→NodeOk K ((k+1+n1:Nat):Int) s1 (s2,b) ((k+1+n1+n2:Nat):Int):=fun z=>by rw [← hr2];exact kid (k+1+n1) n2 s1 (by omega) hs2 (B1 z).1
   rw [hnn,← Nat.add_assoc,← Nat.add_assoc]
   have hb:∀ v:St×Int,(s1.over=false→s2.over=false→bin t a b s2=v)→mean K.p.xs k s=(if s1.over=true then(s1,0) else if s2.over=true then(s2,0) else v):=fun v hv=>by
    rw [hm]
    by_cases z:s1.over=true
    ·rw [bind_over (by rw [hr1];exact z),hr1,if_pos z]
    have z:s1.over=false:=by simpa using z
    rw [bind_on (by rw [hr1];exact z),hr1,if_neg (by rw [z];decide)]
    show behindM _ _ a s1=_
    rw [behind_two (by omega) (by omega) (by omega) (by omega) (by omega) (by omega) (by omega) (by omega)]
    by_cases z2:s2.over=true
    ·rw [bind_over (by rw [hr2];exact z2),hr2,if_pos z2]
    have z2:s2.over=false:=by simpa using z2
    rw [bind_on (by rw [hr2];exact z2),hr2,if_neg (show ¬ t=22 by omega),if_neg (show ¬ s2.over=true by rw [z2];decide)]
    exact hv z z2
   rcases (show t=7∨t=8∨t=9∨t=10∨t=11∨t=12∨t=13∨t=14∨t=15∨t=16∨t=17 by omega) with rfl | rfl | rfl | rfl | rfl | rfl | rfl | rfl | rfl | rfl | rfl
   ·rw [hb ((s2,IntKind.i64.wrap (a+b))) (fun _ _=>by unfold bin;simp [pureM])]
    exact ent_7 hM ho hst hle rfl hx fun κ' evv' Y' W' h'=>do_add N h' K1 K2
   ·rw [hb ((s2,IntKind.i64.wrap (a-b))) (fun _ _=>by unfold bin;simp [pureM])]
    exact ent_8 hM ho hst hle rfl hx fun κ' evv' Y' W' h'=>do_sub N h' K1 K2
   ·rw [hb ((s2,IntKind.i64.wrap (a*b))) (fun _ _=>by unfold bin;simp [pureM])]
    exact ent_9 hM ho hst hle rfl hx fun κ' evv' Y' W' h'=>do_mul N h' K1 K2
   ·rw [hb (if b=0 then(s2.stop 1 0,0) else(s2,IntKind.i64.wrap (a.tdiv b))) (fun _ _=>by unfold bin;simp only;by_cases z:b=0<;>simp [z,stopM,pureM])]
    exact ent_10 hM ho hst hle rfl hx fun κ' evv' Y' W' h'=>do_div N h' K1 K2
   ·rw [hb (if b=0 then(s2.stop 1 0,0) else(s2,a.tmod b)) (fun _ _=>by unfold bin;simp only;by_cases z:b=0<;>simp [z,stopM,pureM])]
    exact ent_11 hM ho hst hle rfl hx fun κ' evv' Y' W' h'=>do_mod N h' K1 K2
   ·rw [hb ((s2,b01 (a==b))) (fun _ _=>by unfold bin;simp [pureM])]
    exact ent_12 hM ho hst hle rfl hx fun κ' evv' Y' W' h'=>do_eq N h' K1 K2
   ·rw [hb ((s2,b01 (a != b))) (fun _ _=>by unfold bin;simp [pureM])]
    exact ent_13 hM ho hst hle rfl hx fun κ' evv' Y' W' h'=>do_ne N h' K1 K2
   ·rw [hb ((s2,b01 (decide (a<b)))) (fun _ _=>by unfold bin;simp [pureM])]
    exact ent_14 hM ho hst hle rfl hx fun κ' evv' Y' W' h'=>do_lt N h' K1 K2
   ·rw [hb ((s2,b01 (decide (a≤b)))) (fun _ _=>by unfold bin;simp [pureM])]
    exact ent_15 hM ho hst hle rfl hx fun κ' evv' Y' W' h'=>do_le N h' K1 K2
   ·rw [hb ((s2,b01 (decide (b<a)))) (fun _ _=>by unfold bin;simp [pureM])]
    exact ent_16 hM ho hst hle rfl hx fun κ' evv' Y' W' h'=>do_gt N h' K1 K2
   ·rw [hb ((s2,b01 (decide (b≤a)))) (fun _ _=>by unfold bin;simp [pureM])]
    exact ent_17 hM ho hst hle rfl hx fun κ' evv' Y' W' h'=>do_ge N h' K1 K2
  ·subst ht
   obtain⟨n1,n2,rfl,hs1,rfl,hs2,hnn⟩:=kids_two h hq
   have K1:=kid (k+1) n1 s.tick (by omega) hs1 g1
   obtain⟨-,B1⟩:=g1.behind hall hs1
   rw [hq] at hm
   simp only [List.map_cons,List.map_nil] at hm
   have hm:=congrFun hm s
   rw [node_on (by omega) ho h0,inner_kid (by omega) (by omega) (by omega) (by omega) (by omega)] at hm
   obtain⟨s1,a,hr1⟩:∃ s1 a,mean K.p.xs ((k+1:Nat):Int) s.tick=(s1,a):=⟨_,_,rfl⟩
   rw [hr1] at K1 B1
   simp only at B1
   rw [show(((k+1:Nat):Int))=(k:Int)+1 by omega] at K1
   obtain⟨s2,b,hr2⟩:∃ s2 b,mean K.p.xs ((k+1+n1:Nat):Int) s1=(s2,b):=⟨_,_,rfl⟩
   have K2:s1.over=false→NodeOk K ((k+1+n1:Nat):Int) s1 (s2,b) ((k+1+n1+n2:Nat):Int):=fun z=>by rw [← hr2];exact kid (k+1+n1) n2 s1 (by omega) hs2 (B1 z).1
   have e:mean K.p.xs k s=(if s1.over=true then(s1,0) else if a=0 then(s1,0) else(s2,b)):=by
    rw [hm]
    by_cases z:s1.over=true
    ·rw [bind_over (by rw [hr1];exact z),hr1,if_pos z]
    ·rw [bind_on (by rw [hr1];simpa using z),hr1,if_neg z]
     show(if a=0 then pureM 0 else mean K.p.xs ((k+1+n1:Nat):Int)) s1=_
     by_cases y:a=0
     ·rw [if_pos y,if_pos y];rfl
     ·rw [if_neg y,if_neg y];exact hr2
   rw [e,hnn,← Nat.add_assoc,← Nat.add_assoc]
   exact ent_18 hM ho hst hle rfl hx fun κ' evv' Y' W' h'=>do_and N h' K1 hs2 (fun z _=>K2 z)
  ·subst ht
   obtain⟨n1,n2,rfl,hs1,rfl,hs2,hnn⟩:=kids_two h hq
   have K1:=kid (k+1) n1 s.tick (by omega) hs1 g1
   obtain⟨-,B1⟩:=g1.behind hall hs1
   rw [hq] at hm
   simp only [List.map_cons,List.map_nil] at hm
   have hm:=congrFun hm s
   rw [node_on (by omega) ho h0,inner_kid (by omega) (by omega) (by omega) (by omega) (by omega)] at hm
   obtain⟨s1,a,hr1⟩:∃ s1 a,mean K.p.xs ((k+1:Nat):Int) s.tick=(s1,a):=⟨_,_,rfl⟩
   rw [hr1] at K1 B1
   simp only at B1
   rw [show(((k+1:Nat):Int))=(k:Int)+1 by omega] at K1
   obtain⟨s2,b,hr2⟩:∃ s2 b,mean K.p.xs ((k+1+n1:Nat):Int) s1=(s2,b):=⟨_,_,rfl⟩
   have K2:s1.over=false→NodeOk K ((k+1+n1:Nat):Int) s1 (s2,b) ((k+1+n1+n2:Nat):Int):=fun z=>by rw [← hr2];exact kid (k+1+n1) n2 s1 (by omega) hs2 (B1 z).1
   have e:mean K.p.xs k s=(if s1.over=true then(s1,0) else if a=1 then(s1,1) else(s2,b)):=by
    rw [hm]
    by_cases z:s1.over=true
    ·rw [bind_over (by rw [hr1];exact z),hr1,if_pos z]
    ·rw [bind_on (by rw [hr1];simpa using z),hr1,if_neg z]
     show(if a=1 then pureM 1 else mean K.p.xs ((k+1+n1:Nat):Int)) s1=_
     by_cases y:a=1
     ·rw [if_pos y,if_pos y];rfl
     ·rw [if_neg y,if_neg y];exact hr2
   rw [e,hnn,← Nat.add_assoc,← Nat.add_assoc]
   exact ent_19 hM ho hst hle rfl hx fun κ' evv' Y' W' h'=>do_or N h' K1 hs2 (fun z _=>K2 z)
  ·subst ht
   have hvt:0≤vtyp K.p.vs N:=by omega
   obtain⟨v1,v2,v3⟩:=vtyp_nat hvt
   obtain⟨m,rfl⟩:=Int.eq_ofNat_of_zero_le v1
   obtain⟨n1,rfl,hs1,hnn⟩:=kids_one h hq
   have K1:=kid (k+1) n1 s.tick (by omega) hs1 g1
   obtain⟨-,B1⟩:=g1.behind hall hs1
   rw [hq] at hm
   simp only [List.map_cons,List.map_nil] at hm
   have hm:=congrFun hm s
   rw [node_on (by omega) ho h0,inner_kid (by omega) (by omega) (by omega) (by omega) (by omega)] at hm
   obtain⟨s1,a,hr1⟩:∃ s1 a,mean K.p.xs ((k+1:Nat):Int) s.tick=(s1,a):=⟨_,_,rfl⟩
   rw [hr1] at K1 B1
   simp only at B1
   rw [show(((k+1:Nat):Int))=(k:Int)+1 by omega] at K1
   have e:mean K.p.xs k s=(if s1.over=true then(s1,0) else({ s1 with vals:=s1.vals.set m a,ev:=s1.ev++[((m:Int),-1,a)] },0)):=by
    exact zDirH4
   rw [e,hnn,← Nat.add_assoc]
   obtain⟨hw,he⟩:WT K.p.vs s1∧s1.ev.length<1000000:=by
    have hw:=(sound_mean hall _ (k+1) n1 (Nat.le_refl _) hs1 s.tick g1.wt g1.on).1
    have hf:=g1.fits.mean g1.on K.p.xs ((k+1:Nat):Int)
    rw [hr1] at hw hf
    have h1:s1.ev.length+1≤s1.steps:=hf.ev
    have h2:s1.steps+s1.fuel≤10000:=hf.top
    exact⟨hw,by omega⟩
   rw [Int.toNat_natCast] at v3
   exact ent_21 hM ho hst hle rfl hx fun κ' evv' Y' W' h'=>do_set h' K1 he (by omega) (dcell_flat hv) (dcells_setV a (by omega) hw.nv (by rw [← v3];exact asz_flat hv) rfl rfl) rfl rfl (fun z=>z)
  ·subst ht
   have hvt:0≤vtyp K.p.vs N:=asz_pos hv
   obtain⟨v1,v2,v3⟩:=vtyp_nat hvt
   obtain⟨m,rfl⟩:=Int.eq_ofNat_of_zero_le v1
   obtain⟨n1,n2,rfl,hs1,rfl,hs2,hnn⟩:=kids_two h hq
   have K1:=kid (k+1) n1 s.tick (by omega) hs1 g1
   obtain⟨-,B1⟩:=g1.behind hall hs1
   rw [hq] at hm
   simp only [List.map_cons,List.map_nil] at hm
   have hm:=congrFun hm s
   rw [node_on (by omega) ho h0,inner_kid (by omega) (by omega) (by omega) (by omega) (by omega)] at hm
   obtain⟨s1,a,hr1⟩:∃ s1 a,mean K.p.xs ((k+1:Nat):Int) s.tick=(s1,a):=⟨_,_,rfl⟩
   rw [hr1] at K1 B1
   simp only at B1
   rw [show(((k+1:Nat):Int))=(k:Int)+1 by omega] at K1
   obtain⟨s2,b,hr2⟩:∃ s2 b,mean K.p.xs ((k+1+n1:Nat):Int) s1=(s2,b):=⟨_,_,rfl⟩
   have K2:s1.over=false→NodeOk K ((k+1+n1:Nat):Int) s1 (s2,b) ((k+1+n1+n2:Nat):Int):=fun z=>by rw [← hr2];exact kid (k+1+n1) n2 s1 (by omega) hs2 (B1 z).1
   have hd:=fun s':St=>dcell_row (s:=s') hv
   rw [Int.toNat_natCast] at v3
   have e:mean K.p.xs k s=(if s1.over=true then(s1,0) else if s2.over=true then(s2,0) else if a<0∨((dcell K.p.vs s2 m).length:Int)≤a then(s2.stop 2 0,0) else({ s2 with arrs:=s2.arrs.set m ((dcell K.p.vs s2 m).set a.toNat b),ev:=s2.ev++[((m:Int),a,b)] },0)):=by
    rw [hm]
    by_cases z:s1.over=true
    ·rw [bind_over (by rw [hr1];exact z),hr1,if_pos z]
    have z:s1.over=false:=by simpa using z
    rw [bind_on (by rw [hr1];exact z),hr1,if_neg (by rw [z];decide)]
    show behindM _ _ a s1=_
    rw [behind_two (by omega) (by omega) (by omega) (by omega) (by omega) (by omega) (by omega) (by omega)]
    by_cases z2:s2.over=true
    ·rw [bind_over (by rw [hr2];exact z2),hr2,if_pos z2]
    have z2:s2.over=false:=by simpa using z2
    rw [bind_on (by rw [hr2];exact z2),hr2,if_pos rfl,if_neg (show ¬ s2.over=true by rw [z2];decide),(hd s2).1]
    rfl
   rw [e,hnn,← Nat.add_assoc,← Nat.add_assoc]
   have hg2:s1.over=false→WT K.p.vs s2∧s2.ev.length<1000000:=fun z=>by
    have hw:=(sound_mean hall _ (k+1+n1) n2 (Nat.le_refl _) hs2 s1 (B1 z).1.wt z).1
    have hf:=(B1 z).1.fits.mean z K.p.xs ((k+1+n1:Nat):Int)
    rw [hr2] at hw hf
    have h1:s2.ev.length+1≤s2.steps:=hf.ev
    have h2:s2.steps+s2.fuel≤10000:=hf.top
    exact⟨hw,by omega⟩
   have hdl:s1.over=false→0<(s2.arrs.getD m []).length:=fun z=>by
    have:=(hg2 z).1.ta m (by omega)
    rw [← v3] at this
    omega
   exact ent_22 hM ho hst hle rfl hx fun κ' evv' Y' W' h'=>do_put h' K1 K2 (by omega) (fun z=>⟨(hg2 z).2,by rw [(hd s2).1];exact hdl z,fun y=>⟨dcells_setA (by omega) (hg2 z).1.na (hd s2).2 rfl rfl,rfl,rfl,fun q=>q⟩⟩)
  ·subst ht
   obtain⟨tg2,tg3⟩:=if_tags h hx (hall k n h) hq
   obtain⟨n1,n2,n3,rfl,hs1,rfl,hs2,rfl,hs3,hnn⟩:=kids_three h hq
   have K1:=kid (k+1) n1 s.tick (by omega) hs1 g1
   obtain⟨-,B1⟩:=g1.behind hall hs1
   rw [hq] at hm
   simp only [List.map_cons,List.map_nil] at hm
   have hm:=congrFun hm s
   rw [node_on (by omega) ho h0,inner_kid (by omega) (by omega) (by omega) (by omega) (by omega)] at hm
   obtain⟨s1,a,hr1⟩:∃ s1 a,mean K.p.xs ((k+1:Nat):Int) s.tick=(s1,a):=⟨_,_,rfl⟩
   rw [hr1] at K1 B1
   simp only at B1
   rw [show(((k+1:Nat):Int))=(k:Int)+1 by omega] at K1
   obtain⟨s2,b,hr2⟩:∃ s2 b,(if a=1 then mean K.p.xs ((k+1+n1:Nat):Int) else mean K.p.xs ((k+1+n1+n2:Nat):Int)) s1=(s2,b):=⟨_,_,rfl⟩
   have hb0:b=0:=by
    by_cases y:a=1
    ·rw [if_pos y] at hr2
     have:=blk_zero hs2 tg2 s1
     rw [hr2] at this
     exact this
    ·rw [if_neg y] at hr2
     have:=blk_zero hs3 tg3 s1
     rw [hr2] at this
     exact this
   have e:mean K.p.xs k s=(if s1.over=true then(s1,0) else(s2,0)):=by
    rw [hm]
    by_cases z:s1.over=true
    ·rw [bind_over (by rw [hr1];exact z),hr1,if_pos z]
    ·rw [bind_on (by rw [hr1];simpa using z),hr1,if_neg z]
     subst hb0
     rw [← hr2]
     show Mach.kid [mean K.p.xs ((k+1:Nat):Int),mean K.p.xs ((k+1+n1:Nat):Int),mean K.p.xs ((k+1+n1+n2:Nat):Int)] (if a=1 then 1 else 2) s1=_
     by_cases y:a=1
     ·rw [if_pos y,if_pos y];rfl
     ·rw [if_neg y,if_neg y];rfl
   rw [e,hnn,← Nat.add_assoc,← Nat.add_assoc,← Nat.add_assoc]
   refine ent_23 hM ho hst hle rfl hx fun κ' evv' Y' W' h'=>do_branch (q2:=k+1+n1) (b:=b) N h' K1 hs2 hs3 (fun z=>⟨fun y=>?_,fun y=>?_⟩)
   ·rw [if_pos y] at hr2
    rw [← hr2]
    exact kid (k+1+n1) n2 s1 (by omega) hs2 (B1 z).1
   ·rw [if_neg y] at hr2
    rw [← hr2]
    exact kid (k+1+n1+n2) n3 s1 (by omega) hs3 (B1 z).1
  ·subst ht
   obtain⟨n1,n2,rfl,hs1,rfl,hs2,hnn⟩:=kids_two h hq
   rw [hq] at hm
   simp only [List.map_cons,List.map_nil] at hm
   have e:mean K.p.xs k s=againM (mean K.p.xs ((k+1:Nat):Int)) (mean K.p.xs ((k+1+n1:Nat):Int)) s.tick:=by
    rw [hm]
    show whileM (mean K.p.xs ((k+1:Nat):Int)) (mean K.p.xs ((k+1+n1:Nat):Int)) s=_
    rw [while_is (nice_mean _ _) (nice_mean _ _),Mach.enter_on ho h0]
    rfl
   rw [e,hnn,← Nat.add_assoc,← Nat.add_assoc]
   have hL:LoopOk K (mean K.p.xs ((k+1:Nat):Int)) (mean K.p.xs ((k+1+n1:Nat):Int)) ((k:Int)+1) ((k+1+n1:Nat):Int) (k+1+n1+n2) (Good1 K):={
    nc:=nice_mean _ _
    nb:=nice_mean _ _
    on:=fun s' g=>⟨g.on,g.sum⟩
    top:=hF
    tick:=fun s' g z=>g.good.tick z
    cond:=fun s' g=>by
     have B:=g.behind hall hs1
     refine⟨?_,fun z=>⟨(B.2 z).1,?_,B.1⟩⟩
     ·have:=kid (k+1) n1 s' (by omega) hs1 g
      rw [show(k:Int)+1=(((k+1:Nat):Int)) by omega]
      exact this
     ·have:=(B.2 z).2
      rw [hk1] at this
      exact this rfl
    body:=fun s' g=>by
     have B:=g.behind hall hs2
     exact⟨kid (k+1+n1) n2 s' (by omega) hs2 g,fun z=>⟨(B.2 z).1,B.1⟩⟩ }
   exact ent_24 hM ho hst hle rfl hx fun κ' evv' Y' W' h'=>do_loop (q2:=k+1+n1) N h' hs2 hL g1
  ·subst ht
   obtain⟨n1,rfl,hs1,hnn⟩:=kids_one h hq
   have K1:=kid (k+1) n1 s.tick (by omega) hs1 g1
   obtain⟨-,B1⟩:=g1.behind hall hs1
   rw [hq] at hm
   simp only [List.map_cons,List.map_nil] at hm
   have hm:=congrFun hm s
   rw [node_on (by omega) ho h0,inner_kid (by omega) (by omega) (by omega) (by omega) (by omega)] at hm
   obtain⟨s1,a,hr1⟩:∃ s1 a,mean K.p.xs ((k+1:Nat):Int) s.tick=(s1,a):=⟨_,_,rfl⟩
   rw [hr1] at K1 B1
   simp only at B1
   rw [show(((k+1:Nat):Int))=(k:Int)+1 by omega] at K1
   have e:mean K.p.xs k s=(if s1.over=true then(s1,0) else(s1.stop 0 a,0)):=by
    exact zDirH4
   rw [e]
   exact ent_25 hM ho hst hle rfl hx fun κ' evv' Y' W' h'=>do_giveBack N h' K1 ((k+n:Nat):Int)
end
end Go.Proofs.YtekogckmgkodfaaGreatDoor.Dir
