/-
  Package catalog, walked: the operators that are offered at a node, told to a loop's body: Eq to Lt.
  Package catalog, walked: the operators that are offered at a node, told to a loop's body: Le to Ge.
-/
import Derived.Test.YtodejloonfkkmaaGreatCatI
set_option maxRecDepth 100000
set_option maxHeartbeats 4000000
set_option linter.unusedVariables false
namespace Go.Proofs.YtodejloonfkkmaaGreat.Cat
open Go.RowKit Go.Shelf Mem Arena Delta Path
attribute [local go_sem] Oper.semAt_some
theorem offers1_12(HOt:OthP)(lp Bl Ba:Nat)(A:Option Addr)(c:Nat)(l:List Nd)(k m:Nat)(hs:scan 1 (l.drop k)=some m)(hl:l.length≤10000000000000)(hlt:k<l.length)(he:aend l k=(k:Int)+m)(v:Int)(y:Nd)
  (J Stop:List (Int×List Int)→World→Prop) (W:World) (h0:J [] W) (hC:Caught Bl Ba A c l k W) (hn:l[k]? = some (12,v)) (hY:Feeds lp (offs (12,v) y) J Stop) :
  CallsIn Fence.wide 3 Tryz.prog 92 #[.func (.yield lp) #[] #[],.pointer (some ⟨Bl,0,none⟩),.pointer (some ⟨Ba,0,none⟩)] W (OffEnds (offs (12,v) y) J Stop):=by
 have HE:=Lib.hid (fun W h=>End_anyL A c l k W h hl)
 rw [he] at HE
 have j2:¬ (k:Int)+(m:Int)<0:=by omega
 have j5:(k:Int)<(l.length:Int):=by omega
 have j6:(0:Int)≤(k:Int):=by omega
 obtain⟨c1,c2,c3,c4,hx⟩:=id hC
 have HC:=Lib.hid hC
 have HX:=Lib.hid hx
 have HN:=Lib.hid hn
 have H0:=Lib.hid h0
 have HO:=Lib.hid (show offs (12,v) y=[(2,oth [12,13,14,15,16,17] [12])] from rfl)
 have HR:=Lib.hid (fun W=>row_rel W)
 have hf0:Fence.wide.fn 51:=trivial
 have hf1:Fence.wide.fn 94:=trivial
 have hf2:Fence.wide.fn 93:=trivial
 clear hC hx hn h0 he hs
 refine callsIn_of_wp Tryz.func92 rfl trivial ?_ rfl
 simp only [Tryz.ntmps92,List.size_toArray,List.length_cons,List.length_nil,Nat.reduceAdd,Nat.reduceSub,Array.replicate_succ,Array.replicate_zero,List.push_toArray,List.append_toArray,List.nil_append,List.cons_append]
 gi_wp2_with (first
  | (gi_at_call 51;refine((callsIn_wide (n:=2)).2 (HE.out _ HX.out)).mono ?_;rintro e w1 ⟨rfl,hb1⟩;have hC1:=HC.out.below hb1;obtain⟨d1,d2,d3,d4,hx1⟩:=id hC1;obtain⟨ad,q,hbk,g0,g1⟩:=hx1 k _ HN.out;cases q)
  | fail)
 have bX:=Blk.new w1 47 #[.int .i64 12,.int .i64 v]
 have hB2:Below w1.heap.size w1 (w1.alloc (.cells #[.int .i64 12,.int .i64 v] 47)):=(Below.refl _ _).alloc (Nat.le_refl _) _
 have hB3:=hb1.trans (hB2.mono hb1.size)
 obtain⟨b,hb⟩:∃ b,w1.heap.size=b:=⟨_,rfl⟩
 rw [hb] at bX hB2 ⊢
 have hbW:W.heap.size≤b:=hb▸hb1.size
 generalize w1.alloc (.cells #[.int .i64 12,.int .i64 v] 47)=w2 at *
 clear hC1 d1 d2 d3 d4 hx1 hbk g0 g1 c3 c4
 obtain⟨x0,x1⟩:=bX.two
 have hp1:[]++[(2,oth [12,13,14,15,16,17] [12])] <+: offs (12,v) y:=by rw [HO.out];exact List.prefix_refl _
 have HYY:=Lib.hid (fun A' c' W' h1 h2 h3 h4=>hY [] 2 (oth [12,13,14,15,16,17] [12]) A' c' W W' H0.out h1 h2 h3 h4 hp1)
 have HOL:=Lib.hid (fun B g cap w h1 h2 h3=>oth_late (t:=12) (B:=B) (g:=g) (n:=6) (cap:=cap) (zs:=[12,13,14,15,16,17]) (w:=w) HOt rfl (by decide) (by decide) h1 h2 h3)
 have HOE:=Lib.hid (fun B g h cap w h1 h2 h3 h4 h5=>oth_early (t:=12) (B:=B) (g:=g) (h:=h) (n:=6) (cap:=cap) (zs:=[12,13,14,15,16,17]) (w:=w) HOt rfl (by decide) (by decide) h1 h2 h3 h4 h5)
 rw [HO.out]
 clear hY hp1
 generalize oth [12,13,14,15,16,17] [12]=zs at *
 gi_region_with (first
  | (gi_at_call 94;(first
   | ((with_reducible refine((callsIn_wide (n:=2)).2 (HR.out w2.drew)).mono ?_);rintro e w3 ⟨hb3,g,cap,rfl,hm3,hc3⟩;have bX3:=bX.drew.below hb3 bX.lt;obtain⟨x2,x3⟩:=bX3.two)
   | ((with_reducible refine((callsIn_wide (n:=2)).2 (HR.out (w2.alloc (.cells #[.int .i64 12] 3)).drew)).mono ?_);rintro e w3 ⟨hb3,g,cap,rfl,hm3,hc3⟩;have bL:=(Blk.new w2 3 #[.int .i64 12]).drew;have bL3:=bL.below hb3 bL.lt)
   | fail))
  | (gi_at_call 93;(first
   | ((with_reducible refine(HOL.out _ g cap w3 hc3 hm3 hb3.size).mono ?_);rintro e w5 ⟨rfl,hb5,hi5,hl5⟩;have hB5:=hB3.drew.trans ((hb3.trans hb5).mono hB3.drew.size);obtain⟨fn,tmps,assign,body,hy,hR⟩:=HYY.out _ _ _ hB5 hi5 (fun ad e=>by cases e;exact Nat.le_trans hB3.drew.size hm3.ge) hl5)
   | ((with_reducible refine(HOE.out _ g w2.heap.size cap w3 hc3 hm3 hb3.size bL3 (Nat.ne_of_lt (Nat.lt_of_lt_of_le bL.lt hm3.ge))).mono ?_);rintro e w5 ⟨rfl,hb5,hi5,hl5⟩;have hB5:=(hB3.alloc hB3.size _).drew.trans ((hb3.trans hb5).mono (hB3.alloc hB3.size (.cells #[.int .i64 12] 3)).drew.size);obtain⟨fn,tmps,assign,body,hy,hR⟩:=HYY.out _ _ _ hB5 hi5 (fun ad e=>by cases e;exact Nat.le_trans (hB3.alloc hB3.size (.cells #[.int .i64 12] 3)).drew.size hm3.ge) hl5)
   | fail))
  | ((with_reducible refine hR.mono ?_);rintro e W6 ⟨q,rfl,hq⟩)
  | fail)
 all_goals gi_wp2
 all_goals go_end0
 all_goals refine⟨⟨_,rfl⟩,W6,Below.refl _ _,?_⟩
 all_goals (cases q;exact .inr ⟨_,(by rw [HO.out];exact List.prefix_refl _),hq.2 rfl⟩;exact .inl (by rw [HO.out];exact hq.1 rfl))
theorem offers1_13(HOt:OthP)(lp Bl Ba:Nat)(A:Option Addr)(c:Nat)(l:List Nd)(k m:Nat)(hs:scan 1 (l.drop k)=some m)(hl:l.length≤10000000000000)(hlt:k<l.length)(he:aend l k=(k:Int)+m)(v:Int)(y:Nd)
  (J Stop:List (Int×List Int)→World→Prop) (W:World) (h0:J [] W) (hC:Caught Bl Ba A c l k W) (hn:l[k]? = some (13,v)) (hY:Feeds lp (offs (13,v) y) J Stop) :
  CallsIn Fence.wide 3 Tryz.prog 92 #[.func (.yield lp) #[] #[],.pointer (some ⟨Bl,0,none⟩),.pointer (some ⟨Ba,0,none⟩)] W (OffEnds (offs (13,v) y) J Stop):=by
 have HE:=Lib.hid (fun W h=>End_anyL A c l k W h hl)
 rw [he] at HE
 have j2:¬ (k:Int)+(m:Int)<0:=by omega
 have j5:(k:Int)<(l.length:Int):=by omega
 have j6:(0:Int)≤(k:Int):=by omega
 obtain⟨c1,c2,c3,c4,hx⟩:=id hC
 have HC:=Lib.hid hC
 have HX:=Lib.hid hx
 have HN:=Lib.hid hn
 have H0:=Lib.hid h0
 have HO:=Lib.hid (show offs (13,v) y=[(2,oth [12,13,14,15,16,17] [13])] from rfl)
 have HR:=Lib.hid (fun W=>row_rel W)
 have hf0:Fence.wide.fn 51:=trivial
 have hf1:Fence.wide.fn 94:=trivial
 have hf2:Fence.wide.fn 93:=trivial
 clear hC hx hn h0 he hs
 refine callsIn_of_wp Tryz.func92 rfl trivial ?_ rfl
 simp only [Tryz.ntmps92,List.size_toArray,List.length_cons,List.length_nil,Nat.reduceAdd,Nat.reduceSub,Array.replicate_succ,Array.replicate_zero,List.push_toArray,List.append_toArray,List.nil_append,List.cons_append]
 gi_wp2_with (first
  | (gi_at_call 51;refine((callsIn_wide (n:=2)).2 (HE.out _ HX.out)).mono ?_;rintro e w1 ⟨rfl,hb1⟩;have hC1:=HC.out.below hb1;obtain⟨d1,d2,d3,d4,hx1⟩:=id hC1;obtain⟨ad,q,hbk,g0,g1⟩:=hx1 k _ HN.out;cases q)
  | fail)
 have bX:=Blk.new w1 47 #[.int .i64 13,.int .i64 v]
 have hB2:Below w1.heap.size w1 (w1.alloc (.cells #[.int .i64 13,.int .i64 v] 47)):=(Below.refl _ _).alloc (Nat.le_refl _) _
 have hB3:=hb1.trans (hB2.mono hb1.size)
 obtain⟨b,hb⟩:∃ b,w1.heap.size=b:=⟨_,rfl⟩
 rw [hb] at bX hB2 ⊢
 have hbW:W.heap.size≤b:=hb▸hb1.size
 generalize w1.alloc (.cells #[.int .i64 13,.int .i64 v] 47)=w2 at *
 clear hC1 d1 d2 d3 d4 hx1 hbk g0 g1 c3 c4
 obtain⟨x0,x1⟩:=bX.two
 have hp1:[]++[(2,oth [12,13,14,15,16,17] [13])] <+: offs (13,v) y:=by rw [HO.out];exact List.prefix_refl _
 have HYY:=Lib.hid (fun A' c' W' h1 h2 h3 h4=>hY [] 2 (oth [12,13,14,15,16,17] [13]) A' c' W W' H0.out h1 h2 h3 h4 hp1)
 have HOL:=Lib.hid (fun B g cap w h1 h2 h3=>oth_late (t:=13) (B:=B) (g:=g) (n:=6) (cap:=cap) (zs:=[12,13,14,15,16,17]) (w:=w) HOt rfl (by decide) (by decide) h1 h2 h3)
 have HOE:=Lib.hid (fun B g h cap w h1 h2 h3 h4 h5=>oth_early (t:=13) (B:=B) (g:=g) (h:=h) (n:=6) (cap:=cap) (zs:=[12,13,14,15,16,17]) (w:=w) HOt rfl (by decide) (by decide) h1 h2 h3 h4 h5)
 rw [HO.out]
 clear hY hp1
 generalize oth [12,13,14,15,16,17] [13]=zs at *
 gi_region_with (first
  | (gi_at_call 94;(first
   | ((with_reducible refine((callsIn_wide (n:=2)).2 (HR.out w2.drew)).mono ?_);rintro e w3 ⟨hb3,g,cap,rfl,hm3,hc3⟩;have bX3:=bX.drew.below hb3 bX.lt;obtain⟨x2,x3⟩:=bX3.two)
   | ((with_reducible refine((callsIn_wide (n:=2)).2 (HR.out (w2.alloc (.cells #[.int .i64 13] 3)).drew)).mono ?_);rintro e w3 ⟨hb3,g,cap,rfl,hm3,hc3⟩;have bL:=(Blk.new w2 3 #[.int .i64 13]).drew;have bL3:=bL.below hb3 bL.lt)
   | fail))
  | (gi_at_call 93;(first
   | ((with_reducible refine(HOL.out _ g cap w3 hc3 hm3 hb3.size).mono ?_);rintro e w5 ⟨rfl,hb5,hi5,hl5⟩;have hB5:=hB3.drew.trans ((hb3.trans hb5).mono hB3.drew.size);obtain⟨fn,tmps,assign,body,hy,hR⟩:=HYY.out _ _ _ hB5 hi5 (fun ad e=>by cases e;exact Nat.le_trans hB3.drew.size hm3.ge) hl5)
   | ((with_reducible refine(HOE.out _ g w2.heap.size cap w3 hc3 hm3 hb3.size bL3 (Nat.ne_of_lt (Nat.lt_of_lt_of_le bL.lt hm3.ge))).mono ?_);rintro e w5 ⟨rfl,hb5,hi5,hl5⟩;have hB5:=(hB3.alloc hB3.size _).drew.trans ((hb3.trans hb5).mono (hB3.alloc hB3.size (.cells #[.int .i64 13] 3)).drew.size);obtain⟨fn,tmps,assign,body,hy,hR⟩:=HYY.out _ _ _ hB5 hi5 (fun ad e=>by cases e;exact Nat.le_trans (hB3.alloc hB3.size (.cells #[.int .i64 13] 3)).drew.size hm3.ge) hl5)
   | fail))
  | ((with_reducible refine hR.mono ?_);rintro e W6 ⟨q,rfl,hq⟩)
  | fail)
 all_goals gi_wp2
 all_goals go_end0
 all_goals refine⟨⟨_,rfl⟩,W6,Below.refl _ _,?_⟩
 all_goals (cases q;exact .inr ⟨_,(by rw [HO.out];exact List.prefix_refl _),hq.2 rfl⟩;exact .inl (by rw [HO.out];exact hq.1 rfl))
theorem offers1_14(HOt:OthP)(lp Bl Ba:Nat)(A:Option Addr)(c:Nat)(l:List Nd)(k m:Nat)(hs:scan 1 (l.drop k)=some m)(hl:l.length≤10000000000000)(hlt:k<l.length)(he:aend l k=(k:Int)+m)(v:Int)(y:Nd)
  (J Stop:List (Int×List Int)→World→Prop) (W:World) (h0:J [] W) (hC:Caught Bl Ba A c l k W) (hn:l[k]? = some (14,v)) (hY:Feeds lp (offs (14,v) y) J Stop) :
  CallsIn Fence.wide 3 Tryz.prog 92 #[.func (.yield lp) #[] #[],.pointer (some ⟨Bl,0,none⟩),.pointer (some ⟨Ba,0,none⟩)] W (OffEnds (offs (14,v) y) J Stop):=by
 have HE:=Lib.hid (fun W h=>End_anyL A c l k W h hl)
 rw [he] at HE
 have j2:¬ (k:Int)+(m:Int)<0:=by omega
 have j5:(k:Int)<(l.length:Int):=by omega
 have j6:(0:Int)≤(k:Int):=by omega
 obtain⟨c1,c2,c3,c4,hx⟩:=id hC
 have HC:=Lib.hid hC
 have HX:=Lib.hid hx
 have HN:=Lib.hid hn
 have H0:=Lib.hid h0
 have HO:=Lib.hid (show offs (14,v) y=[(2,oth [12,13,14,15,16,17] [14])] from rfl)
 have HR:=Lib.hid (fun W=>row_rel W)
 have hf0:Fence.wide.fn 51:=trivial
 have hf1:Fence.wide.fn 94:=trivial
 have hf2:Fence.wide.fn 93:=trivial
 clear hC hx hn h0 he hs
 refine callsIn_of_wp Tryz.func92 rfl trivial ?_ rfl
 simp only [Tryz.ntmps92,List.size_toArray,List.length_cons,List.length_nil,Nat.reduceAdd,Nat.reduceSub,Array.replicate_succ,Array.replicate_zero,List.push_toArray,List.append_toArray,List.nil_append,List.cons_append]
 gi_wp2_with (first
  | (gi_at_call 51;refine((callsIn_wide (n:=2)).2 (HE.out _ HX.out)).mono ?_;rintro e w1 ⟨rfl,hb1⟩;have hC1:=HC.out.below hb1;obtain⟨d1,d2,d3,d4,hx1⟩:=id hC1;obtain⟨ad,q,hbk,g0,g1⟩:=hx1 k _ HN.out;cases q)
  | fail)
 have bX:=Blk.new w1 47 #[.int .i64 14,.int .i64 v]
 have hB2:Below w1.heap.size w1 (w1.alloc (.cells #[.int .i64 14,.int .i64 v] 47)):=(Below.refl _ _).alloc (Nat.le_refl _) _
 have hB3:=hb1.trans (hB2.mono hb1.size)
 obtain⟨b,hb⟩:∃ b,w1.heap.size=b:=⟨_,rfl⟩
 rw [hb] at bX hB2 ⊢
 have hbW:W.heap.size≤b:=hb▸hb1.size
 generalize w1.alloc (.cells #[.int .i64 14,.int .i64 v] 47)=w2 at *
 clear hC1 d1 d2 d3 d4 hx1 hbk g0 g1 c3 c4
 obtain⟨x0,x1⟩:=bX.two
 have hp1:[]++[(2,oth [12,13,14,15,16,17] [14])] <+: offs (14,v) y:=by rw [HO.out];exact List.prefix_refl _
 have HYY:=Lib.hid (fun A' c' W' h1 h2 h3 h4=>hY [] 2 (oth [12,13,14,15,16,17] [14]) A' c' W W' H0.out h1 h2 h3 h4 hp1)
 have HOL:=Lib.hid (fun B g cap w h1 h2 h3=>oth_late (t:=14) (B:=B) (g:=g) (n:=6) (cap:=cap) (zs:=[12,13,14,15,16,17]) (w:=w) HOt rfl (by decide) (by decide) h1 h2 h3)
 have HOE:=Lib.hid (fun B g h cap w h1 h2 h3 h4 h5=>oth_early (t:=14) (B:=B) (g:=g) (h:=h) (n:=6) (cap:=cap) (zs:=[12,13,14,15,16,17]) (w:=w) HOt rfl (by decide) (by decide) h1 h2 h3 h4 h5)
 rw [HO.out]
 clear hY hp1
 generalize oth [12,13,14,15,16,17] [14]=zs at *
 gi_region_with (first
  | (gi_at_call 94;(first
   | ((with_reducible refine((callsIn_wide (n:=2)).2 (HR.out w2.drew)).mono ?_);rintro e w3 ⟨hb3,g,cap,rfl,hm3,hc3⟩;have bX3:=bX.drew.below hb3 bX.lt;obtain⟨x2,x3⟩:=bX3.two)
   | ((with_reducible refine((callsIn_wide (n:=2)).2 (HR.out (w2.alloc (.cells #[.int .i64 14] 3)).drew)).mono ?_);rintro e w3 ⟨hb3,g,cap,rfl,hm3,hc3⟩;have bL:=(Blk.new w2 3 #[.int .i64 14]).drew;have bL3:=bL.below hb3 bL.lt)
   | fail))
  | (gi_at_call 93;(first
   | ((with_reducible refine(HOL.out _ g cap w3 hc3 hm3 hb3.size).mono ?_);rintro e w5 ⟨rfl,hb5,hi5,hl5⟩;have hB5:=hB3.drew.trans ((hb3.trans hb5).mono hB3.drew.size);obtain⟨fn,tmps,assign,body,hy,hR⟩:=HYY.out _ _ _ hB5 hi5 (fun ad e=>by cases e;exact Nat.le_trans hB3.drew.size hm3.ge) hl5)
   | ((with_reducible refine(HOE.out _ g w2.heap.size cap w3 hc3 hm3 hb3.size bL3 (Nat.ne_of_lt (Nat.lt_of_lt_of_le bL.lt hm3.ge))).mono ?_);rintro e w5 ⟨rfl,hb5,hi5,hl5⟩;have hB5:=(hB3.alloc hB3.size _).drew.trans ((hb3.trans hb5).mono (hB3.alloc hB3.size (.cells #[.int .i64 14] 3)).drew.size);obtain⟨fn,tmps,assign,body,hy,hR⟩:=HYY.out _ _ _ hB5 hi5 (fun ad e=>by cases e;exact Nat.le_trans (hB3.alloc hB3.size (.cells #[.int .i64 14] 3)).drew.size hm3.ge) hl5)
   | fail))
  | ((with_reducible refine hR.mono ?_);rintro e W6 ⟨q,rfl,hq⟩)
  | fail)
 all_goals gi_wp2
 all_goals go_end0
 all_goals refine⟨⟨_,rfl⟩,W6,Below.refl _ _,?_⟩
 all_goals (cases q;exact .inr ⟨_,(by rw [HO.out];exact List.prefix_refl _),hq.2 rfl⟩;exact .inl (by rw [HO.out];exact hq.1 rfl))
theorem offers1_15(HOt:OthP)(lp Bl Ba:Nat)(A:Option Addr)(c:Nat)(l:List Nd)(k m:Nat)(hs:scan 1 (l.drop k)=some m)(hl:l.length≤10000000000000)(hlt:k<l.length)(he:aend l k=(k:Int)+m)(v:Int)(y:Nd)
  (J Stop:List (Int×List Int)→World→Prop) (W:World) (h0:J [] W) (hC:Caught Bl Ba A c l k W) (hn:l[k]? = some (15,v)) (hY:Feeds lp (offs (15,v) y) J Stop) :
  CallsIn Fence.wide 3 Tryz.prog 92 #[.func (.yield lp) #[] #[],.pointer (some ⟨Bl,0,none⟩),.pointer (some ⟨Ba,0,none⟩)] W (OffEnds (offs (15,v) y) J Stop):=by
 have HE:=Lib.hid (fun W h=>End_anyL A c l k W h hl)
 rw [he] at HE
 have j2:¬ (k:Int)+(m:Int)<0:=by omega
 have j5:(k:Int)<(l.length:Int):=by omega
 have j6:(0:Int)≤(k:Int):=by omega
 obtain⟨c1,c2,c3,c4,hx⟩:=id hC
 have HC:=Lib.hid hC
 have HX:=Lib.hid hx
 have HN:=Lib.hid hn
 have H0:=Lib.hid h0
 have HO:=Lib.hid (show offs (15,v) y=[(2,oth [12,13,14,15,16,17] [15])] from rfl)
 have HR:=Lib.hid (fun W=>row_rel W)
 have hf0:Fence.wide.fn 51:=trivial
 have hf1:Fence.wide.fn 94:=trivial
 have hf2:Fence.wide.fn 93:=trivial
 clear hC hx hn h0 he hs
 refine callsIn_of_wp Tryz.func92 rfl trivial ?_ rfl
 simp only [Tryz.ntmps92,List.size_toArray,List.length_cons,List.length_nil,Nat.reduceAdd,Nat.reduceSub,Array.replicate_succ,Array.replicate_zero,List.push_toArray,List.append_toArray,List.nil_append,List.cons_append]
 gi_wp2_with (first
  | (gi_at_call 51;refine((callsIn_wide (n:=2)).2 (HE.out _ HX.out)).mono ?_;rintro e w1 ⟨rfl,hb1⟩;have hC1:=HC.out.below hb1;obtain⟨d1,d2,d3,d4,hx1⟩:=id hC1;obtain⟨ad,q,hbk,g0,g1⟩:=hx1 k _ HN.out;cases q)
  | fail)
 have bX:=Blk.new w1 47 #[.int .i64 15,.int .i64 v]
 have hB2:Below w1.heap.size w1 (w1.alloc (.cells #[.int .i64 15,.int .i64 v] 47)):=(Below.refl _ _).alloc (Nat.le_refl _) _
 have hB3:=hb1.trans (hB2.mono hb1.size)
 obtain⟨b,hb⟩:∃ b,w1.heap.size=b:=⟨_,rfl⟩
 rw [hb] at bX hB2 ⊢
 have hbW:W.heap.size≤b:=hb▸hb1.size
 generalize w1.alloc (.cells #[.int .i64 15,.int .i64 v] 47)=w2 at *
 clear hC1 d1 d2 d3 d4 hx1 hbk g0 g1 c3 c4
 obtain⟨x0,x1⟩:=bX.two
 have hp1:[]++[(2,oth [12,13,14,15,16,17] [15])] <+: offs (15,v) y:=by rw [HO.out];exact List.prefix_refl _
 have HYY:=Lib.hid (fun A' c' W' h1 h2 h3 h4=>hY [] 2 (oth [12,13,14,15,16,17] [15]) A' c' W W' H0.out h1 h2 h3 h4 hp1)
 have HOL:=Lib.hid (fun B g cap w h1 h2 h3=>oth_late (t:=15) (B:=B) (g:=g) (n:=6) (cap:=cap) (zs:=[12,13,14,15,16,17]) (w:=w) HOt rfl (by decide) (by decide) h1 h2 h3)
 have HOE:=Lib.hid (fun B g h cap w h1 h2 h3 h4 h5=>oth_early (t:=15) (B:=B) (g:=g) (h:=h) (n:=6) (cap:=cap) (zs:=[12,13,14,15,16,17]) (w:=w) HOt rfl (by decide) (by decide) h1 h2 h3 h4 h5)
 rw [HO.out]
 clear hY hp1
 generalize oth [12,13,14,15,16,17] [15]=zs at *
 gi_region_with (first
  | (gi_at_call 94;(first
   | ((with_reducible refine((callsIn_wide (n:=2)).2 (HR.out w2.drew)).mono ?_);rintro e w3 ⟨hb3,g,cap,rfl,hm3,hc3⟩;have bX3:=bX.drew.below hb3 bX.lt;obtain⟨x2,x3⟩:=bX3.two)
   | ((with_reducible refine((callsIn_wide (n:=2)).2 (HR.out (w2.alloc (.cells #[.int .i64 15] 3)).drew)).mono ?_);rintro e w3 ⟨hb3,g,cap,rfl,hm3,hc3⟩;have bL:=(Blk.new w2 3 #[.int .i64 15]).drew;have bL3:=bL.below hb3 bL.lt)
   | fail))
  | (gi_at_call 93;(first
   | ((with_reducible refine(HOL.out _ g cap w3 hc3 hm3 hb3.size).mono ?_);rintro e w5 ⟨rfl,hb5,hi5,hl5⟩;have hB5:=hB3.drew.trans ((hb3.trans hb5).mono hB3.drew.size);obtain⟨fn,tmps,assign,body,hy,hR⟩:=HYY.out _ _ _ hB5 hi5 (fun ad e=>by cases e;exact Nat.le_trans hB3.drew.size hm3.ge) hl5)
   | ((with_reducible refine(HOE.out _ g w2.heap.size cap w3 hc3 hm3 hb3.size bL3 (Nat.ne_of_lt (Nat.lt_of_lt_of_le bL.lt hm3.ge))).mono ?_);rintro e w5 ⟨rfl,hb5,hi5,hl5⟩;have hB5:=(hB3.alloc hB3.size _).drew.trans ((hb3.trans hb5).mono (hB3.alloc hB3.size (.cells #[.int .i64 15] 3)).drew.size);obtain⟨fn,tmps,assign,body,hy,hR⟩:=HYY.out _ _ _ hB5 hi5 (fun ad e=>by cases e;exact Nat.le_trans (hB3.alloc hB3.size (.cells #[.int .i64 15] 3)).drew.size hm3.ge) hl5)
   | fail))
  | ((with_reducible refine hR.mono ?_);rintro e W6 ⟨q,rfl,hq⟩)
  | fail)
 all_goals gi_wp2
 all_goals go_end0
 all_goals refine⟨⟨_,rfl⟩,W6,Below.refl _ _,?_⟩
 all_goals (cases q;exact .inr ⟨_,(by rw [HO.out];exact List.prefix_refl _),hq.2 rfl⟩;exact .inl (by rw [HO.out];exact hq.1 rfl))
theorem offers1_16(HOt:OthP)(lp Bl Ba:Nat)(A:Option Addr)(c:Nat)(l:List Nd)(k m:Nat)(hs:scan 1 (l.drop k)=some m)(hl:l.length≤10000000000000)(hlt:k<l.length)(he:aend l k=(k:Int)+m)(v:Int)(y:Nd)
  (J Stop:List (Int×List Int)→World→Prop) (W:World) (h0:J [] W) (hC:Caught Bl Ba A c l k W) (hn:l[k]? = some (16,v)) (hY:Feeds lp (offs (16,v) y) J Stop) :
  CallsIn Fence.wide 3 Tryz.prog 92 #[.func (.yield lp) #[] #[],.pointer (some ⟨Bl,0,none⟩),.pointer (some ⟨Ba,0,none⟩)] W (OffEnds (offs (16,v) y) J Stop):=by
 have HE:=Lib.hid (fun W h=>End_anyL A c l k W h hl)
 rw [he] at HE
 have j2:¬ (k:Int)+(m:Int)<0:=by omega
 have j5:(k:Int)<(l.length:Int):=by omega
 have j6:(0:Int)≤(k:Int):=by omega
 obtain⟨c1,c2,c3,c4,hx⟩:=id hC
 have HC:=Lib.hid hC
 have HX:=Lib.hid hx
 have HN:=Lib.hid hn
 have H0:=Lib.hid h0
 have HO:=Lib.hid (show offs (16,v) y=[(2,oth [12,13,14,15,16,17] [16])] from rfl)
 have HR:=Lib.hid (fun W=>row_rel W)
 have hf0:Fence.wide.fn 51:=trivial
 have hf1:Fence.wide.fn 94:=trivial
 have hf2:Fence.wide.fn 93:=trivial
 clear hC hx hn h0 he hs
 refine callsIn_of_wp Tryz.func92 rfl trivial ?_ rfl
 simp only [Tryz.ntmps92,List.size_toArray,List.length_cons,List.length_nil,Nat.reduceAdd,Nat.reduceSub,Array.replicate_succ,Array.replicate_zero,List.push_toArray,List.append_toArray,List.nil_append,List.cons_append]
 gi_wp2_with (first
  | (gi_at_call 51;refine((callsIn_wide (n:=2)).2 (HE.out _ HX.out)).mono ?_;rintro e w1 ⟨rfl,hb1⟩;have hC1:=HC.out.below hb1;obtain⟨d1,d2,d3,d4,hx1⟩:=id hC1;obtain⟨ad,q,hbk,g0,g1⟩:=hx1 k _ HN.out;cases q)
  | fail)
 have bX:=Blk.new w1 47 #[.int .i64 16,.int .i64 v]
 have hB2:Below w1.heap.size w1 (w1.alloc (.cells #[.int .i64 16,.int .i64 v] 47)):=(Below.refl _ _).alloc (Nat.le_refl _) _
 have hB3:=hb1.trans (hB2.mono hb1.size)
 obtain⟨b,hb⟩:∃ b,w1.heap.size=b:=⟨_,rfl⟩
 rw [hb] at bX hB2 ⊢
 have hbW:W.heap.size≤b:=hb▸hb1.size
 generalize w1.alloc (.cells #[.int .i64 16,.int .i64 v] 47)=w2 at *
 clear hC1 d1 d2 d3 d4 hx1 hbk g0 g1 c3 c4
 obtain⟨x0,x1⟩:=bX.two
 have hp1:[]++[(2,oth [12,13,14,15,16,17] [16])] <+: offs (16,v) y:=by rw [HO.out];exact List.prefix_refl _
 have HYY:=Lib.hid (fun A' c' W' h1 h2 h3 h4=>hY [] 2 (oth [12,13,14,15,16,17] [16]) A' c' W W' H0.out h1 h2 h3 h4 hp1)
 have HOL:=Lib.hid (fun B g cap w h1 h2 h3=>oth_late (t:=16) (B:=B) (g:=g) (n:=6) (cap:=cap) (zs:=[12,13,14,15,16,17]) (w:=w) HOt rfl (by decide) (by decide) h1 h2 h3)
 have HOE:=Lib.hid (fun B g h cap w h1 h2 h3 h4 h5=>oth_early (t:=16) (B:=B) (g:=g) (h:=h) (n:=6) (cap:=cap) (zs:=[12,13,14,15,16,17]) (w:=w) HOt rfl (by decide) (by decide) h1 h2 h3 h4 h5)
 rw [HO.out]
 clear hY hp1
 generalize oth [12,13,14,15,16,17] [16]=zs at *
 gi_region_with (first
  | (gi_at_call 94;(first
   | ((with_reducible refine((callsIn_wide (n:=2)).2 (HR.out w2.drew)).mono ?_);rintro e w3 ⟨hb3,g,cap,rfl,hm3,hc3⟩;have bX3:=bX.drew.below hb3 bX.lt;obtain⟨x2,x3⟩:=bX3.two)
   | ((with_reducible refine((callsIn_wide (n:=2)).2 (HR.out (w2.alloc (.cells #[.int .i64 16] 3)).drew)).mono ?_);rintro e w3 ⟨hb3,g,cap,rfl,hm3,hc3⟩;have bL:=(Blk.new w2 3 #[.int .i64 16]).drew;have bL3:=bL.below hb3 bL.lt)
   | fail))
  | (gi_at_call 93;(first
   | ((with_reducible refine(HOL.out _ g cap w3 hc3 hm3 hb3.size).mono ?_);rintro e w5 ⟨rfl,hb5,hi5,hl5⟩;have hB5:=hB3.drew.trans ((hb3.trans hb5).mono hB3.drew.size);obtain⟨fn,tmps,assign,body,hy,hR⟩:=HYY.out _ _ _ hB5 hi5 (fun ad e=>by cases e;exact Nat.le_trans hB3.drew.size hm3.ge) hl5)
   | ((with_reducible refine(HOE.out _ g w2.heap.size cap w3 hc3 hm3 hb3.size bL3 (Nat.ne_of_lt (Nat.lt_of_lt_of_le bL.lt hm3.ge))).mono ?_);rintro e w5 ⟨rfl,hb5,hi5,hl5⟩;have hB5:=(hB3.alloc hB3.size _).drew.trans ((hb3.trans hb5).mono (hB3.alloc hB3.size (.cells #[.int .i64 16] 3)).drew.size);obtain⟨fn,tmps,assign,body,hy,hR⟩:=HYY.out _ _ _ hB5 hi5 (fun ad e=>by cases e;exact Nat.le_trans (hB3.alloc hB3.size (.cells #[.int .i64 16] 3)).drew.size hm3.ge) hl5)
   | fail))
  | ((with_reducible refine hR.mono ?_);rintro e W6 ⟨q,rfl,hq⟩)
  | fail)
 all_goals gi_wp2
 all_goals go_end0
 all_goals refine⟨⟨_,rfl⟩,W6,Below.refl _ _,?_⟩
 all_goals (cases q;exact .inr ⟨_,(by rw [HO.out];exact List.prefix_refl _),hq.2 rfl⟩;exact .inl (by rw [HO.out];exact hq.1 rfl))
theorem offers1_17(HOt:OthP)(lp Bl Ba:Nat)(A:Option Addr)(c:Nat)(l:List Nd)(k m:Nat)(hs:scan 1 (l.drop k)=some m)(hl:l.length≤10000000000000)(hlt:k<l.length)(he:aend l k=(k:Int)+m)(v:Int)(y:Nd)
  (J Stop:List (Int×List Int)→World→Prop) (W:World) (h0:J [] W) (hC:Caught Bl Ba A c l k W) (hn:l[k]? = some (17,v)) (hY:Feeds lp (offs (17,v) y) J Stop) :
  CallsIn Fence.wide 3 Tryz.prog 92 #[.func (.yield lp) #[] #[],.pointer (some ⟨Bl,0,none⟩),.pointer (some ⟨Ba,0,none⟩)] W (OffEnds (offs (17,v) y) J Stop):=by
 have HE:=Lib.hid (fun W h=>End_anyL A c l k W h hl)
 rw [he] at HE
 have j2:¬ (k:Int)+(m:Int)<0:=by omega
 have j5:(k:Int)<(l.length:Int):=by omega
 have j6:(0:Int)≤(k:Int):=by omega
 obtain⟨c1,c2,c3,c4,hx⟩:=id hC
 have HC:=Lib.hid hC
 have HX:=Lib.hid hx
 have HN:=Lib.hid hn
 have H0:=Lib.hid h0
 have HO:=Lib.hid (show offs (17,v) y=[(2,oth [12,13,14,15,16,17] [17])] from rfl)
 have HR:=Lib.hid (fun W=>row_rel W)
 have hf0:Fence.wide.fn 51:=trivial
 have hf1:Fence.wide.fn 94:=trivial
 have hf2:Fence.wide.fn 93:=trivial
 clear hC hx hn h0 he hs
 refine callsIn_of_wp Tryz.func92 rfl trivial ?_ rfl
 simp only [Tryz.ntmps92,List.size_toArray,List.length_cons,List.length_nil,Nat.reduceAdd,Nat.reduceSub,Array.replicate_succ,Array.replicate_zero,List.push_toArray,List.append_toArray,List.nil_append,List.cons_append]
 gi_wp2_with (first
  | (gi_at_call 51;refine((callsIn_wide (n:=2)).2 (HE.out _ HX.out)).mono ?_;rintro e w1 ⟨rfl,hb1⟩;have hC1:=HC.out.below hb1;obtain⟨d1,d2,d3,d4,hx1⟩:=id hC1;obtain⟨ad,q,hbk,g0,g1⟩:=hx1 k _ HN.out;cases q)
  | fail)
 have bX:=Blk.new w1 47 #[.int .i64 17,.int .i64 v]
 have hB2:Below w1.heap.size w1 (w1.alloc (.cells #[.int .i64 17,.int .i64 v] 47)):=(Below.refl _ _).alloc (Nat.le_refl _) _
 have hB3:=hb1.trans (hB2.mono hb1.size)
 obtain⟨b,hb⟩:∃ b,w1.heap.size=b:=⟨_,rfl⟩
 rw [hb] at bX hB2 ⊢
 have hbW:W.heap.size≤b:=hb▸hb1.size
 generalize w1.alloc (.cells #[.int .i64 17,.int .i64 v] 47)=w2 at *
 clear hC1 d1 d2 d3 d4 hx1 hbk g0 g1 c3 c4
 obtain⟨x0,x1⟩:=bX.two
 have hp1:[]++[(2,oth [12,13,14,15,16,17] [17])] <+: offs (17,v) y:=by rw [HO.out];exact List.prefix_refl _
 have HYY:=Lib.hid (fun A' c' W' h1 h2 h3 h4=>hY [] 2 (oth [12,13,14,15,16,17] [17]) A' c' W W' H0.out h1 h2 h3 h4 hp1)
 have HOL:=Lib.hid (fun B g cap w h1 h2 h3=>oth_late (t:=17) (B:=B) (g:=g) (n:=6) (cap:=cap) (zs:=[12,13,14,15,16,17]) (w:=w) HOt rfl (by decide) (by decide) h1 h2 h3)
 have HOE:=Lib.hid (fun B g h cap w h1 h2 h3 h4 h5=>oth_early (t:=17) (B:=B) (g:=g) (h:=h) (n:=6) (cap:=cap) (zs:=[12,13,14,15,16,17]) (w:=w) HOt rfl (by decide) (by decide) h1 h2 h3 h4 h5)
 rw [HO.out]
 clear hY hp1
 generalize oth [12,13,14,15,16,17] [17]=zs at *
 gi_region_with (first
  | (gi_at_call 94;(first
   | ((with_reducible refine((callsIn_wide (n:=2)).2 (HR.out w2.drew)).mono ?_);rintro e w3 ⟨hb3,g,cap,rfl,hm3,hc3⟩;have bX3:=bX.drew.below hb3 bX.lt;obtain⟨x2,x3⟩:=bX3.two)
   | ((with_reducible refine((callsIn_wide (n:=2)).2 (HR.out (w2.alloc (.cells #[.int .i64 17] 3)).drew)).mono ?_);rintro e w3 ⟨hb3,g,cap,rfl,hm3,hc3⟩;have bL:=(Blk.new w2 3 #[.int .i64 17]).drew;have bL3:=bL.below hb3 bL.lt)
   | fail))
  | (gi_at_call 93;(first
   | ((with_reducible refine(HOL.out _ g cap w3 hc3 hm3 hb3.size).mono ?_);rintro e w5 ⟨rfl,hb5,hi5,hl5⟩;have hB5:=hB3.drew.trans ((hb3.trans hb5).mono hB3.drew.size);obtain⟨fn,tmps,assign,body,hy,hR⟩:=HYY.out _ _ _ hB5 hi5 (fun ad e=>by cases e;exact Nat.le_trans hB3.drew.size hm3.ge) hl5)
   | ((with_reducible refine(HOE.out _ g w2.heap.size cap w3 hc3 hm3 hb3.size bL3 (Nat.ne_of_lt (Nat.lt_of_lt_of_le bL.lt hm3.ge))).mono ?_);rintro e w5 ⟨rfl,hb5,hi5,hl5⟩;have hB5:=(hB3.alloc hB3.size _).drew.trans ((hb3.trans hb5).mono (hB3.alloc hB3.size (.cells #[.int .i64 17] 3)).drew.size);obtain⟨fn,tmps,assign,body,hy,hR⟩:=HYY.out _ _ _ hB5 hi5 (fun ad e=>by cases e;exact Nat.le_trans (hB3.alloc hB3.size (.cells #[.int .i64 17] 3)).drew.size hm3.ge) hl5)
   | fail))
  | ((with_reducible refine hR.mono ?_);rintro e W6 ⟨q,rfl,hq⟩)
  | fail)
 all_goals gi_wp2
 all_goals go_end0
 all_goals refine⟨⟨_,rfl⟩,W6,Below.refl _ _,?_⟩
 all_goals (cases q;exact .inr ⟨_,(by rw [HO.out];exact List.prefix_refl _),hq.2 rfl⟩;exact .inl (by rw [HO.out];exact hq.1 rfl))
end Go.Proofs.YtodejloonfkkmaaGreat.Cat
