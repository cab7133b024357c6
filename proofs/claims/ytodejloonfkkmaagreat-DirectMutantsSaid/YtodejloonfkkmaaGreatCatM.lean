/-
  Package catalog, walked: the operators that are offered at a node, told to a loop's body: Bool.
  Package catalog, walked: the operators that are offered at a node, told to a loop's body: Int.
-/
import Derived.Test.YtodejloonfkkmaaGreatCatI
set_option maxRecDepth 100000
set_option maxHeartbeats 4000000
set_option linter.unusedVariables false
namespace Go.Proofs.YtodejloonfkkmaaGreat.Cat
open Go.RowKit Go.Shelf Mem Arena Delta Path
attribute [local go_sem] Oper.semAt_some
theorem Mine.lt{w:World}{B g:Nat}{zs:List Int}(h:Mine w B g zs):g<w.heap.size:=h.2.1
theorem step_two{F:Fence}{n:Nat}{ops:Array Oper}{o:Oper}{a:Act}{w:World}{K:Act→World→Prop}{Q:Exit→Act→World→Prop}{E:Prop}(hgd:o.guard=none)(s x:Operand)
  (ho:o.op=.call { callee:=.builtin .append,args:=#[s,x],argTypes:=#[22,22] })
  (base:Nat) (hbase:base≤w.heap.size) (v:Value) (ys:List Int) (hs:a.eval s=v) (hown:w.ownsRow base 3 1 v ys.length (icells ys))
  (g0:Nat) (hx:a.eval x=.slice (some ⟨g0,0,none⟩) 2 2) (bL:Blk w g0 3 #[.int .i64 0,.int .i64 1]) (hlen:ys.length≤100) (k:Nat) (hk:ys.length+2=k)
  (h:∀ g cap w',Mine w' base g (ys++[0,1])→k≤cap→w.grownBy w' v.ownBlock→(v.ownBlock=some g∨g=w.heap.size)→K (a.put o.dst (.slice (some ⟨g,0,none⟩) k cap)) w') :
  if Region.wanted o (yielded ops a.tmps)=true then Oper.wpIn F n Tryz.prog o a w K Q else E:=by
 subst hk
 have hw:Region.wanted o (yielded ops a.tmps)=true:=by simp [Region.wanted,hgd]
 rw [if_pos hw]
 obtain⟨ig,hig,hz0,hz1,hz2⟩:=info_parts info_int
 obtain⟨g,cap,w',hr,h2,h3,h4,h5⟩:=run_append_lies (P:=Tryz.prog) w 22 o.type base 3 ig _ 1 8 Tryz.underlying22 hig hz0 hz1 hz2 rfl (by decide) v ys.length (icells ys) hown ⟨g0,0,none⟩ 2 2 (icells [0,1]) rfl
  (World.news_of_block (cs:=#[.int .i64 0,.int .i64 1]) (t:=3) bL) (by intro u hu;simp [icells] at hu;rcases hu with rfl | rfl<;>rfl) (by decide) (by simp only [maxLen];omega) (by omega) hbase _ rfl
 unfold Oper.wpIn
 refine⟨by simp [Oper.about,ho,resolve,Target.leads],?_⟩
 rw [Oper.semAt_plain F _ _ (by rw [ho];intro c hc;cases hc)]
 unfold execOp
 simp only [ho,resolve,invoke,builtin,Sem.run_bind,Sem.run_pure,Result.andThen_ok,List.map_toArray,List.map_cons,List.map_nil,hs,hx,hr]
 have e:(ys++[0,1]).length=ys.length+2:=by simp
 rw [← icells_add,← e] at h2
 obtain⟨m,hc⟩:=mine_of_own h2
 refine h g cap w' m (by rw [e] at hc;exact hc) h3 h4
theorem offers1_2(HOt:OthP)(lp Bl Ba:Nat)(A:Option Addr)(c:Nat)(l:List Nd)(k m:Nat)(hs:scan 1 (l.drop k)=some m)(hl:l.length≤10000000000000)(hlt:k<l.length)(he:aend l k=(k:Int)+m)(v:Int)(y:Nd)
  (J Stop:List (Int×List Int)→World→Prop) (W:World) (h0:J [] W) (hC:Caught Bl Ba A c l k W) (hn:l[k]? = some (2,v)) (hY:Feeds lp (offs (2,v) y) J Stop) :
  CallsIn Fence.wide 3 Tryz.prog 92 #[.func (.yield lp) #[] #[],.pointer (some ⟨Bl,0,none⟩),.pointer (some ⟨Ba,0,none⟩)] W (OffEnds (offs (2,v) y) J Stop):=by
 have HE:=Lib.hid (fun W h=>End_anyL A c l k W h hl)
 rw [he] at HE
 have j2:¬ (k:Int)+(m:Int)<0:=by omega
 have j5:(k:Int)<(l.length:Int):=by omega
 have j6:(0:Int)≤(k:Int):=by omega
 obtain⟨c1,c2,c3,c4,hx⟩:=id hC
 have HC:=Lib.hid hC
 have HX:=Lib.hid hx
 have HN:=Lib.hid hn
 have H0:=Lib.hid h0
 have HO:=Lib.hid (show offs (2,v) y=[(4,oth [0,1] [v])] from rfl)
 have hf0:Fence.wide.fn 51:=trivial
 have hf1:Fence.wide.fn 94:=trivial
 have hf2:Fence.wide.fn 93:=trivial
 clear hC hx hn h0 he hs
 refine callsIn_of_wp Tryz.func92 rfl trivial ?_ rfl
 simp only [Tryz.ntmps92,List.size_toArray,List.length_cons,List.length_nil,Nat.reduceAdd,Nat.reduceSub,Array.replicate_succ,Array.replicate_zero,List.push_toArray,List.append_toArray,List.nil_append,List.cons_append]
 gi_upto_region 28 with(first
  | (gi_at_call 51;refine((callsIn_wide (n:=2)).2 (HE.out _ HX.out)).mono ?_;rintro e w1 ⟨rfl,hb1⟩;have hC1:=HC.out.below hb1;obtain⟨d1,d2,d3,d4,hx1⟩:=id hC1;obtain⟨ad,q,hbk,g0,g1⟩:=hx1 k _ HN.out;cases q)
  | fail)
 have bX:=Blk.new w1 47 #[.int .i64 2,.int .i64 v]
 have hB2:Below w1.heap.size w1 (w1.alloc (.cells #[.int .i64 2,.int .i64 v] 47)):=(Below.refl _ _).alloc (Nat.le_refl _) _
 have hB3:=hb1.trans (hB2.mono hb1.size)
 obtain⟨b,hb⟩:∃ b,w1.heap.size=b:=⟨_,rfl⟩
 rw [hb] at bX hB2 ⊢
 have hbW:W.heap.size≤b:=hb▸hb1.size
 generalize w1.alloc (.cells #[.int .i64 2,.int .i64 v] 47)=w2 at *
 clear hC1 d1 d2 d3 d4 hx1 hbk g0 g1 c3 c4
 obtain⟨x0,x1⟩:=bX.two
 have hp1:[]++[(4,oth [0,1] [v])] <+: offs (2,v) y:=by rw [HO.out];exact List.prefix_refl _
 have HYY:=Lib.hid (fun A' c' W' h1 h2 h3 h4=>hY [] 4 (oth [0,1] [v]) A' c' W W' H0.out h1 h2 h3 h4 hp1)
 have HOE:=Lib.hid (fun B g h cap w h1 h2 h3 h4 h5=>oth_early (t:=v) (B:=B) (g:=g) (h:=h) (n:=2) (cap:=cap) (zs:=[0,1]) (w:=w) HOt rfl (by decide) (by decide) h1 h2 h3 h4 h5)
 clear hY hp1
 refine wpIn_region_any (by kernel_rfl) ?_
 change wpAnyIn _ _ _ _ _ _ _ _ _ (World.drew _)
 have bXd:=bX.drew
 have hBd:=hB3.drew
 have hOd:=World.ownsRow_nil w2.drew W.heap.size 3 1
 generalize w2.drew=u0 at *
 clear bX hB2 x0 x1
 refine wpAnyIn_take (i:=0) (oi:=⟨some 72,_,_,_,_,none⟩) (v:=?_) rfl rfl (by kernel_rfl) (by kernel_rfl) (by kernel_rfl) (fun _ _ _ h=>h) ⟨Or.inl ⟨by rfl,?_⟩,fun _=>rfl⟩ ?_
 rotate_left
 ·intro w;go_simp;try with_reducible rfl
 try simp only [Act.put,List.setIfInBounds_toArray,List.set_cons_zero,List.set_cons_succ]
 refine wpAnyIn_take (i:=1) (oi:=⟨some 73,_,_,_,_,none⟩) (v:=?_) rfl rfl (by kernel_rfl) (by kernel_rfl) (by kernel_rfl) (fun _ _ _ h=>h) ⟨Or.inl ⟨by rfl,?_⟩,fun _=>rfl⟩ ?_
 rotate_left
 ·intro w;go_simp;try with_reducible rfl
 try simp only [Act.put,List.setIfInBounds_toArray,List.set_cons_zero,List.set_cons_succ]
 refine wpAnyIn_take (i:=4) (oi:=⟨some 76,_,_,_,_,none⟩) (v:=?_) rfl rfl (by kernel_rfl) (by kernel_rfl) (by kernel_rfl) (fun _ _ _ h=>h) ⟨Or.inl ⟨by rfl,?_⟩,fun _=>rfl⟩ ?_
 rotate_left
 ·intro w;go_simp;try with_reducible rfl
 try simp only [Act.put,List.setIfInBounds_toArray,List.set_cons_zero,List.set_cons_succ]
 refine wpAnyIn_ready (rs:=[2,5]) (by kernel_rfl) (by simp) ?_
 refine(AllReadyIn.cons (o:=⟨some 74,_,_,_,_,none⟩) rfl (fun K hK=>?_) (AllReadyIn.cons (o:=⟨some 77,_,_,_,_,none⟩) rfl (fun K hK=>?_) AllReadyIn.nil))
 ·go_simp
  have bXu1:=(bXd).alloc (.cells #[.int .i64 0,.int .i64 1] 3)
  have hOu1:=(hOd).alloc (.cells #[.int .i64 0,.int .i64 1] 3)
  have hBu1:=(hBd).alloc (hBd).size (.cells #[.int .i64 0,.int .i64 1] 3)
  have bEu1:=Blk.new u0 3 #[.int .i64 0,.int .i64 1]
  refine hK _ _ ?_
  clear hK K
  try simp only [Act.put,List.setIfInBounds_toArray,List.set_cons_zero,List.set_cons_succ]
  obtain⟨u1,eu1⟩:∃ x,u0.alloc (.cells #[.int .i64 0,.int .i64 1] 3)=x:=⟨_,rfl⟩
  rw [eu1] at bXu1 hOu1 hBu1 bEu1 ⊢
  clear eu1
  refine wpAnyIn_ready (rs:=[3,5]) (by kernel_rfl) (by simp) ?_
  refine(AllReadyIn.cons (o:=⟨some 75,_,_,_,_,none⟩) rfl (fun K hK=>?_) (AllReadyIn.cons (o:=⟨some 77,_,_,_,_,none⟩) rfl (fun K hK=>?_) AllReadyIn.nil))
  ·refine step_two rfl _ _ rfl W.heap.size (hBu1).size _ [] rfl hOu1 _ rfl bEu1 (by simp) 2 rfl ?_
   intro g cap u2 hmu2 hcu2 hgu2 hatu2
   replace hmu2:Mine u2 W.heap.size g [0,1]:=hmu2
   have bXu2:=(bXu1).grown hgu2 (fun e=>by cases e)
   have hBu2:=(hBu1).grown hgu2 (hBu1).size (fun k e=>((hOu1).lt k e).1)
   clear hgu2 hatu2
   refine hK _ _ ?_
   clear hK K
   try simp only [Act.put,List.setIfInBounds_toArray,List.set_cons_zero,List.set_cons_succ]
   refine wpAnyIn_ready (rs:=[5]) (by kernel_rfl) (by simp) ?_
   refine(AllReadyIn.cons (o:=⟨some 77,_,_,_,_,none⟩) rfl (fun K hK=>?_) AllReadyIn.nil)
   obtain⟨y0u3,y1u3⟩:=(bXu2).two
   go_simp
   clear y0u3 y1u3
   refine hK _ _ ?_
   clear hK K
   try simp only [Act.put,List.setIfInBounds_toArray,List.set_cons_zero,List.set_cons_succ]
   refine wpAnyIn_ready (rs:=[6]) (by kernel_rfl) (by simp) ?_
   refine(AllReadyIn.cons (o:=⟨some 78,_,_,_,_,none⟩) rfl (fun K hK=>?_) AllReadyIn.nil)
   go_simp
   have bXu4:=(bXu2).alloc (.cells #[.int .i64 v] 3)
   have hmu4:=(hmu2).below ((Below.refl u2.heap.size u2).alloc (Nat.le_refl _) (.cells #[.int .i64 v] 3)) (hmu2).2.1
   have hBu4:=(hBu2).alloc (hBu2).size (.cells #[.int .i64 v] 3)
   have bCu4:=Blk.new u2 3 #[.int .i64 v]
   refine hK _ _ ?_
   clear hK K
   try simp only [Act.put,List.setIfInBounds_toArray,List.set_cons_zero,List.set_cons_succ]
   obtain⟨u4,eu4⟩:∃ x,u2.alloc (.cells #[.int .i64 v] 3)=x:=⟨_,rfl⟩
   rw [eu4] at bXu4 hmu4 hBu4 bCu4 ⊢
   clear eu4
   refine wpAnyIn_ready (rs:=[7]) (by kernel_rfl) (by simp) ?_
   refine AllReadyIn.cons (o:=⟨some 79,_,_,_,_,none⟩) rfl (fun K hK=>?_) AllReadyIn.nil
   go_simp
   gi_at_call 93
   with_reducible refine(HOE.out W.heap.size g _ cap u4 hcu2 hmu4 (hBu4).size bCu4 (Nat.ne_of_gt (hmu2).lt)).mono ?_
   rintro e w5 ⟨rfl,hb5,hi5,hl5⟩
   have hB5:=(hBu4).trans hb5
   obtain⟨fn,tmps,assign,body,hy,hR⟩:=HYY.out _ _ _ hB5 hi5 (fun ad e=>by cases e;exact(hmu4).ge) hl5
   gi_wp2
   try simp only [Act.put,List.setIfInBounds_toArray,List.set_cons_zero,List.set_cons_succ]
   refine wpAnyIn_ready (rs:=[8]) (by kernel_rfl) (by simp) ?_
   refine AllReadyIn.cons (o:=⟨some 80,_,_,_,_,none⟩) rfl (fun K hK=>?_) AllReadyIn.nil
   go_simp
   refine hR.mono ?_
   rintro e W6 ⟨q,rfl,hq⟩
   gi_wp2
   try simp only [Act.put,List.setIfInBounds_toArray,List.set_cons_zero,List.set_cons_succ]
   refine wpAnyIn_done (by kernel_rfl) ?_ _
   gi_wp2
   go_end0
   refine⟨⟨_,rfl⟩,W6,Below.refl _ _,?_⟩
   cases q
   ·exact .inr ⟨_,(by rw [HO.out];exact List.prefix_refl _),hq.2 rfl⟩
   ·exact .inl (by rw [HO.out];exact hq.1 rfl)
  ·obtain⟨y0u5,y1u5⟩:=(bXu1).two
   go_simp
   clear y0u5 y1u5
   refine hK _ _ ?_
   clear hK K
   try simp only [Act.put,List.setIfInBounds_toArray,List.set_cons_zero,List.set_cons_succ]
   refine wpAnyIn_ready (rs:=[3,6]) (by kernel_rfl) (by simp) ?_
   refine(AllReadyIn.cons (o:=⟨some 75,_,_,_,_,none⟩) rfl (fun K hK=>?_) (AllReadyIn.cons (o:=⟨some 78,_,_,_,_,none⟩) rfl (fun K hK=>?_) AllReadyIn.nil))
   ·refine step_two rfl _ _ rfl W.heap.size (hBu1).size _ [] rfl hOu1 _ rfl bEu1 (by simp) 2 rfl ?_
    intro g cap u6 hmu6 hcu6 hgu6 hatu6
    replace hmu6:Mine u6 W.heap.size g [0,1]:=hmu6
    have bXu6:=(bXu1).grown hgu6 (fun e=>by cases e)
    have hBu6:=(hBu1).grown hgu6 (hBu1).size (fun k e=>((hOu1).lt k e).1)
    clear hgu6 hatu6
    refine hK _ _ ?_
    clear hK K
    try simp only [Act.put,List.setIfInBounds_toArray,List.set_cons_zero,List.set_cons_succ]
    refine wpAnyIn_ready (rs:=[6]) (by kernel_rfl) (by simp) ?_
    refine(AllReadyIn.cons (o:=⟨some 78,_,_,_,_,none⟩) rfl (fun K hK=>?_) AllReadyIn.nil)
    go_simp
    have bXu7:=(bXu6).alloc (.cells #[.int .i64 v] 3)
    have hmu7:=(hmu6).below ((Below.refl u6.heap.size u6).alloc (Nat.le_refl _) (.cells #[.int .i64 v] 3)) (hmu6).2.1
    have hBu7:=(hBu6).alloc (hBu6).size (.cells #[.int .i64 v] 3)
    have bCu7:=Blk.new u6 3 #[.int .i64 v]
    refine hK _ _ ?_
    clear hK K
    try simp only [Act.put,List.setIfInBounds_toArray,List.set_cons_zero,List.set_cons_succ]
    obtain⟨u7,eu7⟩:∃ x,u6.alloc (.cells #[.int .i64 v] 3)=x:=⟨_,rfl⟩
    rw [eu7] at bXu7 hmu7 hBu7 bCu7 ⊢
    clear eu7
    refine wpAnyIn_ready (rs:=[7]) (by kernel_rfl) (by simp) ?_
    refine AllReadyIn.cons (o:=⟨some 79,_,_,_,_,none⟩) rfl (fun K hK=>?_) AllReadyIn.nil
    go_simp
    gi_at_call 93
    with_reducible refine(HOE.out W.heap.size g _ cap u7 hcu6 hmu7 (hBu7).size bCu7 (Nat.ne_of_gt (hmu6).lt)).mono ?_
    rintro e w5 ⟨rfl,hb5,hi5,hl5⟩
    have hB5:=(hBu7).trans hb5
    obtain⟨fn,tmps,assign,body,hy,hR⟩:=HYY.out _ _ _ hB5 hi5 (fun ad e=>by cases e;exact(hmu7).ge) hl5
    gi_wp2
    try simp only [Act.put,List.setIfInBounds_toArray,List.set_cons_zero,List.set_cons_succ]
    refine wpAnyIn_ready (rs:=[8]) (by kernel_rfl) (by simp) ?_
    refine AllReadyIn.cons (o:=⟨some 80,_,_,_,_,none⟩) rfl (fun K hK=>?_) AllReadyIn.nil
    go_simp
    refine hR.mono ?_
    rintro e W6 ⟨q,rfl,hq⟩
    gi_wp2
    try simp only [Act.put,List.setIfInBounds_toArray,List.set_cons_zero,List.set_cons_succ]
    refine wpAnyIn_done (by kernel_rfl) ?_ _
    gi_wp2
    go_end0
    refine⟨⟨_,rfl⟩,W6,Below.refl _ _,?_⟩
    cases q
    ·exact .inr ⟨_,(by rw [HO.out];exact List.prefix_refl _),hq.2 rfl⟩
    ·exact .inl (by rw [HO.out];exact hq.1 rfl)
   ·go_simp
    have bXu8:=(bXu1).alloc (.cells #[.int .i64 v] 3)
    have bEu8:=(bEu1).alloc (.cells #[.int .i64 v] 3)
    have hOu8:=(hOu1).alloc (.cells #[.int .i64 v] 3)
    have hBu8:=(hBu1).alloc (hBu1).size (.cells #[.int .i64 v] 3)
    have bCu8:=Blk.new u1 3 #[.int .i64 v]
    refine hK _ _ ?_
    clear hK K
    try simp only [Act.put,List.setIfInBounds_toArray,List.set_cons_zero,List.set_cons_succ]
    obtain⟨u8,eu8⟩:∃ x,u1.alloc (.cells #[.int .i64 v] 3)=x:=⟨_,rfl⟩
    rw [eu8] at bXu8 bEu8 hOu8 hBu8 bCu8 ⊢
    clear eu8
    refine wpAnyIn_ready (rs:=[3]) (by kernel_rfl) (by simp) ?_
    refine(AllReadyIn.cons (o:=⟨some 75,_,_,_,_,none⟩) rfl (fun K hK=>?_) AllReadyIn.nil)
    refine step_two rfl _ _ rfl W.heap.size (hBu8).size _ [] rfl hOu8 _ rfl bEu8 (by simp) 2 rfl ?_
    intro g cap u9 hmu9 hcu9 hgu9 hatu9
    replace hmu9:Mine u9 W.heap.size g [0,1]:=hmu9
    have bXu9:=(bXu8).grown hgu9 (fun e=>by cases e)
    have hBu9:=(hBu8).grown hgu9 (hBu8).size (fun k e=>((hOu8).lt k e).1)
    have bCu9:=(bCu8).grown hgu9 (fun e=>by cases e)
    have neu9:u1.heap.size≠g:=fun e=>(hatu9.elim (fun q=>by cases q) (fun q=>Nat.ne_of_lt (bCu8).lt (e.trans q)))
    clear hgu9 hatu9
    refine hK _ _ ?_
    clear hK K
    try simp only [Act.put,List.setIfInBounds_toArray,List.set_cons_zero,List.set_cons_succ]
    refine wpAnyIn_ready (rs:=[7]) (by kernel_rfl) (by simp) ?_
    refine AllReadyIn.cons (o:=⟨some 79,_,_,_,_,none⟩) rfl (fun K hK=>?_) AllReadyIn.nil
    go_simp
    gi_at_call 93
    with_reducible refine(HOE.out W.heap.size g _ cap u9 hcu9 hmu9 (hBu9).size bCu9 neu9).mono ?_
    rintro e w5 ⟨rfl,hb5,hi5,hl5⟩
    have hB5:=(hBu9).trans hb5
    obtain⟨fn,tmps,assign,body,hy,hR⟩:=HYY.out _ _ _ hB5 hi5 (fun ad e=>by cases e;exact(hmu9).ge) hl5
    gi_wp2
    try simp only [Act.put,List.setIfInBounds_toArray,List.set_cons_zero,List.set_cons_succ]
    refine wpAnyIn_ready (rs:=[8]) (by kernel_rfl) (by simp) ?_
    refine AllReadyIn.cons (o:=⟨some 80,_,_,_,_,none⟩) rfl (fun K hK=>?_) AllReadyIn.nil
    go_simp
    refine hR.mono ?_
    rintro e W6 ⟨q,rfl,hq⟩
    gi_wp2
    try simp only [Act.put,List.setIfInBounds_toArray,List.set_cons_zero,List.set_cons_succ]
    refine wpAnyIn_done (by kernel_rfl) ?_ _
    gi_wp2
    go_end0
    refine⟨⟨_,rfl⟩,W6,Below.refl _ _,?_⟩
    cases q
    ·exact .inr ⟨_,(by rw [HO.out];exact List.prefix_refl _),hq.2 rfl⟩
    ·exact .inl (by rw [HO.out];exact hq.1 rfl)
 ·obtain⟨y0u10,y1u10⟩:=(bXd).two
  go_simp
  clear y0u10 y1u10
  refine hK _ _ ?_
  clear hK K
  try simp only [Act.put,List.setIfInBounds_toArray,List.set_cons_zero,List.set_cons_succ]
  refine wpAnyIn_ready (rs:=[2,6]) (by kernel_rfl) (by simp) ?_
  refine(AllReadyIn.cons (o:=⟨some 74,_,_,_,_,none⟩) rfl (fun K hK=>?_) (AllReadyIn.cons (o:=⟨some 78,_,_,_,_,none⟩) rfl (fun K hK=>?_) AllReadyIn.nil))
  ·go_simp
   have bXu11:=(bXd).alloc (.cells #[.int .i64 0,.int .i64 1] 3)
   have hOu11:=(hOd).alloc (.cells #[.int .i64 0,.int .i64 1] 3)
   have hBu11:=(hBd).alloc (hBd).size (.cells #[.int .i64 0,.int .i64 1] 3)
   have bEu11:=Blk.new u0 3 #[.int .i64 0,.int .i64 1]
   refine hK _ _ ?_
   clear hK K
   try simp only [Act.put,List.setIfInBounds_toArray,List.set_cons_zero,List.set_cons_succ]
   obtain⟨u11,eu11⟩:∃ x,u0.alloc (.cells #[.int .i64 0,.int .i64 1] 3)=x:=⟨_,rfl⟩
   rw [eu11] at bXu11 hOu11 hBu11 bEu11 ⊢
   clear eu11
   refine wpAnyIn_ready (rs:=[3,6]) (by kernel_rfl) (by simp) ?_
   refine(AllReadyIn.cons (o:=⟨some 75,_,_,_,_,none⟩) rfl (fun K hK=>?_) (AllReadyIn.cons (o:=⟨some 78,_,_,_,_,none⟩) rfl (fun K hK=>?_) AllReadyIn.nil))
   ·refine step_two rfl _ _ rfl W.heap.size (hBu11).size _ [] rfl hOu11 _ rfl bEu11 (by simp) 2 rfl ?_
    intro g cap u12 hmu12 hcu12 hgu12 hatu12
    replace hmu12:Mine u12 W.heap.size g [0,1]:=hmu12
    have bXu12:=(bXu11).grown hgu12 (fun e=>by cases e)
    have hBu12:=(hBu11).grown hgu12 (hBu11).size (fun k e=>((hOu11).lt k e).1)
    clear hgu12 hatu12
    refine hK _ _ ?_
    clear hK K
    try simp only [Act.put,List.setIfInBounds_toArray,List.set_cons_zero,List.set_cons_succ]
    refine wpAnyIn_ready (rs:=[6]) (by kernel_rfl) (by simp) ?_
    refine(AllReadyIn.cons (o:=⟨some 78,_,_,_,_,none⟩) rfl (fun K hK=>?_) AllReadyIn.nil)
    go_simp
    have bXu13:=(bXu12).alloc (.cells #[.int .i64 v] 3)
    have hmu13:=(hmu12).below ((Below.refl u12.heap.size u12).alloc (Nat.le_refl _) (.cells #[.int .i64 v] 3)) (hmu12).2.1
    have hBu13:=(hBu12).alloc (hBu12).size (.cells #[.int .i64 v] 3)
    have bCu13:=Blk.new u12 3 #[.int .i64 v]
    refine hK _ _ ?_
    clear hK K
    try simp only [Act.put,List.setIfInBounds_toArray,List.set_cons_zero,List.set_cons_succ]
    obtain⟨u13,eu13⟩:∃ x,u12.alloc (.cells #[.int .i64 v] 3)=x:=⟨_,rfl⟩
    rw [eu13] at bXu13 hmu13 hBu13 bCu13 ⊢
    clear eu13
    refine wpAnyIn_ready (rs:=[7]) (by kernel_rfl) (by simp) ?_
    refine AllReadyIn.cons (o:=⟨some 79,_,_,_,_,none⟩) rfl (fun K hK=>?_) AllReadyIn.nil
    go_simp
    gi_at_call 93
    with_reducible refine(HOE.out W.heap.size g _ cap u13 hcu12 hmu13 (hBu13).size bCu13 (Nat.ne_of_gt (hmu12).lt)).mono ?_
    rintro e w5 ⟨rfl,hb5,hi5,hl5⟩
    have hB5:=(hBu13).trans hb5
    obtain⟨fn,tmps,assign,body,hy,hR⟩:=HYY.out _ _ _ hB5 hi5 (fun ad e=>by cases e;exact(hmu13).ge) hl5
    gi_wp2
    try simp only [Act.put,List.setIfInBounds_toArray,List.set_cons_zero,List.set_cons_succ]
    refine wpAnyIn_ready (rs:=[8]) (by kernel_rfl) (by simp) ?_
    refine AllReadyIn.cons (o:=⟨some 80,_,_,_,_,none⟩) rfl (fun K hK=>?_) AllReadyIn.nil
    go_simp
    refine hR.mono ?_
    rintro e W6 ⟨q,rfl,hq⟩
    gi_wp2
    try simp only [Act.put,List.setIfInBounds_toArray,List.set_cons_zero,List.set_cons_succ]
    refine wpAnyIn_done (by kernel_rfl) ?_ _
    gi_wp2
    go_end0
    refine⟨⟨_,rfl⟩,W6,Below.refl _ _,?_⟩
    cases q
    ·exact .inr ⟨_,(by rw [HO.out];exact List.prefix_refl _),hq.2 rfl⟩
    ·exact .inl (by rw [HO.out];exact hq.1 rfl)
   ·go_simp
    have bXu14:=(bXu11).alloc (.cells #[.int .i64 v] 3)
    have bEu14:=(bEu11).alloc (.cells #[.int .i64 v] 3)
    have hOu14:=(hOu11).alloc (.cells #[.int .i64 v] 3)
    have hBu14:=(hBu11).alloc (hBu11).size (.cells #[.int .i64 v] 3)
    have bCu14:=Blk.new u11 3 #[.int .i64 v]
    refine hK _ _ ?_
    clear hK K
    try simp only [Act.put,List.setIfInBounds_toArray,List.set_cons_zero,List.set_cons_succ]
    obtain⟨u14,eu14⟩:∃ x,u11.alloc (.cells #[.int .i64 v] 3)=x:=⟨_,rfl⟩
    rw [eu14] at bXu14 bEu14 hOu14 hBu14 bCu14 ⊢
    clear eu14
    refine wpAnyIn_ready (rs:=[3]) (by kernel_rfl) (by simp) ?_
    refine(AllReadyIn.cons (o:=⟨some 75,_,_,_,_,none⟩) rfl (fun K hK=>?_) AllReadyIn.nil)
    refine step_two rfl _ _ rfl W.heap.size (hBu14).size _ [] rfl hOu14 _ rfl bEu14 (by simp) 2 rfl ?_
    intro g cap u15 hmu15 hcu15 hgu15 hatu15
    replace hmu15:Mine u15 W.heap.size g [0,1]:=hmu15
    have bXu15:=(bXu14).grown hgu15 (fun e=>by cases e)
    have hBu15:=(hBu14).grown hgu15 (hBu14).size (fun k e=>((hOu14).lt k e).1)
    have bCu15:=(bCu14).grown hgu15 (fun e=>by cases e)
    have neu15:u11.heap.size≠g:=fun e=>(hatu15.elim (fun q=>by cases q) (fun q=>Nat.ne_of_lt (bCu14).lt (e.trans q)))
    clear hgu15 hatu15
    refine hK _ _ ?_
    clear hK K
    try simp only [Act.put,List.setIfInBounds_toArray,List.set_cons_zero,List.set_cons_succ]
    refine wpAnyIn_ready (rs:=[7]) (by kernel_rfl) (by simp) ?_
    refine AllReadyIn.cons (o:=⟨some 79,_,_,_,_,none⟩) rfl (fun K hK=>?_) AllReadyIn.nil
    go_simp
    gi_at_call 93
    with_reducible refine(HOE.out W.heap.size g _ cap u15 hcu15 hmu15 (hBu15).size bCu15 neu15).mono ?_
    rintro e w5 ⟨rfl,hb5,hi5,hl5⟩
    have hB5:=(hBu15).trans hb5
    obtain⟨fn,tmps,assign,body,hy,hR⟩:=HYY.out _ _ _ hB5 hi5 (fun ad e=>by cases e;exact(hmu15).ge) hl5
    gi_wp2
    try simp only [Act.put,List.setIfInBounds_toArray,List.set_cons_zero,List.set_cons_succ]
    refine wpAnyIn_ready (rs:=[8]) (by kernel_rfl) (by simp) ?_
    refine AllReadyIn.cons (o:=⟨some 80,_,_,_,_,none⟩) rfl (fun K hK=>?_) AllReadyIn.nil
    go_simp
    refine hR.mono ?_
    rintro e W6 ⟨q,rfl,hq⟩
    gi_wp2
    try simp only [Act.put,List.setIfInBounds_toArray,List.set_cons_zero,List.set_cons_succ]
    refine wpAnyIn_done (by kernel_rfl) ?_ _
    gi_wp2
    go_end0
    refine⟨⟨_,rfl⟩,W6,Below.refl _ _,?_⟩
    cases q
    ·exact .inr ⟨_,(by rw [HO.out];exact List.prefix_refl _),hq.2 rfl⟩
    ·exact .inl (by rw [HO.out];exact hq.1 rfl)
  ·go_simp
   have bXu16:=(bXd).alloc (.cells #[.int .i64 v] 3)
   have hOu16:=(hOd).alloc (.cells #[.int .i64 v] 3)
   have hBu16:=(hBd).alloc (hBd).size (.cells #[.int .i64 v] 3)
   have bCu16:=Blk.new u0 3 #[.int .i64 v]
   refine hK _ _ ?_
   clear hK K
   try simp only [Act.put,List.setIfInBounds_toArray,List.set_cons_zero,List.set_cons_succ]
   obtain⟨u16,eu16⟩:∃ x,u0.alloc (.cells #[.int .i64 v] 3)=x:=⟨_,rfl⟩
   rw [eu16] at bXu16 hOu16 hBu16 bCu16 ⊢
   clear eu16
   refine wpAnyIn_ready (rs:=[2]) (by kernel_rfl) (by simp) ?_
   refine(AllReadyIn.cons (o:=⟨some 74,_,_,_,_,none⟩) rfl (fun K hK=>?_) AllReadyIn.nil)
   go_simp
   have bXu17:=(bXu16).alloc (.cells #[.int .i64 0,.int .i64 1] 3)
   have bCu17:=(bCu16).alloc (.cells #[.int .i64 0,.int .i64 1] 3)
   have hOu17:=(hOu16).alloc (.cells #[.int .i64 0,.int .i64 1] 3)
   have hBu17:=(hBu16).alloc (hBu16).size (.cells #[.int .i64 0,.int .i64 1] 3)
   have bEu17:=Blk.new u16 3 #[.int .i64 0,.int .i64 1]
   refine hK _ _ ?_
   clear hK K
   try simp only [Act.put,List.setIfInBounds_toArray,List.set_cons_zero,List.set_cons_succ]
   obtain⟨u17,eu17⟩:∃ x,u16.alloc (.cells #[.int .i64 0,.int .i64 1] 3)=x:=⟨_,rfl⟩
   rw [eu17] at bXu17 bCu17 hOu17 hBu17 bEu17 ⊢
   clear eu17
   refine wpAnyIn_ready (rs:=[3]) (by kernel_rfl) (by simp) ?_
   refine(AllReadyIn.cons (o:=⟨some 75,_,_,_,_,none⟩) rfl (fun K hK=>?_) AllReadyIn.nil)
   refine step_two rfl _ _ rfl W.heap.size (hBu17).size _ [] rfl hOu17 _ rfl bEu17 (by simp) 2 rfl ?_
   intro g cap u18 hmu18 hcu18 hgu18 hatu18
   replace hmu18:Mine u18 W.heap.size g [0,1]:=hmu18
   have bXu18:=(bXu17).grown hgu18 (fun e=>by cases e)
   have hBu18:=(hBu17).grown hgu18 (hBu17).size (fun k e=>((hOu17).lt k e).1)
   have bCu18:=(bCu17).grown hgu18 (fun e=>by cases e)
   have neu18:u0.heap.size≠g:=fun e=>(hatu18.elim (fun q=>by cases q) (fun q=>Nat.ne_of_lt (bCu17).lt (e.trans q)))
   clear hgu18 hatu18
   refine hK _ _ ?_
   clear hK K
   try simp only [Act.put,List.setIfInBounds_toArray,List.set_cons_zero,List.set_cons_succ]
   refine wpAnyIn_ready (rs:=[7]) (by kernel_rfl) (by simp) ?_
   refine AllReadyIn.cons (o:=⟨some 79,_,_,_,_,none⟩) rfl (fun K hK=>?_) AllReadyIn.nil
   go_simp
   gi_at_call 93
   with_reducible refine(HOE.out W.heap.size g _ cap u18 hcu18 hmu18 (hBu18).size bCu18 neu18).mono ?_
   rintro e w5 ⟨rfl,hb5,hi5,hl5⟩
   have hB5:=(hBu18).trans hb5
   obtain⟨fn,tmps,assign,body,hy,hR⟩:=HYY.out _ _ _ hB5 hi5 (fun ad e=>by cases e;exact(hmu18).ge) hl5
   gi_wp2
   try simp only [Act.put,List.setIfInBounds_toArray,List.set_cons_zero,List.set_cons_succ]
   refine wpAnyIn_ready (rs:=[8]) (by kernel_rfl) (by simp) ?_
   refine AllReadyIn.cons (o:=⟨some 80,_,_,_,_,none⟩) rfl (fun K hK=>?_) AllReadyIn.nil
   go_simp
   refine hR.mono ?_
   rintro e W6 ⟨q,rfl,hq⟩
   gi_wp2
   try simp only [Act.put,List.setIfInBounds_toArray,List.set_cons_zero,List.set_cons_succ]
   refine wpAnyIn_done (by kernel_rfl) ?_ _
   gi_wp2
   go_end0
   refine⟨⟨_,rfl⟩,W6,Below.refl _ _,?_⟩
   cases q
   ·exact .inr ⟨_,(by rw [HO.out];exact List.prefix_refl _),hq.2 rfl⟩
   ·exact .inl (by rw [HO.out];exact hq.1 rfl)
theorem offers1_1(HOt:OthP)(lp Bl Ba:Nat)(A:Option Addr)(c:Nat)(l:List Nd)(k m:Nat)(hs:scan 1 (l.drop k)=some m)(hl:l.length≤10000000000000)(hlt:k<l.length)(he:aend l k=(k:Int)+m)(v:Int)(y:Nd)
  (J Stop:List (Int×List Int)→World→Prop) (W:World) (h0:J [] W) (hC:Caught Bl Ba A c l k W) (hn:l[k]? = some (1,v)) (hY:Feeds lp (offs (1,v) y) J Stop) :
  CallsIn Fence.wide 3 Tryz.prog 92 #[.func (.yield lp) #[] #[],.pointer (some ⟨Bl,0,none⟩),.pointer (some ⟨Ba,0,none⟩)] W (OffEnds (offs (1,v) y) J Stop):=by
 have HE:=Lib.hid (fun W h=>End_anyL A c l k W h hl)
 rw [he] at HE
 have j2:¬ (k:Int)+(m:Int)<0:=by omega
 have j5:(k:Int)<(l.length:Int):=by omega
 have j6:(0:Int)≤(k:Int):=by omega
 obtain⟨c1,c2,c3,c4,hx⟩:=id hC
 have HC:=Lib.hid hC
 have HX:=Lib.hid hx
 have HN:=Lib.hid hn
 have H0:=Lib.hid h0
 have HO:=Lib.hid (show offs (1,v) y=[(4,oth [-1,rnd (v+1),rnd (v-1),0,1] [v])] from rfl)
 have hf0:Fence.wide.fn 51:=trivial
 have hf1:Fence.wide.fn 94:=trivial
 have hf2:Fence.wide.fn 93:=trivial
 clear hC hx hn h0 he hs
 refine callsIn_of_wp Tryz.func92 rfl trivial ?_ rfl
 simp only [Tryz.ntmps92,List.size_toArray,List.length_cons,List.length_nil,Nat.reduceAdd,Nat.reduceSub,Array.replicate_succ,Array.replicate_zero,List.push_toArray,List.append_toArray,List.nil_append,List.cons_append]
 obtain⟨a1,ha1⟩:∃ a1,rnd (v+1)=a1:=⟨_,rfl⟩
 obtain⟨a2,ha2⟩:∃ a2,rnd (v-1)=a2:=⟨_,rfl⟩
 rw [ha1,ha2] at HO
 have ha3:IntKind.i64.wrap (v+1)=a1:=ha1
 have ha4:IntKind.i64.wrap (v-1)=a2:=ha2
 clear ha1 ha2
 gi_upto_region 27 with(first
  | (gi_at_call 51;refine((callsIn_wide (n:=2)).2 (HE.out _ HX.out)).mono ?_;rintro e w1 ⟨rfl,hb1⟩;have hC1:=HC.out.below hb1;obtain⟨d1,d2,d3,d4,hx1⟩:=id hC1;obtain⟨ad,q,hbk,g0,g1⟩:=hx1 k _ HN.out;cases q)
  | fail)
 have bX:=Blk.new w1 47 #[.int .i64 1,.int .i64 v]
 have hB2:Below w1.heap.size w1 (w1.alloc (.cells #[.int .i64 1,.int .i64 v] 47)):=(Below.refl _ _).alloc (Nat.le_refl _) _
 have hB3:=hb1.trans (hB2.mono hb1.size)
 obtain⟨b,hb⟩:∃ b,w1.heap.size=b:=⟨_,rfl⟩
 rw [hb] at bX hB2 ⊢
 have hbW:W.heap.size≤b:=hb▸hb1.size
 generalize w1.alloc (.cells #[.int .i64 1,.int .i64 v] 47)=w2 at *
 clear hC1 d1 d2 d3 d4 hx1 hbk g0 g1 c3 c4
 obtain⟨x0,x1⟩:=bX.two
 gi_upto_region 28 with fail
 have bXn:=bX.alloc (.cells #[.int .i64 (-1),.int .i64 a1,.int .i64 a2] 3)
 have hBn:=hB3.alloc hB3.size (.cells #[.int .i64 (-1),.int .i64 a1,.int .i64 a2] 3)
 have hOn:=World.ownsRow_lit (e:=3) (size:=1) (base:=W.heap.size) w2 #[.int .i64 (-1),.int .i64 a1,.int .i64 a2] 3 hB3.size (by simp [maxLen]) (by simp)
 have hbN:=bX.lt
 clear ha3 ha4
 have hp1:[]++[(4,oth [-1,a1,a2,0,1] [v])] <+: offs (1,v) y:=by rw [HO.out];exact List.prefix_refl _
 have HYY:=Lib.hid (fun A' c' W' h1 h2 h3 h4=>hY [] 4 (oth [-1,a1,a2,0,1] [v]) A' c' W W' H0.out h1 h2 h3 h4 hp1)
 have HOE:=Lib.hid (fun B g h cap w h1 h2 h3 h4 h5=>oth_early (t:=v) (B:=B) (g:=g) (h:=h) (n:=5) (cap:=cap) (zs:=[-1,a1,a2,0,1]) (w:=w) HOt rfl (by decide) (by decide) h1 h2 h3 h4 h5)
 clear hY hp1
 refine wpIn_region_any (by kernel_rfl) ?_
 change wpAnyIn _ _ _ _ _ _ _ _ _ (World.drew _)
 generalize w2.alloc (.cells #[.int .i64 (-1),.int .i64 a1,.int .i64 a2] 3)=wn at *
 have bXd:=bXn.drew
 have hBd:=hBn.drew
 have hOd:wn.drew.ownsRow W.heap.size 3 1 (.slice (some ⟨w2.heap.size,0,none⟩) 3 3) 3 (icells [-1,a1,a2]):=hOn
 generalize wn.drew=u0 at *
 clear bX hB2 x0 x1 bXn hBn hOn hB3
 refine wpAnyIn_take (i:=0) (oi:=⟨some 72,_,_,_,_,none⟩) (v:=?_) rfl rfl (by kernel_rfl) (by kernel_rfl) (by kernel_rfl) (fun _ _ _ h=>h) ⟨Or.inl ⟨by rfl,?_⟩,fun _=>rfl⟩ ?_
 rotate_left
 ·intro w;go_simp;try with_reducible rfl
 try simp only [Act.put,List.setIfInBounds_toArray,List.set_cons_zero,List.set_cons_succ]
 refine wpAnyIn_take (i:=1) (oi:=⟨some 73,_,_,_,_,none⟩) (v:=?_) rfl rfl (by kernel_rfl) (by kernel_rfl) (by kernel_rfl) (fun _ _ _ h=>h) ⟨Or.inl ⟨by rfl,?_⟩,fun _=>rfl⟩ ?_
 rotate_left
 ·intro w;go_simp;try with_reducible rfl
 try simp only [Act.put,List.setIfInBounds_toArray,List.set_cons_zero,List.set_cons_succ]
 refine wpAnyIn_take (i:=4) (oi:=⟨some 76,_,_,_,_,none⟩) (v:=?_) rfl rfl (by kernel_rfl) (by kernel_rfl) (by kernel_rfl) (fun _ _ _ h=>h) ⟨Or.inl ⟨by rfl,?_⟩,fun _=>rfl⟩ ?_
 rotate_left
 ·intro w;go_simp;try with_reducible rfl
 try simp only [Act.put,List.setIfInBounds_toArray,List.set_cons_zero,List.set_cons_succ]
 refine wpAnyIn_ready (rs:=[2,5]) (by kernel_rfl) (by simp) ?_
 refine(AllReadyIn.cons (o:=⟨some 74,_,_,_,_,none⟩) rfl (fun K hK=>?_) (AllReadyIn.cons (o:=⟨some 77,_,_,_,_,none⟩) rfl (fun K hK=>?_) AllReadyIn.nil))
 ·go_simp
  have bXu1:=(bXd).alloc (.cells #[.int .i64 0,.int .i64 1] 3)
  have hOu1:=(hOd).alloc (.cells #[.int .i64 0,.int .i64 1] 3)
  have hBu1:=(hBd).alloc (hBd).size (.cells #[.int .i64 0,.int .i64 1] 3)
  have bEu1:=Blk.new u0 3 #[.int .i64 0,.int .i64 1]
  refine hK _ _ ?_
  clear hK K
  try simp only [Act.put,List.setIfInBounds_toArray,List.set_cons_zero,List.set_cons_succ]
  obtain⟨u1,eu1⟩:∃ x,u0.alloc (.cells #[.int .i64 0,.int .i64 1] 3)=x:=⟨_,rfl⟩
  rw [eu1] at bXu1 hOu1 hBu1 bEu1 ⊢
  clear eu1
  refine wpAnyIn_ready (rs:=[3,5]) (by kernel_rfl) (by simp) ?_
  refine(AllReadyIn.cons (o:=⟨some 75,_,_,_,_,none⟩) rfl (fun K hK=>?_) (AllReadyIn.cons (o:=⟨some 77,_,_,_,_,none⟩) rfl (fun K hK=>?_) AllReadyIn.nil))
  ·refine step_two rfl _ _ rfl W.heap.size (hBu1).size _ [-1,a1,a2] rfl hOu1 _ rfl bEu1 (by simp) 5 rfl ?_
   intro g cap u2 hmu2 hcu2 hgu2 hatu2
   replace hmu2:Mine u2 W.heap.size g [-1,a1,a2,0,1]:=hmu2
   have bXu2:=(bXu1).grown hgu2 (fun e=>absurd (Option.some.inj e) (Nat.ne_of_lt hbN))
   have hBu2:=(hBu1).grown hgu2 (hBu1).size (fun k e=>((hOu1).lt k e).1)
   clear hgu2 hatu2
   refine hK _ _ ?_
   clear hK K
   try simp only [Act.put,List.setIfInBounds_toArray,List.set_cons_zero,List.set_cons_succ]
   refine wpAnyIn_ready (rs:=[5]) (by kernel_rfl) (by simp) ?_
   refine(AllReadyIn.cons (o:=⟨some 77,_,_,_,_,none⟩) rfl (fun K hK=>?_) AllReadyIn.nil)
   obtain⟨y0u3,y1u3⟩:=(bXu2).two
   go_simp
   clear y0u3 y1u3
   refine hK _ _ ?_
   clear hK K
   try simp only [Act.put,List.setIfInBounds_toArray,List.set_cons_zero,List.set_cons_succ]
   refine wpAnyIn_ready (rs:=[6]) (by kernel_rfl) (by simp) ?_
   refine(AllReadyIn.cons (o:=⟨some 78,_,_,_,_,none⟩) rfl (fun K hK=>?_) AllReadyIn.nil)
   go_simp
   have bXu4:=(bXu2).alloc (.cells #[.int .i64 v] 3)
   have hmu4:=(hmu2).below ((Below.refl u2.heap.size u2).alloc (Nat.le_refl _) (.cells #[.int .i64 v] 3)) (hmu2).2.1
   have hBu4:=(hBu2).alloc (hBu2).size (.cells #[.int .i64 v] 3)
   have bCu4:=Blk.new u2 3 #[.int .i64 v]
   refine hK _ _ ?_
   clear hK K
   try simp only [Act.put,List.setIfInBounds_toArray,List.set_cons_zero,List.set_cons_succ]
   obtain⟨u4,eu4⟩:∃ x,u2.alloc (.cells #[.int .i64 v] 3)=x:=⟨_,rfl⟩
   rw [eu4] at bXu4 hmu4 hBu4 bCu4 ⊢
   clear eu4
   refine wpAnyIn_ready (rs:=[7]) (by kernel_rfl) (by simp) ?_
   refine AllReadyIn.cons (o:=⟨some 79,_,_,_,_,none⟩) rfl (fun K hK=>?_) AllReadyIn.nil
   go_simp
   gi_at_call 93
   with_reducible refine(HOE.out W.heap.size g _ cap u4 hcu2 hmu4 (hBu4).size bCu4 (Nat.ne_of_gt (hmu2).lt)).mono ?_
   rintro e w5 ⟨rfl,hb5,hi5,hl5⟩
   have hB5:=(hBu4).trans hb5
   obtain⟨fn,tmps,assign,body,hy,hR⟩:=HYY.out _ _ _ hB5 hi5 (fun ad e=>by cases e;exact(hmu4).ge) hl5
   gi_wp2
   try simp only [Act.put,List.setIfInBounds_toArray,List.set_cons_zero,List.set_cons_succ]
   refine wpAnyIn_ready (rs:=[8]) (by kernel_rfl) (by simp) ?_
   refine AllReadyIn.cons (o:=⟨some 80,_,_,_,_,none⟩) rfl (fun K hK=>?_) AllReadyIn.nil
   go_simp
   refine hR.mono ?_
   rintro e W6 ⟨q,rfl,hq⟩
   gi_wp2
   try simp only [Act.put,List.setIfInBounds_toArray,List.set_cons_zero,List.set_cons_succ]
   refine wpAnyIn_done (by kernel_rfl) ?_ _
   gi_wp2
   go_end0
   refine⟨⟨_,rfl⟩,W6,Below.refl _ _,?_⟩
   cases q
   ·exact .inr ⟨_,(by rw [HO.out];exact List.prefix_refl _),hq.2 rfl⟩
   ·exact .inl (by rw [HO.out];exact hq.1 rfl)
  ·obtain⟨y0u5,y1u5⟩:=(bXu1).two
   go_simp
   clear y0u5 y1u5
   refine hK _ _ ?_
   clear hK K
   try simp only [Act.put,List.setIfInBounds_toArray,List.set_cons_zero,List.set_cons_succ]
   refine wpAnyIn_ready (rs:=[3,6]) (by kernel_rfl) (by simp) ?_
   refine(AllReadyIn.cons (o:=⟨some 75,_,_,_,_,none⟩) rfl (fun K hK=>?_) (AllReadyIn.cons (o:=⟨some 78,_,_,_,_,none⟩) rfl (fun K hK=>?_) AllReadyIn.nil))
   ·refine step_two rfl _ _ rfl W.heap.size (hBu1).size _ [-1,a1,a2] rfl hOu1 _ rfl bEu1 (by simp) 5 rfl ?_
    intro g cap u6 hmu6 hcu6 hgu6 hatu6
    replace hmu6:Mine u6 W.heap.size g [-1,a1,a2,0,1]:=hmu6
    have bXu6:=(bXu1).grown hgu6 (fun e=>absurd (Option.some.inj e) (Nat.ne_of_lt hbN))
    have hBu6:=(hBu1).grown hgu6 (hBu1).size (fun k e=>((hOu1).lt k e).1)
    clear hgu6 hatu6
    refine hK _ _ ?_
    clear hK K
    try simp only [Act.put,List.setIfInBounds_toArray,List.set_cons_zero,List.set_cons_succ]
    refine wpAnyIn_ready (rs:=[6]) (by kernel_rfl) (by simp) ?_
    refine(AllReadyIn.cons (o:=⟨some 78,_,_,_,_,none⟩) rfl (fun K hK=>?_) AllReadyIn.nil)
    go_simp
    have bXu7:=(bXu6).alloc (.cells #[.int .i64 v] 3)
    have hmu7:=(hmu6).below ((Below.refl u6.heap.size u6).alloc (Nat.le_refl _) (.cells #[.int .i64 v] 3)) (hmu6).2.1
    have hBu7:=(hBu6).alloc (hBu6).size (.cells #[.int .i64 v] 3)
    have bCu7:=Blk.new u6 3 #[.int .i64 v]
    refine hK _ _ ?_
    clear hK K
    try simp only [Act.put,List.setIfInBounds_toArray,List.set_cons_zero,List.set_cons_succ]
    obtain⟨u7,eu7⟩:∃ x,u6.alloc (.cells #[.int .i64 v] 3)=x:=⟨_,rfl⟩
    rw [eu7] at bXu7 hmu7 hBu7 bCu7 ⊢
    clear eu7
    refine wpAnyIn_ready (rs:=[7]) (by kernel_rfl) (by simp) ?_
    refine AllReadyIn.cons (o:=⟨some 79,_,_,_,_,none⟩) rfl (fun K hK=>?_) AllReadyIn.nil
    go_simp
    gi_at_call 93
    with_reducible refine(HOE.out W.heap.size g _ cap u7 hcu6 hmu7 (hBu7).size bCu7 (Nat.ne_of_gt (hmu6).lt)).mono ?_
    rintro e w5 ⟨rfl,hb5,hi5,hl5⟩
    have hB5:=(hBu7).trans hb5
    obtain⟨fn,tmps,assign,body,hy,hR⟩:=HYY.out _ _ _ hB5 hi5 (fun ad e=>by cases e;exact(hmu7).ge) hl5
    gi_wp2
    try simp only [Act.put,List.setIfInBounds_toArray,List.set_cons_zero,List.set_cons_succ]
    refine wpAnyIn_ready (rs:=[8]) (by kernel_rfl) (by simp) ?_
    refine AllReadyIn.cons (o:=⟨some 80,_,_,_,_,none⟩) rfl (fun K hK=>?_) AllReadyIn.nil
    go_simp
    refine hR.mono ?_
    rintro e W6 ⟨q,rfl,hq⟩
    gi_wp2
    try simp only [Act.put,List.setIfInBounds_toArray,List.set_cons_zero,List.set_cons_succ]
    refine wpAnyIn_done (by kernel_rfl) ?_ _
    gi_wp2
    go_end0
    refine⟨⟨_,rfl⟩,W6,Below.refl _ _,?_⟩
    cases q
    ·exact .inr ⟨_,(by rw [HO.out];exact List.prefix_refl _),hq.2 rfl⟩
    ·exact .inl (by rw [HO.out];exact hq.1 rfl)
   ·have nCu8:w2.heap.size<u1.heap.size:=((hOu1).lt _ rfl).2
    go_simp
    have bXu8:=(bXu1).alloc (.cells #[.int .i64 v] 3)
    have bEu8:=(bEu1).alloc (.cells #[.int .i64 v] 3)
    have hOu8:=(hOu1).alloc (.cells #[.int .i64 v] 3)
    have hBu8:=(hBu1).alloc (hBu1).size (.cells #[.int .i64 v] 3)
    have bCu8:=Blk.new u1 3 #[.int .i64 v]
    refine hK _ _ ?_
    clear hK K
    try simp only [Act.put,List.setIfInBounds_toArray,List.set_cons_zero,List.set_cons_succ]
    obtain⟨u8,eu8⟩:∃ x,u1.alloc (.cells #[.int .i64 v] 3)=x:=⟨_,rfl⟩
    rw [eu8] at bXu8 bEu8 hOu8 hBu8 bCu8 ⊢
    clear eu8
    refine wpAnyIn_ready (rs:=[3]) (by kernel_rfl) (by simp) ?_
    refine(AllReadyIn.cons (o:=⟨some 75,_,_,_,_,none⟩) rfl (fun K hK=>?_) AllReadyIn.nil)
    refine step_two rfl _ _ rfl W.heap.size (hBu8).size _ [-1,a1,a2] rfl hOu8 _ rfl bEu8 (by simp) 5 rfl ?_
    intro g cap u9 hmu9 hcu9 hgu9 hatu9
    replace hmu9:Mine u9 W.heap.size g [-1,a1,a2,0,1]:=hmu9
    have bXu9:=(bXu8).grown hgu9 (fun e=>absurd (Option.some.inj e) (Nat.ne_of_lt hbN))
    have hBu9:=(hBu8).grown hgu9 (hBu8).size (fun k e=>((hOu8).lt k e).1)
    have bCu9:=(bCu8).grown hgu9 (fun e=>absurd (Option.some.inj e) (Nat.ne_of_gt nCu8))
    have neu9:u1.heap.size≠g:=fun e=>(hatu9.elim (fun q=>Nat.ne_of_gt nCu8 (e.trans (Option.some.inj q).symm)) (fun q=>Nat.ne_of_lt (bCu8).lt (e.trans q)))
    clear hgu9 hatu9
    refine hK _ _ ?_
    clear hK K
    try simp only [Act.put,List.setIfInBounds_toArray,List.set_cons_zero,List.set_cons_succ]
    refine wpAnyIn_ready (rs:=[7]) (by kernel_rfl) (by simp) ?_
    refine AllReadyIn.cons (o:=⟨some 79,_,_,_,_,none⟩) rfl (fun K hK=>?_) AllReadyIn.nil
    go_simp
    gi_at_call 93
    with_reducible refine(HOE.out W.heap.size g _ cap u9 hcu9 hmu9 (hBu9).size bCu9 neu9).mono ?_
    rintro e w5 ⟨rfl,hb5,hi5,hl5⟩
    have hB5:=(hBu9).trans hb5
    obtain⟨fn,tmps,assign,body,hy,hR⟩:=HYY.out _ _ _ hB5 hi5 (fun ad e=>by cases e;exact(hmu9).ge) hl5
    gi_wp2
    try simp only [Act.put,List.setIfInBounds_toArray,List.set_cons_zero,List.set_cons_succ]
    refine wpAnyIn_ready (rs:=[8]) (by kernel_rfl) (by simp) ?_
    refine AllReadyIn.cons (o:=⟨some 80,_,_,_,_,none⟩) rfl (fun K hK=>?_) AllReadyIn.nil
    go_simp
    refine hR.mono ?_
    rintro e W6 ⟨q,rfl,hq⟩
    gi_wp2
    try simp only [Act.put,List.setIfInBounds_toArray,List.set_cons_zero,List.set_cons_succ]
    refine wpAnyIn_done (by kernel_rfl) ?_ _
    gi_wp2
    go_end0
    refine⟨⟨_,rfl⟩,W6,Below.refl _ _,?_⟩
    cases q
    ·exact .inr ⟨_,(by rw [HO.out];exact List.prefix_refl _),hq.2 rfl⟩
    ·exact .inl (by rw [HO.out];exact hq.1 rfl)
 ·obtain⟨y0u10,y1u10⟩:=(bXd).two
  go_simp
  clear y0u10 y1u10
  refine hK _ _ ?_
  clear hK K
  try simp only [Act.put,List.setIfInBounds_toArray,List.set_cons_zero,List.set_cons_succ]
  refine wpAnyIn_ready (rs:=[2,6]) (by kernel_rfl) (by simp) ?_
  refine(AllReadyIn.cons (o:=⟨some 74,_,_,_,_,none⟩) rfl (fun K hK=>?_) (AllReadyIn.cons (o:=⟨some 78,_,_,_,_,none⟩) rfl (fun K hK=>?_) AllReadyIn.nil))
  ·go_simp
   have bXu11:=(bXd).alloc (.cells #[.int .i64 0,.int .i64 1] 3)
   have hOu11:=(hOd).alloc (.cells #[.int .i64 0,.int .i64 1] 3)
   have hBu11:=(hBd).alloc (hBd).size (.cells #[.int .i64 0,.int .i64 1] 3)
   have bEu11:=Blk.new u0 3 #[.int .i64 0,.int .i64 1]
   refine hK _ _ ?_
   clear hK K
   try simp only [Act.put,List.setIfInBounds_toArray,List.set_cons_zero,List.set_cons_succ]
   obtain⟨u11,eu11⟩:∃ x,u0.alloc (.cells #[.int .i64 0,.int .i64 1] 3)=x:=⟨_,rfl⟩
   rw [eu11] at bXu11 hOu11 hBu11 bEu11 ⊢
   clear eu11
   refine wpAnyIn_ready (rs:=[3,6]) (by kernel_rfl) (by simp) ?_
   refine(AllReadyIn.cons (o:=⟨some 75,_,_,_,_,none⟩) rfl (fun K hK=>?_) (AllReadyIn.cons (o:=⟨some 78,_,_,_,_,none⟩) rfl (fun K hK=>?_) AllReadyIn.nil))
   ·refine step_two rfl _ _ rfl W.heap.size (hBu11).size _ [-1,a1,a2] rfl hOu11 _ rfl bEu11 (by simp) 5 rfl ?_
    intro g cap u12 hmu12 hcu12 hgu12 hatu12
    replace hmu12:Mine u12 W.heap.size g [-1,a1,a2,0,1]:=hmu12
    have bXu12:=(bXu11).grown hgu12 (fun e=>absurd (Option.some.inj e) (Nat.ne_of_lt hbN))
    have hBu12:=(hBu11).grown hgu12 (hBu11).size (fun k e=>((hOu11).lt k e).1)
    clear hgu12 hatu12
    refine hK _ _ ?_
    clear hK K
    try simp only [Act.put,List.setIfInBounds_toArray,List.set_cons_zero,List.set_cons_succ]
    refine wpAnyIn_ready (rs:=[6]) (by kernel_rfl) (by simp) ?_
    refine(AllReadyIn.cons (o:=⟨some 78,_,_,_,_,none⟩) rfl (fun K hK=>?_) AllReadyIn.nil)
    go_simp
    have bXu13:=(bXu12).alloc (.cells #[.int .i64 v] 3)
    have hmu13:=(hmu12).below ((Below.refl u12.heap.size u12).alloc (Nat.le_refl _) (.cells #[.int .i64 v] 3)) (hmu12).2.1
    have hBu13:=(hBu12).alloc (hBu12).size (.cells #[.int .i64 v] 3)
    have bCu13:=Blk.new u12 3 #[.int .i64 v]
    refine hK _ _ ?_
    clear hK K
    try simp only [Act.put,List.setIfInBounds_toArray,List.set_cons_zero,List.set_cons_succ]
    obtain⟨u13,eu13⟩:∃ x,u12.alloc (.cells #[.int .i64 v] 3)=x:=⟨_,rfl⟩
    rw [eu13] at bXu13 hmu13 hBu13 bCu13 ⊢
    clear eu13
    refine wpAnyIn_ready (rs:=[7]) (by kernel_rfl) (by simp) ?_
    refine AllReadyIn.cons (o:=⟨some 79,_,_,_,_,none⟩) rfl (fun K hK=>?_) AllReadyIn.nil
    go_simp
    gi_at_call 93
    with_reducible refine(HOE.out W.heap.size g _ cap u13 hcu12 hmu13 (hBu13).size bCu13 (Nat.ne_of_gt (hmu12).lt)).mono ?_
    rintro e w5 ⟨rfl,hb5,hi5,hl5⟩
    have hB5:=(hBu13).trans hb5
    obtain⟨fn,tmps,assign,body,hy,hR⟩:=HYY.out _ _ _ hB5 hi5 (fun ad e=>by cases e;exact(hmu13).ge) hl5
    gi_wp2
    try simp only [Act.put,List.setIfInBounds_toArray,List.set_cons_zero,List.set_cons_succ]
    refine wpAnyIn_ready (rs:=[8]) (by kernel_rfl) (by simp) ?_
    refine AllReadyIn.cons (o:=⟨some 80,_,_,_,_,none⟩) rfl (fun K hK=>?_) AllReadyIn.nil
    go_simp
    refine hR.mono ?_
    rintro e W6 ⟨q,rfl,hq⟩
    gi_wp2
    try simp only [Act.put,List.setIfInBounds_toArray,List.set_cons_zero,List.set_cons_succ]
    refine wpAnyIn_done (by kernel_rfl) ?_ _
    gi_wp2
    go_end0
    refine⟨⟨_,rfl⟩,W6,Below.refl _ _,?_⟩
    cases q
    ·exact .inr ⟨_,(by rw [HO.out];exact List.prefix_refl _),hq.2 rfl⟩
    ·exact .inl (by rw [HO.out];exact hq.1 rfl)
   ·have nCu14:w2.heap.size<u11.heap.size:=((hOu11).lt _ rfl).2
    go_simp
    have bXu14:=(bXu11).alloc (.cells #[.int .i64 v] 3)
    have bEu14:=(bEu11).alloc (.cells #[.int .i64 v] 3)
    have hOu14:=(hOu11).alloc (.cells #[.int .i64 v] 3)
    have hBu14:=(hBu11).alloc (hBu11).size (.cells #[.int .i64 v] 3)
    have bCu14:=Blk.new u11 3 #[.int .i64 v]
    refine hK _ _ ?_
    clear hK K
    try simp only [Act.put,List.setIfInBounds_toArray,List.set_cons_zero,List.set_cons_succ]
    obtain⟨u14,eu14⟩:∃ x,u11.alloc (.cells #[.int .i64 v] 3)=x:=⟨_,rfl⟩
    rw [eu14] at bXu14 bEu14 hOu14 hBu14 bCu14 ⊢
    clear eu14
    refine wpAnyIn_ready (rs:=[3]) (by kernel_rfl) (by simp) ?_
    refine(AllReadyIn.cons (o:=⟨some 75,_,_,_,_,none⟩) rfl (fun K hK=>?_) AllReadyIn.nil)
    refine step_two rfl _ _ rfl W.heap.size (hBu14).size _ [-1,a1,a2] rfl hOu14 _ rfl bEu14 (by simp) 5 rfl ?_
    intro g cap u15 hmu15 hcu15 hgu15 hatu15
    replace hmu15:Mine u15 W.heap.size g [-1,a1,a2,0,1]:=hmu15
    have bXu15:=(bXu14).grown hgu15 (fun e=>absurd (Option.some.inj e) (Nat.ne_of_lt hbN))
    have hBu15:=(hBu14).grown hgu15 (hBu14).size (fun k e=>((hOu14).lt k e).1)
    have bCu15:=(bCu14).grown hgu15 (fun e=>absurd (Option.some.inj e) (Nat.ne_of_gt nCu14))
    have neu15:u11.heap.size≠g:=fun e=>(hatu15.elim (fun q=>Nat.ne_of_gt nCu14 (e.trans (Option.some.inj q).symm)) (fun q=>Nat.ne_of_lt (bCu14).lt (e.trans q)))
    clear hgu15 hatu15
    refine hK _ _ ?_
    clear hK K
    try simp only [Act.put,List.setIfInBounds_toArray,List.set_cons_zero,List.set_cons_succ]
    refine wpAnyIn_ready (rs:=[7]) (by kernel_rfl) (by simp) ?_
    refine AllReadyIn.cons (o:=⟨some 79,_,_,_,_,none⟩) rfl (fun K hK=>?_) AllReadyIn.nil
    go_simp
    gi_at_call 93
    with_reducible refine(HOE.out W.heap.size g _ cap u15 hcu15 hmu15 (hBu15).size bCu15 neu15).mono ?_
    rintro e w5 ⟨rfl,hb5,hi5,hl5⟩
    have hB5:=(hBu15).trans hb5
    obtain⟨fn,tmps,assign,body,hy,hR⟩:=HYY.out _ _ _ hB5 hi5 (fun ad e=>by cases e;exact(hmu15).ge) hl5
    gi_wp2
    try simp only [Act.put,List.setIfInBounds_toArray,List.set_cons_zero,List.set_cons_succ]
    refine wpAnyIn_ready (rs:=[8]) (by kernel_rfl) (by simp) ?_
    refine AllReadyIn.cons (o:=⟨some 80,_,_,_,_,none⟩) rfl (fun K hK=>?_) AllReadyIn.nil
    go_simp
    refine hR.mono ?_
    rintro e W6 ⟨q,rfl,hq⟩
    gi_wp2
    try simp only [Act.put,List.setIfInBounds_toArray,List.set_cons_zero,List.set_cons_succ]
    refine wpAnyIn_done (by kernel_rfl) ?_ _
    gi_wp2
    go_end0
    refine⟨⟨_,rfl⟩,W6,Below.refl _ _,?_⟩
    cases q
    ·exact .inr ⟨_,(by rw [HO.out];exact List.prefix_refl _),hq.2 rfl⟩
    ·exact .inl (by rw [HO.out];exact hq.1 rfl)
  ·have nCu16:w2.heap.size<u0.heap.size:=((hOd).lt _ rfl).2
   go_simp
   have bXu16:=(bXd).alloc (.cells #[.int .i64 v] 3)
   have hOu16:=(hOd).alloc (.cells #[.int .i64 v] 3)
   have hBu16:=(hBd).alloc (hBd).size (.cells #[.int .i64 v] 3)
   have bCu16:=Blk.new u0 3 #[.int .i64 v]
   refine hK _ _ ?_
   clear hK K
   try simp only [Act.put,List.setIfInBounds_toArray,List.set_cons_zero,List.set_cons_succ]
   obtain⟨u16,eu16⟩:∃ x,u0.alloc (.cells #[.int .i64 v] 3)=x:=⟨_,rfl⟩
   rw [eu16] at bXu16 hOu16 hBu16 bCu16 ⊢
   clear eu16
   refine wpAnyIn_ready (rs:=[2]) (by kernel_rfl) (by simp) ?_
   refine(AllReadyIn.cons (o:=⟨some 74,_,_,_,_,none⟩) rfl (fun K hK=>?_) AllReadyIn.nil)
   go_simp
   have bXu17:=(bXu16).alloc (.cells #[.int .i64 0,.int .i64 1] 3)
   have bCu17:=(bCu16).alloc (.cells #[.int .i64 0,.int .i64 1] 3)
   have hOu17:=(hOu16).alloc (.cells #[.int .i64 0,.int .i64 1] 3)
   have hBu17:=(hBu16).alloc (hBu16).size (.cells #[.int .i64 0,.int .i64 1] 3)
   have bEu17:=Blk.new u16 3 #[.int .i64 0,.int .i64 1]
   refine hK _ _ ?_
   clear hK K
   try simp only [Act.put,List.setIfInBounds_toArray,List.set_cons_zero,List.set_cons_succ]
   obtain⟨u17,eu17⟩:∃ x,u16.alloc (.cells #[.int .i64 0,.int .i64 1] 3)=x:=⟨_,rfl⟩
   rw [eu17] at bXu17 bCu17 hOu17 hBu17 bEu17 ⊢
   clear eu17
   refine wpAnyIn_ready (rs:=[3]) (by kernel_rfl) (by simp) ?_
   refine(AllReadyIn.cons (o:=⟨some 75,_,_,_,_,none⟩) rfl (fun K hK=>?_) AllReadyIn.nil)
   refine step_two rfl _ _ rfl W.heap.size (hBu17).size _ [-1,a1,a2] rfl hOu17 _ rfl bEu17 (by simp) 5 rfl ?_
   intro g cap u18 hmu18 hcu18 hgu18 hatu18
   replace hmu18:Mine u18 W.heap.size g [-1,a1,a2,0,1]:=hmu18
   have bXu18:=(bXu17).grown hgu18 (fun e=>absurd (Option.some.inj e) (Nat.ne_of_lt hbN))
   have hBu18:=(hBu17).grown hgu18 (hBu17).size (fun k e=>((hOu17).lt k e).1)
   have bCu18:=(bCu17).grown hgu18 (fun e=>absurd (Option.some.inj e) (Nat.ne_of_gt nCu16))
   have neu18:u0.heap.size≠g:=fun e=>(hatu18.elim (fun q=>Nat.ne_of_gt nCu16 (e.trans (Option.some.inj q).symm)) (fun q=>Nat.ne_of_lt (bCu17).lt (e.trans q)))
   clear hgu18 hatu18
   refine hK _ _ ?_
   clear hK K
   try simp only [Act.put,List.setIfInBounds_toArray,List.set_cons_zero,List.set_cons_succ]
   refine wpAnyIn_ready (rs:=[7]) (by kernel_rfl) (by simp) ?_
   refine AllReadyIn.cons (o:=⟨some 79,_,_,_,_,none⟩) rfl (fun K hK=>?_) AllReadyIn.nil
   go_simp
   gi_at_call 93
   with_reducible refine(HOE.out W.heap.size g _ cap u18 hcu18 hmu18 (hBu18).size bCu18 neu18).mono ?_
   rintro e w5 ⟨rfl,hb5,hi5,hl5⟩
   have hB5:=(hBu18).trans hb5
   obtain⟨fn,tmps,assign,body,hy,hR⟩:=HYY.out _ _ _ hB5 hi5 (fun ad e=>by cases e;exact(hmu18).ge) hl5
   gi_wp2
   try simp only [Act.put,List.setIfInBounds_toArray,List.set_cons_zero,List.set_cons_succ]
   refine wpAnyIn_ready (rs:=[8]) (by kernel_rfl) (by simp) ?_
   refine AllReadyIn.cons (o:=⟨some 80,_,_,_,_,none⟩) rfl (fun K hK=>?_) AllReadyIn.nil
   go_simp
   refine hR.mono ?_
   rintro e W6 ⟨q,rfl,hq⟩
   gi_wp2
   try simp only [Act.put,List.setIfInBounds_toArray,List.set_cons_zero,List.set_cons_succ]
   refine wpAnyIn_done (by kernel_rfl) ?_ _
   gi_wp2
   go_end0
   refine⟨⟨_,rfl⟩,W6,Below.refl _ _,?_⟩
   cases q
   ·exact .inr ⟨_,(by rw [HO.out];exact List.prefix_refl _),hq.2 rfl⟩
   ·exact .inl (by rw [HO.out];exact hq.1 rfl)
end Go.Proofs.YtodejloonfkkmaaGreat.Cat
