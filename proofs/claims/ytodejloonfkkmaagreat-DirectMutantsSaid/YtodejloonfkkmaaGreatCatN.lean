/-
  Package catalog, walked: the operators that are offered at a node, told to a loop's body, whatever the node.
  Package catalog, walked: what may be put in at a node, by a range over the iterator.
  Package catalog, walked: is there such a choice; and what the package's functions come to.
-/
import Derived.Test.YtodejloonfkkmaaGreatCatJ
import Derived.Test.YtodejloonfkkmaaGreatCatL
import Derived.Test.YtodejloonfkkmaaGreatCatI
import Derived.Test.YtodejloonfkkmaaGreatCatM
import Derived.Test.YtodejloonfkkmaaGreatCatG
import Derived.Test.YtodejloonfkkmaaGreatPathH
import Derived.Maps.OwnIn
import Derived.Test.YtodejloonfkkmaaGreatDeltaO
set_option maxHeartbeats 4000000
set_option linter.unusedVariables false
set_option maxRecDepth 100000
namespace Go.Proofs.YtodejloonfkkmaaGreat.Cat
open Go.RowKit Go.Shelf Mem Arena Delta Path
theorem tag_rng{x:Nd}(h:0≤ar x):1≤x.1∧x.1≤26:=by
 obtain⟨t,v⟩:=x
 unfold ar asks at h
 simp only at h ⊢
 repeat' split at h
 all_goals omega
theorem offers1_in(lp Bl Ba:Nat)(A:Option Addr)(c:Nat)(l:List Nd)(a:Int)(hl:l.length≤10000000000000)
  (J Stop:List (Int×List Int)→World→Prop) (W:World) (h0:J [] W) (hC:Caught Bl Ba A c l a W) (hCJ:∀ pre W0,J pre W0→Caught Bl Ba A c l a W0) (hY:Feeds lp (offL l a) J Stop) :
  CallsIn Fence.wide 3 Tryz.prog 92 #[.func (.yield lp) #[] #[],.pointer (some ⟨Bl,0,none⟩),.pointer (some ⟨Ba,0,none⟩)] W (OffEnds (offL l a) J Stop):=by
 rcases aend_cases l a with he | ⟨k,m,rfl,hs,he,hm1,hm2⟩
 ·have e:offL l a=[]:=if_pos (by rw [he];decide)
  rw [e]
  exact offers1_none lp Bl Ba A c l a hl he J Stop W h0 hC
 ·have e:offL l k=offs (nodeAt l k) (behind l k):=if_neg (by rw [he];omega)
  have hn:=nodeAt_some hs
  have hr:=tag_rng (arity_some hs).1
  have hlt:k<l.length:=by omega
  rw [e] at hY ⊢
  by_cases h25:(nodeAt l k).1=25
  ·obtain⟨v,hv⟩:∃ v,nodeAt l k=(25,v):=⟨(nodeAt l k).2,by rw [← h25]⟩
   rw [hv] at hn hY ⊢
   exact offers1_25 others_any lp Bl Ba A c l k m hs hl hlt he v h25 J Stop W h0 hC hn hCJ hY
  generalize behind l k=y at *
  generalize nodeAt l k=x at *
  obtain⟨t,v⟩:=x
  simp only at hr h25
  have ht:t=1∨t=2∨t=3∨t=4∨t=5∨t=6∨t=7∨t=8∨t=9∨t=10∨t=11∨t=12∨t=13∨t=14∨t=15∨t=16∨t=17∨t=18∨t=19∨t=20∨t=21∨t=22∨t=23∨t=24∨t=26:=by omega
  rcases ht with rfl | rfl | rfl | rfl | rfl | rfl | rfl | rfl | rfl | rfl | rfl | rfl | rfl | rfl | rfl | rfl | rfl | rfl | rfl | rfl | rfl | rfl | rfl | rfl | rfl
  ·exact offers1_1 others_any lp Bl Ba A c l k m hs hl hlt he v y J Stop W h0 hC hn hY
  ·exact offers1_2 others_any lp Bl Ba A c l k m hs hl hlt he v y J Stop W h0 hC hn hY
  ·exact offers1_3 others_any lp Bl Ba A c l k m hs hl hlt he v y J Stop W h0 hC hn hY
  ·exact offers1_4 others_any lp Bl Ba A c l k m hs hl hlt he v y J Stop W h0 hC hn hY
  ·exact offers1_5 others_any lp Bl Ba A c l k m hs hl hlt he v y J Stop W h0 hC hn hY
  ·exact offers1_6 others_any lp Bl Ba A c l k m hs hl hlt he v y J Stop W h0 hC hn hY
  ·exact offers1_7 others_any lp Bl Ba A c l k m hs hl hlt he v y J Stop W h0 hC hn hY
  ·exact offers1_8 others_any lp Bl Ba A c l k m hs hl hlt he v y J Stop W h0 hC hn hY
  ·exact offers1_9 others_any lp Bl Ba A c l k m hs hl hlt he v y J Stop W h0 hC hn hY
  ·exact offers1_10 others_any lp Bl Ba A c l k m hs hl hlt he v y J Stop W h0 hC hn hY
  ·exact offers1_11 others_any lp Bl Ba A c l k m hs hl hlt he v y J Stop W h0 hC hn hY
  ·exact offers1_12 others_any lp Bl Ba A c l k m hs hl hlt he v y J Stop W h0 hC hn hY
  ·exact offers1_13 others_any lp Bl Ba A c l k m hs hl hlt he v y J Stop W h0 hC hn hY
  ·exact offers1_14 others_any lp Bl Ba A c l k m hs hl hlt he v y J Stop W h0 hC hn hY
  ·exact offers1_15 others_any lp Bl Ba A c l k m hs hl hlt he v y J Stop W h0 hC hn hY
  ·exact offers1_16 others_any lp Bl Ba A c l k m hs hl hlt he v y J Stop W h0 hC hn hY
  ·exact offers1_17 others_any lp Bl Ba A c l k m hs hl hlt he v y J Stop W h0 hC hn hY
  ·exact offers1_18 others_any lp Bl Ba A c l k m hs hl hlt he v y J Stop W h0 hC hn hY
  ·exact offers1_19 others_any lp Bl Ba A c l k m hs hl hlt he v y J Stop W h0 hC hn hY
  ·exact offers1_20 others_any lp Bl Ba A c l k m hs hl hlt he v y J Stop W h0 hC hn hY
  ·exact offers1_21 others_any lp Bl Ba A c l k m hs hl hlt he v y J Stop W h0 hC hn hY
  ·exact offers1_22 others_any lp Bl Ba A c l k m hs hl hlt he v y J Stop W h0 hC hn hY
  ·exact offers1_23 others_any lp Bl Ba A c l k m hs hl hlt he v y J Stop W h0 hC hn hY
  ·exact offers1_24 others_any lp Bl Ba A c l k m hs hl hlt he v y J Stop W h0 hC hn hY
  ·exact offers1_26 others_any lp Bl Ba A c l k m hs hl hlt he v y J Stop W h0 hC hn hY
theorem offers_any(A:Option Addr)(k c:Nat)(a:Int)(w:World):Calls Tryz.prog 44 #[.slice A k c,.int .i64 a] w fun e w'=>e=.returned (.func (.func 92) #[] #[.pointer (some ⟨w.heap.size,0,none⟩),.pointer (some ⟨w.heap.size+1,0,none⟩)])∧w'=(w.alloc (.cells #[.slice A k c] 23)).alloc (.cells #[.int .i64 a] 3):=by
 go_enter Tryz.func44,Tryz.ntmps44
 go_wp2
 go_ret
 exact⟨rfl,rfl⟩
end Go.Proofs.YtodejloonfkkmaaGreat.Cat
namespace Go.Proofs.YtodejloonfkkmaaGreat.Cat
open Go.RowKit Go.Shelf Mem Arena Delta Path RangeO
attribute [local go_sem] Oper.semAt_some
theorem append_deltaIn{F:Fence}{nF:Nat}{w:World}{ops:Array Oper}{rest:List Oper}{o:Oper}{a:Act}{Q:Exit→Act→World→Prop}(hgd:o.guard=none)(s x:Operand)
  (ho:o.op=.call { callee:=.builtin .append,args:=#[s,x],argTypes:=#[37,37] })
  (base:Nat) (hbase:base≤w.heap.size) (v:Value) (ys:List (Int×Int)) (hs:a.eval s=v) (hown:w.ownsRow base 43 3 v ys.length (dcells ys))
  (g:Nat) (b:Int×Int) (hx:a.eval x=.slice (some ⟨g,0,none⟩) 1 1) (hb:Blk w g 43 (dcell b).toArray) (hlen:ys.length+1≤100000000)
  (h:∀ v' w',w'.ownsRow base 43 3 v' (ys++[b]).length (dcells (ys++[b]))→w.grownBy w' v.ownBlock→(v'.ownBlock=v.ownBlock∨v'.ownBlock=some w.heap.size)→wpListIn F nF Tryz.prog ops Q rest (a.put o.dst v') w') :
  wpListIn F nF Tryz.prog ops Q (o::rest) a w:=by
 obtain⟨ig,hig,hz0,hz1,hz2⟩:=info_parts info_delta
 refine wpListIn_append_own_at _ hgd s x 37 ho base 43 ig _ 3 40 Tryz.underlying37 hig hz0 hz1 hz2 rfl (by decide) v ys.length (dcells ys) hs hown ⟨g,0,none⟩ 1 1 (dcell b) hx rfl ?_ ?_ (by simp only [maxLen];omega) (by omega) hbase ?_
 ·intro j u hu
  have:=hb.cell j
  rw [show(⟨g,0,none⟩:Addr).add j=⟨g,j,none⟩ by unfold Addr.add;split<;>simp_all]
  rw [this]
  simpa using hu
 ·intro u hu
  unfold dcell at hu
  simp only [List.mem_cons,List.not_mem_nil,or_false] at hu
  rcases hu with rfl | rfl | rfl<;>rfl
 ·intro v' w' hown' hg _ hat
  refine h v' w' ?_ hg hat
  rw [List.length_append,dcells_snoc];exact hown'
theorem chs_le(l:List Nd)(a:Int):(chs l a).length≤126:=by
 rcases aend_cases l a with he | ⟨k,m,rfl,hs,-,-,-⟩
 ·rw [show chs l a=[] from if_pos (by rw [he];decide)];decide
 ·rw [chs_some hs]
  unfold choices
  have:=upto_len (nodeAt l k) (behind l k) 7
  omega
theorem fold_13(t:Array Value)(x y:Value):Array.foldl (fun t (x:Nat×Value)=>t.setIfInBounds x.1 x.2) t ((#[13,14]:Array Nat).zip #[x,y])=(t.setIfInBounds 13 x).setIfInBounds 14 y:=by
 simp
def Jb(w:World)(A:Option Addr)(c:Nat)(l:List Nd)(a:Int)(D:Nat)(L:List (Int×Int))(W:World):Prop :=
 W.heap[D]? = some (.deferred (some []))∧Blk W (w.heap.size+1) 23 #[.slice A l.length c]∧Blk W (w.heap.size+1+1) 3 #[.int .i64 a]∧Below w.heap.size w W ∧
  ∃ v,Blk W w.heap.size 37 #[v]∧W.ownsRow (D+2) 43 3 v L.length (dcells L)
theorem Jb.below{w:World}{A:Option Addr}{c:Nat}{l:List Nd}{a:Int}{D:Nat}{L:List (Int×Int)}{X Y:World}(h:Jb w A c l a D L X)(k:Below X.heap.size X Y):Jb w A c l a D L Y:=by
 obtain⟨h1,h2,h3,h4,v,h5,h6⟩:=h
 exact⟨(k.block _ (Array.getElem?_eq_some_iff.1 h1).1).trans h1,h2.below k h2.lt,h3.below k h3.lt,h4.trans (k.mono h4.size),v,h5.below k h5.lt,own_kept h6 k⟩
theorem Jb.mark{w:World}{A:Option Addr}{c:Nat}{l:List Nd}{a:Int}{D:Nat}{L:List (Int×Int)}{X Y:World}(h:Jb w A c l a D L X)(hD:w.heap.size+3≤D)(k:Kept (· = D+1) X Y):Jb w A c l a D L Y:=by
 obtain⟨h1,h2,h3,h4,v,h5,h6⟩:=h
 exact⟨(k.block _ (Array.getElem?_eq_some_iff.1 h1).1 (by omega)).trans h1,h2.kept k (by omega),h3.kept k (by omega),h4.trans (k.to_below h4.size (fun i q=>by omega)),v,h5.kept k (by omega),
  own_of_block h6 (fun i hi=>k.block i (h6.lt i hi).2 (by have:=(h6.lt i hi).1;omega))⟩
theorem Jb.caught{w:World}{A:Option Addr}{c:Nat}{l:List Nd}{a:Int}{D:Nat}{L:List (Int×Int)}{X:World}(h:Jb w A c l a D L X)(hx:Nodes w w.heap.size A l):Caught (w.heap.size+1) (w.heap.size+1+1) A c l a X:=by
 obtain⟨h1,h2,h3,h4,v,h5,h6⟩:=h
 exact⟨h2.lt,h3.lt,h2.cell 0,h3.cell 0,Nodes.at hx h4⟩
structure Jl (w:World) (A:Option Addr) (c:Nat) (l:List Nd) (a:Int) (D:Nat) (o:Obj) (A':Option Addr) (ns:List Int) (L:List (Int×Int)) (v:Value) (W:World):Prop where
 loop:W.heap[D+1]? = some o
 mark:W.heap[D]? = some (.deferred (some []))
 bl:Blk W (w.heap.size+1) 23 #[.slice A l.length c]
 ba:Blk W (w.heap.size+1+1) 3 #[.int .i64 a]
 below:Below w.heap.size w W
 cell:Blk W w.heap.size 37 #[v]
 own:W.ownsRow (D+2) 43 3 v L.length (dcells L)
 row:IRow W W.heap.size A' ns
 far:∀ ad,A'=some ad→D+2≤ad.block∧v.ownBlock≠some ad.block
theorem Jl.jb{w:World}{A:Option Addr}{c:Nat}{l:List Nd}{a:Int}{D:Nat}{o:Obj}{A':Option Addr}{ns:List Int}{L:List (Int×Int)}{v:Value}{W:World}(h:Jl w A c l a D o A' ns L v W):Jb w A c l a D L W :=
 ⟨h.mark,h.bl,h.ba,h.below,v,h.cell,h.own⟩
theorem Jl.step{w:World}{A:Option Addr}{c:Nat}{l:List Nd}{a:Int}{D:Nat}{o:Obj}{A':Option Addr}{ns:List Int}{L:List (Int×Int)}{v:Value}{W:World}(h:Jl w A c l a D o A' ns L v W)(hD:w.heap.size+3≤D)(hn0:0<ns.length)
  {x:Obj} {b:Int×Int} {v7:Value} {W7:World} (hgr:(W.alloc x).grownBy W7 v.ownBlock) (hown:W7.ownsRow (D+2) 43 3 v7 (L++[b]).length (dcells (L++[b]))) (hat:v7.ownBlock=v.ownBlock∨v7.ownBlock=some (W.alloc x).heap.size) :
  (W7.cell? ⟨w.heap.size,0,none⟩=some v∧W7.frozen? ⟨w.heap.size,0,none⟩=false)∧Jl w A c l a D o A' ns (L++[b]) v7 (W7.setCell ⟨w.heap.size,0,none⟩ v7):=by
 have hlo:∀ k,v.ownBlock=some k→D+2≤k:=fun k e=>(h.own.lt k e).1
 have hk:Kept (fun k=>v.ownBlock=some k) W W7:=((Kept.refl _ _).alloc x).grown hgr (fun k e=>.inl e)
 have hk8:Kept (fun k=>k=w.heap.size∨v.ownBlock=some k) W (W7.setCell ⟨w.heap.size,0,none⟩ v7):=(hk.mono (fun k e=>.inr e)).setCell (p:=⟨w.heap.size,0,none⟩) (.inl (.inl rfl)) v7
 have hc7:=h.cell.kept hk (fun e=>by have:=hlo _ e;omega)
 have hlt:=h.cell.lt
 have hs1:(W.alloc x).heap.size=W.heap.size+1:=World.size_alloc _ _
 refine⟨⟨hc7.cell 0,hc7.frozen 0⟩,?_⟩
 refine⟨(hk8.block _ (Array.getElem?_eq_some_iff.1 h.loop).1 ?_).trans h.loop,(hk8.block _ (Array.getElem?_eq_some_iff.1 h.mark).1 ?_).trans h.mark,h.bl.kept hk8 ?_,h.ba.kept hk8 ?_,h.below.trans (hk8.to_below h.below.size ?_),hc7.set 0 v7,?_,irow_kept h.row hk8 ?_,?_⟩
 ·rintro(e | e)
  ·omega
  ·have:=hlo _ e;omega
 ·rintro(e | e)
  ·omega
  ·have:=hlo _ e;omega
 ·rintro(e | e)
  ·omega
  ·have:=hlo _ e;omega
 ·rintro(e | e)
  ·omega
  ·have:=hlo _ e;omega
 ·rintro k (e | e)
  ·omega
  ·have:=hlo _ e;omega
 ·exact own_of_block hown (fun i hi=>Below.heap_setCell _ _ _ _ (fun e=>by have:=(hown.lt i hi).1;simp at e;omega))
 ·rintro ad e (q | q)
  ·have:=(h.far ad e).1;omega
  ·exact(h.far ad e).2 q
 ·intro ad e
  refine⟨(h.far ad e).1,?_⟩
  rcases hat with q | q
  ·rw [q];exact(h.far ad e).2
  ·rw [q]
   intro z
   have z':(W.alloc x).heap.size=ad.block:=Option.some.inj z
   cases hn:ns with
   | nil=>rw [hn] at hn0;cases hn0
   | cons y ys =>
    obtain⟨ad',e',hb,-⟩:=h.row 0 y (by rw [hn];rfl)
    rw [e] at e'
    cases e'
    omega
theorem Choices_inF(A:Option Addr)(c:Nat)(l:List Nd)(a:Int)(w:World)(hx:Nodes w w.heap.size A l)(hl:l.length≤10000000000000) :
  CallsIn Fence.wide 4 Tryz.prog 42 #[.slice A l.length c,.int .i64 a] w (ChEndsF l a w):=by
 have HR:=Lib.hid (show flat (offL l a)=chs l a from by
  rcases aend_cases l a with he | ⟨k,m,rfl,hs,he,-,-⟩
  ·rw [show offL l a=[] from if_pos (by rw [he];decide),show chs l a=[] from if_pos (by rw [he];decide)];rfl
  ·rw [show offL l k=offs (nodeAt l k) (behind l k) from if_neg (by rw [he];omega),chs_some hs]
   exact offs_choices _ _ (bool_rng (arity_some hs).1))
 have HLL:=Lib.hid (chs_le l a)
 have hf1:Fence.wide.fn 44:=trivial
 have HX:=Lib.hid hx
 refine callsIn_of_wp_marks Tryz.func42 rfl trivial ?_ rfl
 simp only [Tryz.ntmps42,List.size_toArray,List.length_cons,List.length_nil,Nat.reduceAdd,Nat.reduceSub,Array.replicate_succ,Array.replicate_zero,List.push_toArray,List.append_toArray,List.nil_append,List.cons_append]
 have bR:=Blk.new w 37 #[.slice none 0 0]
 have hB0:Below w.heap.size w (w.alloc (.cells #[.slice none 0 0] 37)):=(Below.refl _ _).alloc (Nat.le_refl _) _
 gi_wp2_with (gi_at_call 44;refine((callsIn_wide (n:=3)).2 (offers_any A l.length c a _)).mono ?_;rintro e w' ⟨rfl,rfl⟩)
 have hsz:w.heap.size+3=(((w.alloc (.cells #[.slice none 0 0] 37)).alloc (.cells #[.slice A l.length c] 23)).alloc (.cells #[.int .i64 a] 3)).heap.size:=by simp
 have bL:=(Blk.new (w.alloc (.cells #[.slice none 0 0] 37)) 23 #[.slice A l.length c]).alloc (.cells #[.int .i64 a] 3)
 have bA:=Blk.new ((w.alloc (.cells #[.slice none 0 0] 37)).alloc (.cells #[.slice A l.length c] 23)) 3 #[.int .i64 a]
 rw [World.size_alloc] at bL bA
 rw [World.size_alloc] at bA
 have bR1:=(bR.alloc (.cells #[.slice A l.length c] 23)).alloc (.cells #[.int .i64 a] 3)
 have hB1:Below w.heap.size w (((w.alloc (.cells #[.slice none 0 0] 37)).alloc (.cells #[.slice A l.length c] 23)).alloc (.cells #[.int .i64 a] 3)):=(hB0.alloc (by simp) _).alloc (by simp;omega) _
 clear hx hB0 bR
 generalize (((w.alloc (.cells #[.slice none 0 0] 37)).alloc (.cells #[.slice A l.length c] 23)).alloc (.cells #[.int .i64 a] 3))=w2 at *
 refine wpIn_rangeFunc_open rfl (by omega) (gf:=92) (fb:=#[]) (lb:=#[.pointer (some ⟨w.heap.size+1,0,none⟩),.pointer (some ⟨w.heap.size+1+1,0,none⟩)]) rfl trivial (enters_of Tryz.func92 (by kernel_rfl) rfl)
  (Jb w A c l a w2.heap.size (flat (offL l a))) (fun _ _=>False) ?calls ?done ?stop
 case calls =>
  intro fn W hfn hbW hsW hD hL
  obtain⟨rec,hrec⟩:=recd_name hL
  simp only [← hrec] at hL ⊢
  have hb2:=hB1.size
  have hJ00:Jb w A c l a w2.heap.size (flat []) W:=⟨hD,bL.below hbW (by omega),bA.below hbW (by omega),hB1.trans (hbW.mono hb2),_,bR1.below hbW (by omega),World.ownsRow_nil _ _ _ _⟩
  refine CallsIn.mono (offers1_in (w2.heap.size+1) (w.heap.size+1) (w.heap.size+1+1) A c l a hl (fun pre W'=>W'.heap[w2.heap.size+1]? = some (.loop (rec .ready none))∧Jb w A c l a w2.heap.size (flat pre) W') (fun _ _=>False) W ⟨hL,hJ00⟩ (hJ00.caught HX.out) (fun pre W0 h=>h.2.caught HX.out) ?hY) ?fin
  case fin =>
   rintro e W' ⟨⟨v,rfl⟩,W0,hb,⟨h1,h2⟩ | ⟨_,_,h⟩⟩
   ·have h3:=h2.below hb
    exact⟨⟨_,rfl⟩,h3.1,.inl ⟨(hb.block _ (Array.getElem?_eq_some_iff.1 h1).1).trans h1,h3⟩⟩
   ·exact h.elim
  case hY =>
   rintro pre op ns A' c' W0 Y ⟨hl0,hJ0⟩ hb hI hF hle hpre
   have hlY:=(hb.block _ (Array.getElem?_eq_some_iff.1 hl0).1).trans hl0
   have hJY:=hJ0.below hb
   rw [hrec] at hlY
   refine yieldAt_of hlY hfn rfl (Go_:=fun W3=>Jb w A c l a w2.heap.size (flat (pre++[(op,ns)])) W3) (St:=fun _ _=>False) ?_ ?ygo ?yst
   case ygo =>
    rintro W1 W2 h hk hr
    exact⟨true,rfl,fun _=>⟨by rw [hrec];exact hr,h.mark (by omega) hk⟩,fun h=>by cases h⟩
   case yst=>exact fun _ _ _ h=>h.elim
   rw [fold_13]
   simp only [List.setIfInBounds_toArray,List.set_cons_succ,List.set_cons_zero]
   gi_wp2
   try refine⟨rfl,?_⟩
   intro Y2 hk2 hs2 hbusy
   generalize (recd fn _ _ _ _ _ LoopState.busy none)=busy at hbusy ⊢
   obtain⟨e1,e2,e3,e4,v0,e5,e6⟩:=hJ0
   have hl0':=(Array.getElem?_eq_some_iff.1 hl0).1
   have k02:Kept (· = w2.heap.size+1) W0 Y2:=(Kept.of_below hb (Nat.le_refl _)).trans hk2
   have hJl:Jl w A c l a w2.heap.size _ A' ns (flat pre) v0 Y2:=⟨hbusy,(k02.block _ (Array.getElem?_eq_some_iff.1 e1).1 (by omega)).trans e1,e2.kept k02 (by omega),e3.kept k02 (by omega),e4.trans (k02.to_below e4.size (fun k e=>by omega)),e5.kept k02 (by omega),
    own_of_block e6 (fun i hi=>k02.block i (e6.lt i hi).2 (by have:=(e6.lt i hi).1;omega)),irow_kept hI hk2 (fun ad e q=>by have:=hF ad e;omega),fun ad e=>⟨by have:=hF ad e;omega,fun q=>by have:=(e6.lt _ q).2;have:=hF ad e;omega⟩⟩
   have HJ:=Lib.hid hJl
   have HFL:Hid (flat (pre++[(op,ns)])=flat pre++ns.map fun n=>(op,n)):=Lib.hid (flat_snoc _ _)
   have HPL:Hid ((flat pre++ns.map fun n=>(op,n)).length≤126):=Lib.hid (by
    rw [← HFL.out]
    have h1:=HLL.out
    rw [← HR.out] at h1
    obtain⟨t,ht⟩:=hpre
    rw [← ht] at h1
    have e:flat (pre++[(op,ns)]++t)=flat (pre++[(op,ns)])++flat t:=by simp [flat]
    rw [e,List.length_append] at h1
    omega)
   obtain⟨F,hF0⟩:∃ F,flat pre=F:=⟨_,rfl⟩
   rw [hF0] at HFL HPL HJ
   rw [HFL.out]
   clear hJl hl0 e1 e2 e3 e4 e5 e6 hl0' k02 hb hI hF hJY hlY hbusy hk2 hs2 hJ00 hpre hF0 hL hD bL bA bR1
   gi_wp2
   gi_loopw [17] (fun i wr=>∃ (j:Nat) (v:Value),j≤ns.length∧i=.int .i64 j∧Jl w A c l a w2.heap.size (.loop busy) A' ns (F++(ns.take j).map fun n=>(op,n)) v wr) (fun i _=>ns.length-(intOf i).toNat)
   case atStart=>exact⟨0,v0,by omega,rfl,by simpa using HJ.out⟩
   case round =>
    obtain⟨j,v,hj,rfl,hJl⟩:=hrel
    by_cases hlt:j<ns.length
    ·obtain⟨x,hxj⟩:∃ x,ns[j]? = some x:=⟨_,List.getElem?_eq_getElem hlt⟩
     have hst:(F++(ns.take (j+1)).map fun n=>(op,n))=(F++(ns.take j).map fun n=>(op,n))++[(op,x)]:=by
      rw [take_snoc ns j x hxj,List.map_append,List.append_assoc];rfl
     have hle:(F++(ns.take j).map fun n=>(op,n)).length≤126:=by
      have h1:=HPL.out
      rw [List.length_append,List.length_map] at h1 ⊢
      rw [List.length_take]
      omega
     obtain⟨ad,rfl,hbk,g0⟩:=hJl.row j x hxj
     have HST:=Lib.hid hst
     generalize (F++(ns.take j).map fun n=>(op,n))=L at *
     have i1:(j:Int)<(ns.length:Int):=by omega
     have i2:(0:Int)≤(j:Int):=by omega
     have cR:=hJl.cell.cell 0
     have hcz:(#[v]:Array Value)[0]? = some v:=rfl
     rw [hcz] at cR
     have hO2:=hJl.own.alloc (.cells (dcell (op,x)).toArray 43)
     have bL:=Blk.new wr 43 (dcell (op,x)).toArray
     have HJl:=Lib.hid hJl
     have hb9:w2.heap.size+2≤(wr.alloc (.cells (dcell (op,x)).toArray 43)).heap.size:=by
      have:=(Array.getElem?_eq_some_iff.1 hJl.loop).1
      rw [World.size_alloc];omega
     have hl9:L.length+1≤100000000:=by omega
     have hlt0:0<ns.length:=by omega
     have v3:IntKind.i64.wrap ((j:Int)+1)=(j:Int)+1:=IntWalk.i64_in _ (by have:=HPL.out;rw [List.length_append,List.length_map] at this;omega)
     clear hJl hst hxj hcz hle
     gi_wp2_with (gi_at_builtin;refine append_deltaIn rfl _ _ rfl (w2.heap.size+2) hb9 _ L rfl hO2 wr.heap.size (op,x) rfl bL hl9 ?_;intro v7 w7 hown hgr hat;have hs7:=HJl.out.step (by omega) hlt0 hgr hown hat;obtain⟨⟨c7,f7⟩,hJ8⟩:=hs7;obtain⟨A7,c7',rfl,-,-,-⟩:=own_drow hown;rw [show(L++[(op,x)]).length=L.length+1 by simp] at hJ8)
     go_roundw
     case rel=>exact⟨j+1,_,by omega,by go_num,by rw [HST.out];exact hJ8⟩
     case measure=>simp [intOf];omega
    ·obtain rfl:j=ns.length:=by omega
     rw [List.take_length] at hJl
     have i1:¬ (ns.length:Int)<(ns.length:Int):=by omega
     have HJl:=Lib.hid hJl
     clear hJl
     gi_wp2
     exact⟨HJl.out.loop,HJl.out.jb⟩
 case done =>
  intro W W' hJ hk hD
  have hJ':=hJ.mark (by omega) hk
  rw [HR.out] at hJ'
  obtain⟨-,d1,d2,hB,v,d3,d4⟩:=hJ'
  obtain⟨A7,c7,rfl,hl7,hA7,hr7⟩:=own_drow d4
  have HF7:=Lib.hid (own_base d4)
  have c2:=d3.cell 0
  have hcz:(#[Value.slice A7 (chs l a).length c7]:Array Value)[0]? = some (.slice A7 (chs l a).length c7):=rfl
  rw [hcz] at c2
  have HB:=Lib.hid (hB.trans (belowK_b (w:=w) (Nat.le_refl _) _ w2.heap.size _ (.deferred none) (by omega) hD rfl rfl))
  have HD4:=Lib.hid (own_drow (own_of_block (w':=W'.putObj w2.heap.size (.deferred none)) d4 (fun i hi=>World.putObj_heap_other (by have:=(d4.lt i hi).1;omega))))
  clear hJ hk hB d1 d2 d3 hcz
  gi_wp2
  refine⟨by simp,.inl ⟨_,_,rfl,run_takeDeferred hD,?_⟩⟩
  refine⟨_,results_tmp rfl _ _ _,HB.out,A7,c7,rfl,hl7,hA7,?_⟩
  obtain⟨A8,c8,e8,-,-,hr8⟩:=HD4.out
  cases e8
  exact⟨hr8,fun ad e=>by have:=HF7.out ad e;omega⟩
 case stop=>exact fun _ _ _ h=>h.elim
theorem fold_14(t:Array Value)(x y:Value):Array.foldl (fun t (x:Nat×Value)=>t.setIfInBounds x.1 x.2) t ((#[14,15]:Array Nat).zip #[x,y])=(t.setIfInBounds 14 x).setIfInBounds 15 y:=by
 simp
structure Ji (w:World) (A:Option Addr) (c:Nat) (l:List Nd) (a op n:Int) (D:Nat) (r:Bool) (W:World):Prop where
 mark:W.heap[D]? = some (.deferred (some []))
 bo:Blk W w.heap.size 3 #[.int .i64 op]
 bn:Blk W (w.heap.size+1) 3 #[.int .i64 n]
 br:Blk W (w.heap.size+1+1) 4 #[.bool r]
 bl:Blk W (w.heap.size+1+1+1) 23 #[.slice A l.length c]
 ba:Blk W (w.heap.size+1+1+1+1) 3 #[.int .i64 a]
 below:Below w.heap.size w W
theorem Ji.kept{w:World}{A:Option Addr}{c:Nat}{l:List Nd}{a op n:Int}{D:Nat}{r:Bool}{X Y:World}{S:Nat→Prop}(h:Ji w A c l a op n D r X)(k:Kept S X Y)(hS:∀ i,S i→D<i)(hD:w.heap.size+5≤D):Ji w A c l a op n D r Y :=
 ⟨(k.block _ (Array.getElem?_eq_some_iff.1 h.mark).1 (fun q=>by have:=hS _ q;omega)).trans h.mark,h.bo.kept k (fun q=>by have:=hS _ q;omega),h.bn.kept k (fun q=>by have:=hS _ q;omega),h.br.kept k (fun q=>by have:=hS _ q;omega),h.bl.kept k (fun q=>by have:=hS _ q;omega),h.ba.kept k (fun q=>by have:=hS _ q;omega),h.below.trans (k.to_below h.below.size (fun i q=>by have:=hS _ q;omega))⟩
theorem Ji.belows{w:World}{A:Option Addr}{c:Nat}{l:List Nd}{a op n:Int}{D:Nat}{r:Bool}{X Y:World}(h:Ji w A c l a op n D r X)(k:Below X.heap.size X Y)(hD:w.heap.size+5≤D):Ji w A c l a op n D r Y :=
 h.kept (Kept.of_below (S:=fun _=>False) k (Nat.le_refl _)) (fun _ q=>q.elim) hD
theorem Ji.set{w:World}{A:Option Addr}{c:Nat}{l:List Nd}{a op n:Int}{D:Nat}{r:Bool}{X:World}(h:Ji w A c l a op n D r X)(hD:w.heap.size+5≤D)(q:Bool):Ji w A c l a op n D q (X.setCell ⟨w.heap.size+1+1,0,none⟩ (.bool q)) :=
 ⟨(Below.heap_setCell _ _ _ _ (by show D≠w.heap.size+1+1;omega)).trans h.mark,h.bo.apart (by show w.heap.size≠w.heap.size+1+1;omega) _,h.bn.apart (by show w.heap.size+1≠w.heap.size+1+1;omega) _,h.br.set 0 _,h.bl.apart (by show w.heap.size+1+1+1≠w.heap.size+1+1;omega) _,h.ba.apart (by show w.heap.size+1+1+1+1≠w.heap.size+1+1;omega) _,h.below.setCell (by show w.heap.size≤w.heap.size+1+1;omega) _⟩
theorem Ji.caught{w:World}{A:Option Addr}{c:Nat}{l:List Nd}{a op n:Int}{D:Nat}{r:Bool}{X:World}(h:Ji w A c l a op n D r X)(hx:Nodes w w.heap.size A l):Caught (w.heap.size+1+1+1) (w.heap.size+1+1+1+1) A c l a X :=
 ⟨h.bl.lt,h.ba.lt,h.bl.cell 0,h.ba.cell 0,Nodes.at hx h.below⟩
theorem flat_off(l:List Nd)(a:Int):flat (offL l a)=chs l a:=by
 rcases aend_cases l a with he | ⟨k,m,rfl,hs,he,-,-⟩
 ·rw [show offL l a=[] from if_pos (by rw [he];decide),show chs l a=[] from if_pos (by rw [he];decide)];rfl
 ·rw [show offL l k=offs (nodeAt l k) (behind l k) from if_neg (by rw [he];omega),chs_some hs]
  exact offs_choices _ _ (bool_rng (arity_some hs).1)
theorem ns_le{l:List Nd}{a:Int}{pre:List (Int×List Int)}{o:Int}{ns:List Int}(h:pre++[(o,ns)] <+: offL l a):ns.length≤126:=by
 have h1:=chs_le l a
 rw [← flat_off] at h1
 obtain⟨t,ht⟩:=h
 rw [← ht] at h1
 have e:flat (pre++[(o,ns)]++t)=flat pre++((ns.map fun n=>(o,n))++flat t):=by simp [flat]
 rw [e,List.length_append,List.length_append,List.length_map] at h1
 omega
theorem isF_isv(l:List Nd)(a op n:Int):isF (offL l a) op n=isv l a op n:=by
 rcases aend_cases l a with he | ⟨k,m,rfl,hs,he,-,-⟩
 ·rw [show offL l a=[] from if_pos (by rw [he];decide),show isv l a op n=false from if_pos (by rw [he];decide)];rfl
 ·rw [show offL l k=offs (nodeAt l k) (behind l k) from if_neg (by rw [he];omega),isv_some hs,isF_two]
  have h:=offs_mem (nodeAt l k) (behind l k) (bool_rng (arity_some hs).1) op n
  by_cases q:cis (nodeAt l k) (behind l k) op n=true
  ·rw [q,decide_eq_true (h.2 q)]
  ·rw [decide_eq_false (fun z=>q (h.1 z))]
   simpa using q
theorem Is_in(A:Option Addr)(c:Nat)(l:List Nd)(a op n:Int)(w:World)(hx:Nodes w w.heap.size A l)(hl:l.length≤10000000000000) :
  CallsIn Fence.wide 4 Tryz.prog 22 #[.slice A l.length c,.int .i64 a,.int .i64 op,.int .i64 n] w fun e w'=>e=.returned (.bool (isF (offL l a) op n))∧Below w.heap.size w w':=by
 have hf1:Fence.wide.fn 44:=trivial
 have HX:=Lib.hid hx
 refine callsIn_of_wp_marks Tryz.func22 rfl trivial ?_ rfl
 simp only [Tryz.ntmps22,List.size_toArray,List.length_cons,List.length_nil,Nat.reduceAdd,Nat.reduceSub,Array.replicate_succ,Array.replicate_zero,List.push_toArray,List.append_toArray,List.nil_append,List.cons_append]
 obtain⟨u1,hu1⟩:∃ u,w.alloc (.cells #[.int .i64 op] 3)=u:=⟨_,rfl⟩
 obtain⟨u2,hu2⟩:∃ u,u1.alloc (.cells #[.int .i64 n] 3)=u:=⟨_,rfl⟩
 obtain⟨u3,hu3⟩:∃ u,u2.alloc (.cells #[.bool false] 4)=u:=⟨_,rfl⟩
 obtain⟨u4,hu4⟩:∃ u,u3.alloc (.cells #[.slice A l.length c] 23)=u:=⟨_,rfl⟩
 obtain⟨u5,hu5⟩:∃ u,u4.alloc (.cells #[.int .i64 a] 3)=u:=⟨_,rfl⟩
 have z1:u1.heap.size=w.heap.size+1:=by rw [← hu1,World.size_alloc]
 have z2:u2.heap.size=w.heap.size+1+1:=by rw [← hu2,World.size_alloc,z1]
 have z3:u3.heap.size=w.heap.size+1+1+1:=by rw [← hu3,World.size_alloc,z2]
 have z4:u4.heap.size=w.heap.size+1+1+1+1:=by rw [← hu4,World.size_alloc,z3]
 have z5:u5.heap.size=w.heap.size+5:=by rw [← hu5,World.size_alloc,z4]
 have b1:=Blk.new w 3 #[.int .i64 op]
 rw [hu1] at b1
 have b2:=Blk.new u1 3 #[.int .i64 n]
 have b1:=b1.alloc (.cells #[.int .i64 n] 3)
 rw [hu2] at b1 b2
 have b3:=Blk.new u2 4 #[.bool false]
 have b1:=b1.alloc (.cells #[.bool false] 4)
 have b2:=b2.alloc (.cells #[.bool false] 4)
 rw [hu3] at b1 b2 b3
 have b4:=Blk.new u3 23 #[.slice A l.length c]
 have b1:=b1.alloc (.cells #[.slice A l.length c] 23)
 have b2:=b2.alloc (.cells #[.slice A l.length c] 23)
 have b3:=b3.alloc (.cells #[.slice A l.length c] 23)
 rw [hu4] at b1 b2 b3 b4
 have b5:=Blk.new u4 3 #[.int .i64 a]
 have b1:=b1.alloc (.cells #[.int .i64 a] 3)
 have b2:=b2.alloc (.cells #[.int .i64 a] 3)
 have b3:=b3.alloc (.cells #[.int .i64 a] 3)
 have b4:=b4.alloc (.cells #[.int .i64 a] 3)
 rw [hu5] at b1 b2 b3 b4 b5
 rw [z1] at b2
 rw [z2] at b3
 rw [z3] at b4
 rw [z4] at b5
 have hB1:Below w.heap.size w u5:=by
  rw [← hu5,← hu4,← hu3,← hu2,← hu1]
  exact(((((Below.refl _ _).alloc (Nat.le_refl _) _).alloc (by simp) _).alloc (by simp;omega) _).alloc (by simp;omega) _).alloc (by simp;omega) _
 have Z1:=Lib.hid z1
 have Z2:=Lib.hid z2
 have Z3:=Lib.hid z3
 clear hx z1 z2 z3 z4
 gi_wp2_with (gi_at_call 44;refine((callsIn_wide (n:=3)).2 (offers_any A l.length c a _)).mono ?_;rintro e w' ⟨rfl,rfl⟩)
 clear hu1 hu2 hu3 hu4 hu5
 rw [Z1.out,Z2.out,Z3.out]
 refine wpIn_rangeFunc_open rfl (by omega) (gf:=92) (fb:=#[]) (lb:=#[.pointer (some ⟨w.heap.size+1+1+1,0,none⟩),.pointer (some ⟨w.heap.size+1+1+1+1,0,none⟩)]) rfl trivial (enters_of Tryz.func92 (by kernel_rfl) rfl)
  (fun W=>Ji w A c l a op n u5.heap.size false W∧isF (offL l a) op n=false) (fun q W=>q=.ret∧Ji w A c l a op n u5.heap.size (isF (offL l a) op n) W) ?calls ?done ?stop
 case calls =>
  intro fn W hfn hbW hsW hD hL
  obtain⟨rec,hrec⟩:=recd_name hL
  simp only [← hrec] at hL ⊢
  have hb2:=hB1.size
  have hJ00:Ji w A c l a op n u5.heap.size false W:=⟨hD,b1.below hbW (by omega),b2.below hbW (by omega),b3.below hbW (by omega),b4.below hbW (by omega),b5.below hbW (by omega),hB1.trans (hbW.mono hb2)⟩
  refine CallsIn.mono (offers1_in (u5.heap.size+1) (w.heap.size+1+1+1) (w.heap.size+1+1+1+1) A c l a hl (fun pre W'=>(W'.heap[u5.heap.size+1]? = some (.loop (rec .ready none))∧Ji w A c l a op n u5.heap.size false W')∧∀ q∈pre,q.1≠op) (fun _ W'=>W'.heap[u5.heap.size+1]? = some (.loop (rec .done (some .ret)))∧Ji w A c l a op n u5.heap.size (isF (offL l a) op n) W') W ⟨⟨hL,hJ00⟩,fun q h=>by cases h⟩ (hJ00.caught HX.out) (fun pre W0 h=>h.1.2.caught HX.out) ?hY) ?fin
  case fin =>
   rintro e W' ⟨⟨v,rfl⟩,W0,hb,⟨⟨h1,h2⟩,hq⟩ | ⟨pre,-,h1,h2⟩⟩
   ·have h3:=h2.belows hb (by omega)
    exact⟨⟨_,rfl⟩,h3.mark,.inl ⟨(hb.block _ (Array.getElem?_eq_some_iff.1 h1).1).trans h1,h3,isF_none _ hq⟩⟩
   ·have h3:=h2.belows hb (by omega)
    exact⟨⟨_,rfl⟩,h3.mark,.inr ⟨_,(hb.block _ (Array.getElem?_eq_some_iff.1 h1).1).trans h1,rfl,h3⟩⟩
  case hY =>
   rintro pre o ns A' c' W0 Y ⟨⟨hl0,hJ0⟩,hq⟩ hb hI hF hle hpre
   have hlY:=(hb.block _ (Array.getElem?_eq_some_iff.1 hl0).1).trans hl0
   have hJY:=hJ0.belows hb (by omega)
   have hl0':=(Array.getElem?_eq_some_iff.1 hl0).1
   rw [hrec] at hlY
   refine yieldAt_of hlY hfn rfl (Go_:=fun W3=>Ji w A c l a op n u5.heap.size false W3∧o≠op) (St:=fun q W3=>q=.ret∧Ji w A c l a op n u5.heap.size (isF (offL l a) op n) W3) ?_ ?ygo ?yst
   case ygo =>
    rintro W1 W2 ⟨h,ho⟩ hk hr
    refine⟨true,rfl,fun _=>⟨⟨by rw [hrec];exact hr,h.kept hk (fun i q=>by omega) (by omega)⟩,fun q hm=>?_⟩,fun h=>by cases h⟩
    rcases List.mem_append.1 hm with hm | hm
    ·exact hq q hm
    ·rw [List.mem_singleton] at hm;subst hm;exact ho
   case yst =>
    rintro q W1 W2 ⟨rfl,h⟩ hk hr
    exact⟨false,rfl,(fun h=>by cases h),fun _=>⟨by rw [hrec];exact hr,h.kept hk (fun i q=>by omega) (by omega)⟩⟩
   rw [fold_14]
   have Z5:=Lib.hid z5
   clear z5
   simp only [List.setIfInBounds_toArray,List.set_cons_succ,List.set_cons_zero]
   gi_wp2
   try refine⟨rfl,?_⟩
   intro Y2 hk2 hs2 hbusy
   generalize (recd fn _ _ _ _ _ LoopState.busy none)=busy at hbusy ⊢
   have z5:=Z5.out
   have hJ2:=hJY.kept hk2 (fun i q=>by omega) (by omega)
   have hI2:=irow_kept hI hk2 (fun ad e q=>by have:=hF ad e;omega)
   have c1:=hJ2.bo.cell 0
   have z1:(#[Value.int .i64 op]:Array Value)[0]? = some (.int .i64 op):=rfl
   have c2:=hJ2.bn.cell 0
   have z2:(#[Value.int .i64 n]:Array Value)[0]? = some (.int .i64 n):=rfl
   have c3:=hJ2.br.cell 0
   have z3:(#[Value.bool false]:Array Value)[0]? = some (.bool false):=rfl
   rw [z1] at c1
   rw [z2] at c2
   rw [z3] at c3
   have f3:=hJ2.br.frozen 0
   have HJ2:=Lib.hid hJ2
   by_cases ho:o=op
   ·have e1:(o==op)=true:=by simpa using ho
    have HQ:=Lib.hid (show decide (n∈ns)=isF (offL l a) op n by
     obtain⟨t,ht⟩:=hpre
     rw [← ht,List.append_assoc]
     rw [show [(o,ns)]++t=(o,ns)::t from rfl,isF_snoc_hit ho pre hq]
     simp)
    have hnl:ns.length≤1000000:=by
     have:=ns_le hpre
     omega
    have HCo:=Lib.hid (contains_any' A' c' ns n Y2 hI2 hnl)
    have hff:(Fence.wide.inRound (u5.heap.size+1)).fn 45:=trivial
    generalize decide (n∈ns)=r at *
    have HS:=Lib.hid (hJ2.set (by omega) r)
    have hb9:=(Below.heap_setCell Y2 ⟨w.heap.size+1+1,0,none⟩ (Value.bool r) _ (by show u5.heap.size+1≠w.heap.size+1+1;omega)).trans hbusy
    clear z5 hJ2 hI2 hI hF hJ0 hJY hlY hl0 hk2 hs2 hJ00 hD hL b1 b2 b3 b4 b5 hpre hq hnl ho
    gi_wp2_with (refine⟨trivial,?_⟩;gi_at_call 45;refine(CallsIn.inRound (u5.heap.size+1) ((callsIn_wide (n:=1)).2 HCo.out)).mono ?_;rintro e w2 ⟨rfl,rfl⟩)
    exact⟨hb9,rfl,HQ.out▸HS.out⟩
   ·have e1:(o==op)=false:=by rw [beq_eq_false_iff_ne];exact ho
    have HO:=Lib.hid ho
    clear z5 hJ2 hI2 hI hF hJ0 hJY hlY hl0 hk2 hs2 hJ00 hD hL b1 b2 b3 b4 b5 hpre hq ho
    gi_wp2
    exact⟨hbusy,HJ2.out,HO.out⟩
 case done =>
  rintro W W' ⟨hJ,hq⟩ hk hD
  have hJ':=hJ.kept hk (fun i q=>by omega) (by omega)
  have c2:=hJ'.br.cell 0
  have f2:=hJ'.br.frozen 0
  have hJ2:=hJ'.set (by omega) false
  have e2:=(hJ2.br.apartObj (l:=u5.heap.size) (by omega) (.deferred none)).cell 0
  have hlt:=hJ'.br.lt
  have hD3:=(Below.heap_setCell W' ⟨w.heap.size+1+1,0,none⟩ (Value.bool false) _ (by show u5.heap.size≠w.heap.size+1+1;omega)).trans hD
  have HB:=Lib.hid (hJ2.below.trans (belowK_b (w:=w) (Nat.le_refl _) _ u5.heap.size _ (.deferred none) (by omega) hD3 rfl rfl))
  have HQ:=Lib.hid hq
  rw [show(#[Value.bool false]:Array Value)[0]? = some (.bool false) from rfl] at c2 e2
  clear hJ hk hJ' hJ2 b1 b2 b3 b4 b5 hB1 z5
  gi_wp2
  refine⟨by simp,.inl ⟨_,_,rfl,run_takeDeferred hD3,?_⟩⟩
  refine⟨.bool false,?_,by rw [HQ.out],HB.out⟩
  simp [results,Tryz.results22,go_sem,e2]
 case stop =>
  rintro q W W' ⟨rfl,hJ⟩ hk hD
  have hJ':=hJ.kept hk (fun i q=>by omega) (by omega)
  have e2:=(hJ'.br.apartObj (l:=u5.heap.size) (by omega) (.deferred none)).cell 0
  have HB:=Lib.hid (hJ'.below.trans (belowK_b (w:=w) (Nat.le_refl _) _ u5.heap.size _ (.deferred none) (by omega) hD rfl rfl))
  obtain⟨r,hr⟩:∃ r,isF (offL l a) op n=r:=⟨_,rfl⟩
  rw [hr] at e2
  have HRR:=Lib.hid hr
  clear hr
  rw [show(#[Value.bool r]:Array Value)[0]? = some (.bool r) from rfl] at e2
  clear hJ hk hJ' b1 b2 b3 b4 b5 hB1 z5
  refine wpIn_ret ?_
  gi_wp2
  refine⟨by simp,.inl ⟨_,_,rfl,run_takeDeferred hD,?_⟩⟩
  refine⟨.bool r,?_,by rw [HRR.out],HB.out⟩
  simp [results,Tryz.results22,go_sem,e2]
theorem Choices_anyF(A:Option Addr)(c:Nat)(l:List Nd)(a:Int)(w:World)(hx:Nodes w w.heap.size A l)(hl:l.length≤10000000000000):Calls Tryz.prog 42 #[.slice A l.length c,.int .i64 a] w (ChEndsF l a w) :=
 (callsIn_wide (n:=4)).1 (Choices_inF A c l a w hx hl)
theorem Is_any(A:Option Addr)(c:Nat)(l:List Nd)(a op n:Int)(w:World)(hx:Nodes w w.heap.size A l)(hl:l.length≤10000000000000):Calls Tryz.prog 22 #[.slice A l.length c,.int .i64 a,.int .i64 op,.int .i64 n] w fun e w'=>e=.returned (.bool (isv l a op n))∧Below w.heap.size w w':=by
 rw [← isF_isv]
 exact(callsIn_wide (n:=4)).1 (Is_in A c l a op n w hx hl)
end Go.Proofs.YtodejloonfkkmaaGreat.Cat
