/-
  Package delta, walked: what operators do.
  Package delta, walked: what operators do, each.
  Package delta, walked: a Not ahead of a condition, and another number returned.
  Package delta, walked: a program is changed.
-/
import Derived.Test.YtodejloonfkkmaaGreatDeltaP
import Derived.Test.YtodejloonfkkmaaGreatArenaH
import Derived.Deep.QuietTactic
import Derived.Handy
import Derived.Test.YtodejloonfkkmaaGreatPathH
set_option maxRecDepth 100000
set_option maxHeartbeats 8000000
set_option linter.unusedVariables false
namespace Go.Proofs.YtodejloonfkkmaaGreat.Delta
open Go.RowKit Mem Arena Kinds Path
attribute [local go_sem ↓] Go.wp_at_zero Go.wp_at_succ
theorem index_any'(A:Option Addr)(cap:Nat)(p:List Int)(t:Int)(w:World)(hx:IRow w w.heap.size A p)(hl:p.length≤1000000) :
  Calls Tryz.prog 96 #[.slice A p.length cap,.int .i64 t] w fun e w'=>(∃ r:Int,e=.returned (.int .i64 r)∧decide (0≤r)=decide (t∈p))∧w'=w:=by
 have HX:=Lib.hid hx
 clear hx
 go_enter Tryz.func96,Tryz.ntmps96
 go_wp2
 go_loopw [8] (fun i wr=>∃ k:Nat,k≤p.length∧i=.int .i64 k∧t∉p.take k∧wr=w) (fun i _=>p.length-(intOf i).toNat)
 case atStart=>exact⟨0,by omega,rfl,by simp,rfl⟩
 case round =>
  obtain⟨k,hk,rfl,hb0,rfl⟩:=hrel
  by_cases hlt:k<p.length
  ·obtain⟨x,hxk⟩:∃ x,p[k]? = some x:=⟨_,List.getElem?_eq_getElem hlt⟩
   obtain⟨ad,rfl,hbk,h0'⟩:=HX.out k x hxk
   have j1:(k:Int)<(p.length:Int):=by omega
   have j2:(0:Int)≤(k:Int):=by omega
   by_cases hbad:t=x
   ·have HT:=Lib.hid (show t∈p by rw [hbad];exact List.mem_of_getElem? hxk)
    have e1:(t==x)=true:=by simpa using hbad
    clear hb0 hxk hbad
    go_wp2
    go_ret
    exact⟨⟨_,rfl,by simp [HT.out]⟩,rfl⟩
   ·have HSN:=Lib.hid (show t∉p.take (k+1) by rw [take_snoc p k x hxk,List.mem_append,List.mem_singleton];exact fun h=>h.elim hb0 hbad)
    have e1:(t==x)=false:=by simpa using hbad
    clear hb0 hxk hbad
    go_wp2
    go_roundw
    case rel=>exact⟨k+1,by omega,by go_num,HSN.out,by first | rfl | trivial⟩
    case measure=>simp [intOf];omega
  ·have hk9:k=p.length:=by omega
   subst hk9
   rw [List.take_length] at hb0
   have HB0:=Lib.hid hb0
   have j1:¬ (p.length:Int)<(p.length:Int):=by omega
   clear hb0
   go_wp2
   go_ret
   exact⟨⟨_,rfl,by simp [HB0.out]⟩,rfl⟩
theorem contains_any'(A:Option Addr)(cap:Nat)(p:List Int)(t:Int)(w:World)(hx:IRow w w.heap.size A p)(hl:p.length≤1000000) :
  Calls Tryz.prog 45 #[.slice A p.length cap,.int .i64 t] w fun e w'=>e=.returned (.bool (decide (t∈p)))∧w'=w:=by
 have HI:=Lib.hid (index_any' A cap p t w hx hl)
 clear hx
 generalize decide (t∈p)=y at *
 go_enter Tryz.func45,Tryz.ntmps45
 go_wp2_with (go_at_call 96;refine HI.out.mono ?_;rintro e w1 ⟨⟨r,rfl,hr⟩,rfl⟩)
 go_ret
 exact⟨by rw [← hr];rfl,rfl⟩
theorem ncells_set:∀ (xs:List Nd) (a:Nat) (x:Nd),((ncells xs).set (a*2) (.int .i64 x.1)).set (a*2+1) (.int .i64 x.2)=ncells (xs.set a x)
 | [],_,_=>rfl
 | y::ys,0,x=>rfl
 | y::ys,a+1,x=>by
  have ih:=ncells_set ys a x
  have e:∀ z (zs:List Nd),ncells (z::zs)=.int .i64 z.1::.int .i64 z.2::ncells zs:=fun z zs=>rfl
  rw [List.set_cons_succ,e,e,show(a+1)*2=a*2+1+1 by omega,List.set_cons_succ,List.set_cons_succ,List.set_cons_succ,List.set_cons_succ,ih]
theorem set_swap{xs:List Nd}{a:Nat}(x:Nd)(ha:a<xs.length):xs.set a x=swap xs a (a+1) [x]:=by
 unfold swap
 rw [List.set_eq_take_append_cons_drop,if_pos ha,List.append_assoc]
 rfl
def OpEnds(b:Bool)(ys:List Nd)(w:World)(e:Ending)(w':World):Prop :=
 Below w.heap.size w w'∧((b=true∧∃ A c,e=.returned (.tuple #[.slice A ys.length c,.bool true])∧ys.length≤c∧(A=none→c=0)∧Nodes w' w'.heap.size A ys)∨(b=false∧e=.returned (.tuple #[.slice none 0 0,.bool false])))
section
variable (ps:Int) (VA:Option Addr) (vl vc:Nat) (ad:Addr) (xs:List Nd) (cap a:Nat) (n:Int) (x:Nd)
theorem node_any(w:World)(hx:Nodes w w.heap.size (some ad) xs)(hxa:xs[a]? = some x) :
  Calls Tryz.prog 131 #[.agg #[.int .i64 ps,.slice VA vl vc,.slice (some ad) xs.length cap,.int .i64 a,.int .i64 n]] w fun e w'=>e=.returned (.agg #[.int .i64 x.1,.int .i64 x.2])∧Below w.heap.size w w':=by
 have hb1:Below w.heap.size w (w.alloc (.cells #[.int .i64 ps,.slice VA vl vc,.slice (some ad) xs.length cap,.int .i64 a,.int .i64 n] 123)):=(Below.refl _ _).alloc (Nat.le_refl _) _
 have hb2:=hb1.alloc hb1.size (.cells #[.int .i64 0,.int .i64 0] 47)
 have HB:=Lib.hid hb1
 obtain⟨ad',e,hbk,h0,h1⟩:=(hx.at hb2) a x hxa
 cases e
 have ha:=(List.getElem?_eq_some_iff.1 hxa).1
 have j1:(a:Int)<(xs.length:Int):=by omega
 have j2:(0:Int)≤(a:Int):=by omega
 clear hx hxa hb1 hb2
 go_enter Tryz.func131,Tryz.ntmps131
 go_wp2
 go_returns
 exact⟨rfl,HB.out.alloc HB.out.size _⟩
theorem is_any(A:Option Addr)(tc:Nat)(ts:List Int)(w:World)(hx:Nodes w w.heap.size (some ad) xs)(hxa:xs[a]? = some x)(ht:IRow w w.heap.size A ts)(hl:ts.length≤1000000) :
  Calls Tryz.prog 130 #[.agg #[.int .i64 ps,.slice VA vl vc,.slice (some ad) xs.length cap,.int .i64 a,.int .i64 n],.slice A ts.length tc] w fun e w'=>e=.returned (.bool (decide (x.1∈ts)))∧Below w.heap.size w w':=by
 have hb1:Below w.heap.size w (w.alloc (.cells #[.int .i64 ps,.slice VA vl vc,.slice (some ad) xs.length cap,.int .i64 a,.int .i64 n] 123)):=(Below.refl _ _).alloc (Nat.le_refl _) _
 have HN:=Lib.hid (node_any ps VA vl vc ad xs cap a n x _ (hx.at hb1) hxa)
 have HC:=Lib.hid (fun W (h:Below (w.alloc (.cells #[.int .i64 ps,.slice VA vl vc,.slice (some ad) xs.length cap,.int .i64 a,.int .i64 n] 123)).heap.size (w.alloc (.cells #[.int .i64 ps,.slice VA vl vc,.slice (some ad) xs.length cap,.int .i64 a,.int .i64 n] 123)) W)=>contains_any' A tc ts x.1 W ((ht.at hb1).at h) hl)
 have HB:=Lib.hid hb1
 generalize decide (x.1∈ts)=y at *
 obtain⟨t,v⟩:=x
 have hf:∀ W,(Instr.field 47 (.agg #[.int .i64 t,.int .i64 v]) 0).run Tryz.prog W=.ok (.int .i64 t) W:=fun W=>by kernel_rfl
 clear hx hxa hb1 ht
 go_enter Tryz.func130,Tryz.ntmps130
 go_wp2_with (first
  | (go_at_call 131;refine HN.out.mono ?_;rintro e w1 ⟨rfl,hb⟩)
  | (go_at_call 45;refine(HC.out _ hb).mono ?_;rintro e w2 ⟨rfl,rfl⟩))
 go_ret
 exact⟨rfl,HB.out.trans (hb.mono HB.out.size)⟩
theorem firstKid_any(m:Nat)(w:World)(hx:Nodes w w.heap.size (some ad) xs)(hl:xs.length≤1000000)(hxa:xs[a]? = some x)(hs:scan 1 (xs.drop a)=some m)(hr:1≤ar x) :
  Calls Tryz.prog 136 #[.agg #[.int .i64 ps,.slice VA vl vc,.slice (some ad) xs.length cap,.int .i64 a,.int .i64 n]] w fun e w'=>e=.returned (.int .i64 ((a:Int)+1))∧Below w.heap.size w w':=by
 have hb1:Below w.heap.size w (w.alloc (.cells #[.int .i64 ps,.slice VA vl vc,.slice (some ad) xs.length cap,.int .i64 a,.int .i64 n] 123)):=(Below.refl _ _).alloc (Nat.le_refl _) _
 have HK:=Lib.hid (Kids_any (some ad) cap xs (a:Int) _ (hx.at hb1) hl)
 have HB:=Lib.hid hb1
 have hk:(akids xs (a:Int))[0]? = some ((a:Int)+1):=by
  obtain⟨x',c,k1,k2,k3,k4,k5,k6,k7,k8⟩:=kid_scan (l:=xs) (a:=a) (n:=m) hs
  rw [hxa] at k1
  cases k1
  obtain⟨r,m',r1,r2,-⟩:=k8 0 (by omega)
  rw [scan_0] at r1
  cases r1
  rw [r2]
  simp
 have hlen:0<(akids xs (a:Int)).length:=(List.getElem?_eq_some_iff.1 hk).1
 generalize akids xs (a:Int)=K at *
 have j1:(0:Int)<(K.length:Int):=by omega
 have HQ:=Lib.hid hk
 clear hx hxa hb1 hs hr hk
 go_enter Tryz.func136,Tryz.ntmps136
 go_wp2_with (go_at_call 128;refine HK.out.mono ?_;rintro e w1 ⟨hb,A,c,rfl,hI,-⟩;obtain⟨ad2,rfl,hbk,h0⟩:=hI 0 _ HQ.out;have h0:w1.cell? ad2=some (.int .i64 ((a:Int)+1)):=(by simpa [Addr.add] using h0))
 go_ret
 exact⟨rfl,HB.out.trans (hb.mono HB.out.size)⟩
theorem with_any(y:Nd)(w:World)(hx:Nodes w w.heap.size (some ad) xs)(hl:xs.length≤1000000)(ha:a<xs.length) :
  Calls Tryz.prog 132 #[.agg #[.int .i64 ps,.slice VA vl vc,.slice (some ad) xs.length cap,.int .i64 a,.int .i64 n],.agg #[.int .i64 y.1,.int .i64 y.2]] w (NodesEnds (swap xs a (a+1) [y]) w):=by
 have hb1:Below w.heap.size w (w.alloc (.cells #[.int .i64 ps,.slice VA vl vc,.slice (some ad) xs.length cap,.int .i64 a,.int .i64 n] 123)):=(Below.refl _ _).alloc (Nat.le_refl _) _
 have hb2:=hb1.alloc hb1.size (.cells #[.int .i64 y.1,.int .i64 y.2] 47)
 have HC:=Lib.hid (cloneNodes_any ad cap xs _ (hx.at hb2) (by omega) hl)
 have b1:=(Blk.new w 123 #[.int .i64 ps,.slice VA vl vc,.slice (some ad) xs.length cap,.int .i64 a,.int .i64 n]).alloc (.cells #[.int .i64 y.1,.int .i64 y.2] 47)
 have b2:=Blk.new (w.alloc (.cells #[.int .i64 ps,.slice VA vl vc,.slice (some ad) xs.length cap,.int .i64 a,.int .i64 n] 123)) 47 #[.int .i64 y.1,.int .i64 y.2]
 simp only [World.size_alloc] at b2
 obtain⟨w2,hw2⟩:∃ w2,(w.alloc (.cells #[.int .i64 ps,.slice VA vl vc,.slice (some ad) xs.length cap,.int .i64 a,.int .i64 n] 123)).alloc (.cells #[.int .i64 y.1,.int .i64 y.2] 47)=w2:=⟨_,rfl⟩
 rw [hw2] at hb2 b1 b2 HC
 have HB:=Lib.hid hb2
 have HT:=Lib.hid (fun W (h:Below w2.heap.size w2 W)=>show W.cell? ⟨w.heap.size,3,none⟩=some (.int .i64 a)∧W.cell? ⟨w.heap.size+1,0,none⟩=some (.int .i64 y.1)∧W.cell? ⟨w.heap.size+1,1,none⟩=some (.int .i64 y.2) from⟨(b1.below h b1.lt).cell 3,(b2.below h b2.lt).two⟩)
 have HW:=Lib.hid hw2
 obtain⟨x0,hx0⟩:∃ x0,xs[a]? = some x0:=⟨_,List.getElem?_eq_getElem ha⟩
 have HG:=Lib.hid (ncells_get xs a x0 hx0)
 have HS:=Lib.hid (show xs.set a y=swap xs a (a+1) [y] from set_swap y ha)
 have j1:(a:Int)<(xs.length:Int):=by omega
 have j2:(0:Int)≤(a:Int):=by omega
 have hsz2:w.heap.size≤w2.heap.size:=hb2.size
 clear hx hb1 hb2 b1 b2 hw2 hx0
 go_enter Tryz.func132,Tryz.ntmps132
 go_wp2_with (go_at_call 135;rw [HW.out];refine HC.out.mono ?_;rintro e w3 ⟨g,c,rfl,hO,hb⟩;obtain⟨c0,c1,c2⟩:=HT.out _ hb;have hO1:=(hO.stored (a*2) (.int .i64 y.1)).1;have hO2:=(hO1.stored (a*2+1) (.int .i64 y.2)).1;rw [ncells_set] at hO2;have hgl:=(hO.lt g rfl).1;have hB3:Below w.heap.size w ((w3.setCell ⟨g,a*2,none⟩ (.int .i64 y.1)).setCell ⟨g,a*2+1,none⟩ (.int .i64 y.2)):=((HB.out.trans (hb.mono hsz2)).setCell (p:=⟨g,a*2,none⟩) (by show w.heap.size≤g;omega) _).setCell (p:=⟨g,a*2+1,none⟩) (by show w.heap.size≤g;omega) _;have d0:=(hO.cellAt (a*2) (by omega)).trans HG.out.1;have d1:=(hO.cellAt (a*2+1) (by omega)).trans HG.out.2;have f0:=hO.frozenAt (a*2);have f1:=hO.frozenAt (a*2+1))
 have hO3:=own_nodes (xs:=xs.set a y) (by rw [List.length_set];exact hO2)
 obtain⟨A3,c3,e3,k1,k2,k3⟩:=hO3
 rw [List.length_set] at e3 k1
 have HE:=Lib.hid e3
 have HL:=Lib.hid (show(swap xs a (a+1) [y]).length=xs.length by rw [← HS.out,List.length_set])
 clear e3
 go_ret
 rw [HS.out] at k3
 refine⟨hB3,A3,c3,by rw [HL.out,← HE.out];rfl,by rw [HL.out];exact k1,k2,k3⟩
end
theorem dch_tag{xs:List Nd}{a:Nat}{x:Nd}(h:xs[a]? = some x){op:Int}(n:Int)(ho:op=1∨op=2∨op=3):dch xs a op n=swap xs a (a+1) [(n,x.2)]:=by
 unfold dch
 rw [if_pos ho,getD_at h]
theorem dch_num{xs:List Nd}{a:Nat}{x:Nd}(h:xs[a]? = some x)(n:Int):dch xs a 4 n=swap xs a (a+1) [(x.1,n)]:=by
 unfold dch
 rw [if_neg (by decide),if_pos rfl,getD_at h]
theorem OpEnds.of{b b':Bool}{ys ys':List Nd}{w w1 w2:World}{e:Ending}(h:OpEnds b ys w1 e w2)(hb:Below w.heap.size w w1)(h1:b=b')(h2:ys=ys'):OpEnds b' ys' w e w2:=by
 subst h1 h2
 exact⟨hb.trans (h.1.mono hb.size),h.2⟩
section
variable (ps:Int) (VA:Option Addr) (vl vc:Nat) (ad:Addr) (xs:List Nd) (cap a:Nat) (n:Int) (x:Nd)
theorem box_at(w W:World)(h:Below (w.alloc (.cells #[.int .i64 ps,.slice VA vl vc,.slice (some ad) xs.length cap,.int .i64 a,.int .i64 n] 123)).heap.size (w.alloc (.cells #[.int .i64 ps,.slice VA vl vc,.slice (some ad) xs.length cap,.int .i64 a,.int .i64 n] 123)) W):W.cell? ⟨w.heap.size,0,none⟩=some (.int .i64 ps)∧W.cell? ⟨w.heap.size,1,none⟩=some (.slice VA vl vc)∧W.cell? ⟨w.heap.size,2,none⟩=some (.slice (some ad) xs.length cap)∧W.cell? ⟨w.heap.size,3,none⟩=some (.int .i64 a)∧W.cell? ⟨w.heap.size,4,none⟩=some (.int .i64 n) :=
 have b:=(Blk.new w 123 #[.int .i64 ps,.slice VA vl vc,.slice (some ad) xs.length cap,.int .i64 a,.int .i64 n]).below h (Blk.new w 123 #[.int .i64 ps,.slice VA vl vc,.slice (some ad) xs.length cap,.int .i64 a,.int .i64 n]).lt
 ⟨b.cell 0,b.cell 1,b.cell 2,b.cell 3,b.cell 4⟩
theorem is_lit(ts:List Int)(k:Nat)(hk:ts.length=k)(cs:Array Value)(hcs:(icells ts).toArray=cs)(W:World)(hx:Nodes W W.heap.size (some ad) xs)(hxa:xs[a]? = some x)(hl:k≤1000) :
  Calls Tryz.prog 130 #[.agg #[.int .i64 ps,.slice VA vl vc,.slice (some ad) xs.length cap,.int .i64 a,.int .i64 n],.slice (some ⟨W.heap.size,0,none⟩) k k] (W.alloc (.cells cs 3)) fun e w'=>e=.returned (.bool (decide (x.1∈ts)))∧Below W.heap.size W w':=by
 subst hk hcs
 have hb:Below W.heap.size W (W.alloc (.cells (icells ts).toArray 3)):=(Below.refl _ _).alloc (Nat.le_refl _) _
 refine(is_any ps VA vl vc ad xs cap a n x (some ⟨W.heap.size,0,none⟩) ts.length ts _ (hx.at hb) hxa (IRow.of_blk (Blk.new W 3 (icells ts).toArray) (by rw [World.size_alloc];omega)) (by omega)).mono (fun e w' h=>⟨h.1,hb.trans (h.2.mono hb.size)⟩)
theorem tagged_any(lo hi:Int)(w:World)(hx:Nodes w w.heap.size (some ad) xs)(hl:xs.length≤1000000)(hxa:xs[a]? = some x) :
  Calls Tryz.prog 129 #[.agg #[.int .i64 ps,.slice VA vl vc,.slice (some ad) xs.length cap,.int .i64 a,.int .i64 n],.int .i64 lo,.int .i64 hi] w (OpEnds (inrow x.1 lo hi && inrow n lo hi) (swap xs a (a+1) [(n,x.2)]) w):=by
 have hb1:Below w.heap.size w (w.alloc (.cells #[.int .i64 ps,.slice VA vl vc,.slice (some ad) xs.length cap,.int .i64 a,.int .i64 n] 123)):=(Below.refl _ _).alloc (Nat.le_refl _) _
 have HT:=Lib.hid (fun W h=>box_at ps VA vl vc ad xs cap a n w W h)
 have HX:=Lib.hid (fun W (h:Below (w.alloc (.cells #[.int .i64 ps,.slice VA vl vc,.slice (some ad) xs.length cap,.int .i64 a,.int .i64 n] 123)).heap.size (w.alloc (.cells #[.int .i64 ps,.slice VA vl vc,.slice (some ad) xs.length cap,.int .i64 a,.int .i64 n] 123)) W)=>(hx.at hb1).at h)
 have HB:=Lib.hid hb1
 have HN:=Lib.hid (fun W h=>node_any ps VA vl vc ad xs cap a n x W (HX.out W h) hxa)
 have HV:=Lib.hid (fun W h p q=>with_any ps VA vl vc ad xs cap a n (p,q) W (HX.out W h) hl (List.getElem?_eq_some_iff.1 hxa).1)
 obtain⟨t,v⟩:=x
 have H1:=Lib.hid (fun W=>within_any t lo hi W)
 have H2:=Lib.hid (fun W=>within_any n lo hi W)
 generalize inrow t lo hi=y1 at *
 generalize inrow n lo hi=y2 at *
 clear hx hxa hb1
 go_enter Tryz.func129,Tryz.ntmps129
 cases y1<;>cases y2
 all_goals go_wp2_with (first
  | (go_at_call 131;refine(HN.out _ (Below.refl _ _)).mono ?_;rintro e w1 ⟨rfl,hb⟩;have c0:=fun o=>(HT.out _ (hb.alloc hb.size o)).1;have c1:=fun o=>(HT.out _ (hb.alloc hb.size o)).2.1;have c2:=fun o=>(HT.out _ (hb.alloc hb.size o)).2.2.1;have c3:=fun o=>(HT.out _ (hb.alloc hb.size o)).2.2.2.1;have c4:=fun o=>(HT.out _ (hb.alloc hb.size o)).2.2.2.2;have cq0:=(HT.out _ hb).1;have cq1:=(HT.out _ hb).2.1;have cq2:=(HT.out _ hb).2.2.1;have cq3:=(HT.out _ hb).2.2.2.1;have cq4:=(HT.out _ hb).2.2.2.2)
  | (go_at_call 98;first | ((with_reducible refine(H1.out _).mono ?_);rintro e w2 ⟨rfl,rfl⟩) | ((with_reducible refine(H2.out _).mono ?_);rintro e w2 ⟨rfl,rfl⟩) | fail)
  | (go_at_call 132;refine(HV.out _ (hb.alloc hb.size _) _ _).mono ?_;rintro e w3 ⟨hb3,A,c,rfl,k1,k2,k3⟩))
 all_goals go_returns
 ·exact⟨HB.out.trans ((hb.alloc hb.size _).mono HB.out.size),.inr ⟨rfl,rfl⟩⟩
 ·exact⟨HB.out.trans ((hb.alloc hb.size _).mono HB.out.size),.inr ⟨rfl,rfl⟩⟩
 ·exact⟨HB.out.trans ((hb.alloc hb.size _).mono HB.out.size),.inr ⟨rfl,rfl⟩⟩
 ·exact⟨HB.out.trans (((hb.alloc hb.size _).trans (hb3.mono (hb.alloc hb.size _).size)).mono HB.out.size),.inl ⟨rfl,A,c,rfl,k1,k2,k3⟩⟩
theorem arith_any(w:World)(hx:Nodes w w.heap.size (some ad) xs)(hl:xs.length≤1000000)(hxa:xs[a]? = some x) :
  Calls Tryz.prog 99 #[.agg #[.int .i64 ps,.slice VA vl vc,.slice (some ad) xs.length cap,.int .i64 a,.int .i64 n]] w (OpEnds (dmay x.1 1 n) (dch xs a 1 n) w):=by
 have hb1:Below w.heap.size w (w.alloc (.cells #[.int .i64 ps,.slice VA vl vc,.slice (some ad) xs.length cap,.int .i64 a,.int .i64 n] 123)):=(Below.refl _ _).alloc (Nat.le_refl _) _
 have HG:=Lib.hid (tagged_any ps VA vl vc ad xs cap a n x 7 11 (w.alloc (.cells #[.int .i64 ps,.slice VA vl vc,.slice (some ad) xs.length cap,.int .i64 a,.int .i64 n] 123)) (hx.at hb1) hl hxa)
 have HB:=Lib.hid hb1
 have HD:=Lib.hid (show(inrow x.1 7 11 && inrow n 7 11)=dmay x.1 1 n from rfl)
 have HC:=Lib.hid (dch_tag hxa n (op:=1) (by decide)).symm
 generalize (inrow x.1 7 11 && inrow n 7 11)=y at *
 clear hx hxa hb1
 go_enter Tryz.func99,Tryz.ntmps99
 go_wp2_with (go_at_call 129;refine HG.out.mono ?_;rintro e w1 ⟨hb,⟨hy,A,c,rfl,k1,k2,k3⟩ | ⟨hy,rfl⟩⟩)
 ·go_wp2
  go_returns
  exact OpEnds.of ⟨hb,.inl ⟨hy,A,c,rfl,k1,k2,k3⟩⟩ HB.out HD.out HC.out
 ·go_wp2
  go_returns
  exact OpEnds.of ⟨hb,.inr ⟨hy,rfl⟩⟩ HB.out HD.out HC.out
theorem rel_any(w:World)(hx:Nodes w w.heap.size (some ad) xs)(hl:xs.length≤1000000)(hxa:xs[a]? = some x) :
  Calls Tryz.prog 100 #[.agg #[.int .i64 ps,.slice VA vl vc,.slice (some ad) xs.length cap,.int .i64 a,.int .i64 n]] w (OpEnds (dmay x.1 2 n) (dch xs a 2 n) w):=by
 have hb1:Below w.heap.size w (w.alloc (.cells #[.int .i64 ps,.slice VA vl vc,.slice (some ad) xs.length cap,.int .i64 a,.int .i64 n] 123)):=(Below.refl _ _).alloc (Nat.le_refl _) _
 have HG:=Lib.hid (tagged_any ps VA vl vc ad xs cap a n x 12 17 (w.alloc (.cells #[.int .i64 ps,.slice VA vl vc,.slice (some ad) xs.length cap,.int .i64 a,.int .i64 n] 123)) (hx.at hb1) hl hxa)
 have HB:=Lib.hid hb1
 have HD:=Lib.hid (show(inrow x.1 12 17 && inrow n 12 17)=dmay x.1 2 n from rfl)
 have HC:=Lib.hid (dch_tag hxa n (op:=2) (by decide)).symm
 generalize (inrow x.1 12 17 && inrow n 12 17)=y at *
 clear hx hxa hb1
 go_enter Tryz.func100,Tryz.ntmps100
 go_wp2_with (go_at_call 129;refine HG.out.mono ?_;rintro e w1 ⟨hb,⟨hy,A,c,rfl,k1,k2,k3⟩ | ⟨hy,rfl⟩⟩)
 ·go_wp2
  go_returns
  exact OpEnds.of ⟨hb,.inl ⟨hy,A,c,rfl,k1,k2,k3⟩⟩ HB.out HD.out HC.out
 ·go_wp2
  go_returns
  exact OpEnds.of ⟨hb,.inr ⟨hy,rfl⟩⟩ HB.out HD.out HC.out
theorem logic_any(w:World)(hx:Nodes w w.heap.size (some ad) xs)(hl:xs.length≤1000000)(hxa:xs[a]? = some x) :
  Calls Tryz.prog 101 #[.agg #[.int .i64 ps,.slice VA vl vc,.slice (some ad) xs.length cap,.int .i64 a,.int .i64 n]] w (OpEnds (dmay x.1 3 n) (dch xs a 3 n) w):=by
 have hb1:Below w.heap.size w (w.alloc (.cells #[.int .i64 ps,.slice VA vl vc,.slice (some ad) xs.length cap,.int .i64 a,.int .i64 n] 123)):=(Below.refl _ _).alloc (Nat.le_refl _) _
 have HG:=Lib.hid (tagged_any ps VA vl vc ad xs cap a n x 18 19 (w.alloc (.cells #[.int .i64 ps,.slice VA vl vc,.slice (some ad) xs.length cap,.int .i64 a,.int .i64 n] 123)) (hx.at hb1) hl hxa)
 have HB:=Lib.hid hb1
 have HD:=Lib.hid (show(inrow x.1 18 19 && inrow n 18 19)=dmay x.1 3 n from rfl)
 have HC:=Lib.hid (dch_tag hxa n (op:=3) (by decide)).symm
 generalize (inrow x.1 18 19 && inrow n 18 19)=y at *
 clear hx hxa hb1
 go_enter Tryz.func101,Tryz.ntmps101
 go_wp2_with (go_at_call 129;refine HG.out.mono ?_;rintro e w1 ⟨hb,⟨hy,A,c,rfl,k1,k2,k3⟩ | ⟨hy,rfl⟩⟩)
 ·go_wp2
  go_returns
  exact OpEnds.of ⟨hb,.inl ⟨hy,A,c,rfl,k1,k2,k3⟩⟩ HB.out HD.out HC.out
 ·go_wp2
  go_returns
  exact OpEnds.of ⟨hb,.inr ⟨hy,rfl⟩⟩ HB.out HD.out HC.out
theorem is_row(ts:List Int)(k:Nat)(hk:ts.length=k)(cs:Array Value)(hcs:(icells ts).toArray=cs)(w:World)(hx:Nodes w w.heap.size (some ad) xs)(hxa:xs[a]? = some x)(hl:k≤1000)(W:World)(h:Below (w.alloc (.cells #[.int .i64 ps,.slice VA vl vc,.slice (some ad) xs.length cap,.int .i64 a,.int .i64 n] 123)).heap.size (w.alloc (.cells #[.int .i64 ps,.slice VA vl vc,.slice (some ad) xs.length cap,.int .i64 a,.int .i64 n] 123)) W)(g:Nat)(hg:W.heap.size=g) :
  Calls Tryz.prog 130 #[.agg #[.int .i64 ps,.slice VA vl vc,.slice (some ad) xs.length cap,.int .i64 a,.int .i64 n],.slice (some ⟨g,0,none⟩) k k] (W.alloc (.cells cs 3)) fun e w'=>e=.returned (.bool (decide (x.1∈ts)))∧Below (w.alloc (.cells #[.int .i64 ps,.slice VA vl vc,.slice (some ad) xs.length cap,.int .i64 a,.int .i64 n] 123)).heap.size (w.alloc (.cells #[.int .i64 ps,.slice VA vl vc,.slice (some ad) xs.length cap,.int .i64 a,.int .i64 n] 123)) w':=by
 subst hg
 exact(is_lit ps VA vl vc ad xs cap a n x ts k hk cs hcs W ((hx.at ((Below.refl _ _).alloc (Nat.le_refl _) _)).at h) hxa hl).mono (fun e w' q=>⟨q.1,h.trans (q.2.mono h.size)⟩)
theorem rep_row(k m:Nat)(hs:scan 1 (xs.drop k)=some m)(hcap:xs.length≤cap)(hl:xs.length≤1000000)(w:World)(hx:Nodes w w.heap.size (some ad) xs)(W:World)(h:Below (w.alloc (.cells #[.int .i64 ps,.slice VA vl vc,.slice (some ad) xs.length cap,.int .i64 a,.int .i64 n] 123)).heap.size (w.alloc (.cells #[.int .i64 ps,.slice VA vl vc,.slice (some ad) xs.length cap,.int .i64 a,.int .i64 n] 123)) W)(p q:Int) :
  Calls Tryz.prog 133 #[.slice (some ad) xs.length cap,.int .i64 k,.slice (some ⟨W.heap.size,0,none⟩) 1 1] (W.alloc (.cells #[.int .i64 p,.int .i64 q] 47)) (NodesEnds (swap xs k (k+m) [(p,q)]) W):=by
 have hb:Below W.heap.size W (W.alloc (.cells #[.int .i64 p,.int .i64 q] 47)):=(Below.refl _ _).alloc (Nat.le_refl _) _
 have hN:Nodes W W.heap.size (some ad) xs:=(hx.at ((Below.refl _ _).alloc (Nat.le_refl _) _)).at h
 have hP:Nodes (W.alloc (.cells #[.int .i64 p,.int .i64 q] 47)) (W.alloc (.cells #[.int .i64 p,.int .i64 q] 47)).heap.size (some ⟨W.heap.size,0,none⟩) [(p,q)]:=Nodes.of_cells (Blk.new W 47 #[.int .i64 p,.int .i64 q]).lt (fun j u hj=>by
  rw [(Blk.new W 47 #[.int .i64 p,.int .i64 q]).cell j]
  simpa [ncells] using hj)
 have:=Replace_any (some ad) cap xs k (some ⟨W.heap.size,0,none⟩) 1 [(p,q)] _ (hN.at hb) (fun e=>by cases e) hcap hl hP (fun e=>by cases e) (by simp)
 rw [rep_is hs] at this
 refine Calls.mono (this:Calls _ _ _ _ _) (fun e w' h=>?_)
 have h2:=h.from hb
 refine⟨h2.1,?_⟩
 have e:swap xs k (k+m) [(p,q)]=xs.take k++([(p,q)]++xs.drop (k+m)):=by unfold swap;rw [List.append_assoc]
 rw [e]
 exact h2.2
theorem constant_any(w:World)(hx:Nodes w w.heap.size (some ad) xs)(hl:xs.length≤1000000)(hxa:xs[a]? = some x) :
  Calls Tryz.prog 102 #[.agg #[.int .i64 ps,.slice VA vl vc,.slice (some ad) xs.length cap,.int .i64 a,.int .i64 n]] w (OpEnds (dmay x.1 4 n) (dch xs a 4 n) w):=by
 have hb1:Below w.heap.size w (w.alloc (.cells #[.int .i64 ps,.slice VA vl vc,.slice (some ad) xs.length cap,.int .i64 a,.int .i64 n] 123)):=(Below.refl _ _).alloc (Nat.le_refl _) _
 have HT:=Lib.hid (fun W h=>box_at ps VA vl vc ad xs cap a n w W h)
 have HX:=Lib.hid (fun W (h:Below (w.alloc (.cells #[.int .i64 ps,.slice VA vl vc,.slice (some ad) xs.length cap,.int .i64 a,.int .i64 n] 123)).heap.size (w.alloc (.cells #[.int .i64 ps,.slice VA vl vc,.slice (some ad) xs.length cap,.int .i64 a,.int .i64 n] 123)) W)=>(hx.at hb1).at h)
 have HB:=Lib.hid hb1
 have HN:=Lib.hid (fun W h=>node_any ps VA vl vc ad xs cap a n x W (HX.out W h) hxa)
 have HV:=Lib.hid (fun W h p q=>with_any ps VA vl vc ad xs cap a n (p,q) W (HX.out W h) hl (List.getElem?_eq_some_iff.1 hxa).1)
 have H1:=Lib.hid (is_row ps VA vl vc ad xs cap a n x [1] 1 rfl #[.int .i64 1] rfl w hx hxa (by omega) _ (Below.refl _ _) (w.heap.size+1) (World.size_alloc _ _))
 have H2:=Lib.hid (fun W h=>is_row ps VA vl vc ad xs cap a n x [2] 1 rfl #[.int .i64 2] rfl w hx hxa (by omega) W h _ rfl)
 have H3:=Lib.hid (fun W=>within_any n 0 1 W)
 have HD:=Lib.hid (show(decide (x.1∈[(1:Int)]) || (decide (x.1∈[(2:Int)]) && inrow n 0 1))=dmay x.1 4 n by simp [dmay,inrow])
 have HC:=Lib.hid (dch_num hxa n).symm
 have HI:=Lib.hid (Below.refl (w.alloc (.cells #[.int .i64 ps,.slice VA vl vc,.slice (some ad) xs.length cap,.int .i64 a,.int .i64 n] 123)).heap.size (w.alloc (.cells #[.int .i64 ps,.slice VA vl vc,.slice (some ad) xs.length cap,.int .i64 a,.int .i64 n] 123)))
 obtain⟨t,v⟩:=x
 simp only at H1 H2 HN HD HC ⊢
 generalize decide (t∈[(1:Int)])=y1 at *
 generalize decide (t∈[(2:Int)])=y2 at *
 generalize inrow n 0 1=y3 at *
 clear hx hxa hb1
 cases y1<;>cases y2<;>cases y3
 all_goals go_enter Tryz.func102,Tryz.ntmps102
 all_goals go_wp2_with (first
  | (go_at_call 130;first
    | ((with_reducible refine H1.out.mono ?_);rintro e w1 ⟨rfl,hb⟩;have c0:=fun o=>(HT.out _ (hb.alloc hb.size o)).1;have c1:=fun o=>(HT.out _ (hb.alloc hb.size o)).2.1;have c2:=fun o=>(HT.out _ (hb.alloc hb.size o)).2.2.1;have c3:=fun o=>(HT.out _ (hb.alloc hb.size o)).2.2.2.1;have c4:=fun o=>(HT.out _ (hb.alloc hb.size o)).2.2.2.2;have cq0:=(HT.out _ hb).1;have cq1:=(HT.out _ hb).2.1;have cq2:=(HT.out _ hb).2.2.1;have cq3:=(HT.out _ hb).2.2.2.1;have cq4:=(HT.out _ hb).2.2.2.2)
    | ((with_reducible refine(H2.out _ hb).mono ?_);rintro e w2 ⟨rfl,hb⟩;have c0:=fun o=>(HT.out _ (hb.alloc hb.size o)).1;have c1:=fun o=>(HT.out _ (hb.alloc hb.size o)).2.1;have c2:=fun o=>(HT.out _ (hb.alloc hb.size o)).2.2.1;have c3:=fun o=>(HT.out _ (hb.alloc hb.size o)).2.2.2.1;have c4:=fun o=>(HT.out _ (hb.alloc hb.size o)).2.2.2.2;have cq0:=(HT.out _ hb).1;have cq1:=(HT.out _ hb).2.1;have cq2:=(HT.out _ hb).2.2.1;have cq3:=(HT.out _ hb).2.2.2.1;have cq4:=(HT.out _ hb).2.2.2.2)
    | fail)
  | (go_at_call 98;(with_reducible refine(H3.out _).mono ?_);rintro e w3 ⟨rfl,rfl⟩)
  | (go_at_call 131;refine(HN.out _ hb).mono ?_;rintro e w4 ⟨rfl,hb4⟩;have hb:=hb.trans (hb4.mono hb.size);have c0:=fun o=>(HT.out _ (hb.alloc hb.size o)).1;have c1:=fun o=>(HT.out _ (hb.alloc hb.size o)).2.1;have c2:=fun o=>(HT.out _ (hb.alloc hb.size o)).2.2.1;have c3:=fun o=>(HT.out _ (hb.alloc hb.size o)).2.2.2.1;have c4:=fun o=>(HT.out _ (hb.alloc hb.size o)).2.2.2.2;have cq0:=(HT.out _ hb).1;have cq1:=(HT.out _ hb).2.1;have cq2:=(HT.out _ hb).2.2.1;have cq3:=(HT.out _ hb).2.2.2.1;have cq4:=(HT.out _ hb).2.2.2.2)
  | (go_at_call 132;refine(HV.out _ (hb.alloc hb.size _) _ _).mono ?_;rintro e w5 ⟨hb5,A,c,rfl,k1,k2,k3⟩)
  | fail)
 all_goals go_returns
 all_goals first
  | exact OpEnds.of ⟨hb,.inr ⟨rfl,rfl⟩⟩ HB.out HD.out HC.out
  | exact OpEnds.of ⟨(hb.alloc hb.size _).trans (hb5.mono (hb.alloc hb.size _).size),.inl ⟨rfl,A,c,rfl,k1,k2,k3⟩⟩ HB.out HD.out HC.out
theorem remove_any(m:Nat)(w:World)(hx:Nodes w w.heap.size (some ad) xs)(hl:xs.length≤1000000)(hcap:xs.length≤cap)(hxa:xs[a]? = some x)(hs:scan 1 (xs.drop a)=some m) :
  Calls Tryz.prog 103 #[.agg #[.int .i64 ps,.slice VA vl vc,.slice (some ad) xs.length cap,.int .i64 a,.int .i64 n]] w (OpEnds (dmay x.1 5 n) (dch xs a 5 n) w):=by
 have hb1:Below w.heap.size w (w.alloc (.cells #[.int .i64 ps,.slice VA vl vc,.slice (some ad) xs.length cap,.int .i64 a,.int .i64 n] 123)):=(Below.refl _ _).alloc (Nat.le_refl _) _
 have HT:=Lib.hid (fun W h=>box_at ps VA vl vc ad xs cap a n w W h)
 have HX:=Lib.hid (fun W (h:Below (w.alloc (.cells #[.int .i64 ps,.slice VA vl vc,.slice (some ad) xs.length cap,.int .i64 a,.int .i64 n] 123)).heap.size (w.alloc (.cells #[.int .i64 ps,.slice VA vl vc,.slice (some ad) xs.length cap,.int .i64 a,.int .i64 n] 123)) W)=>(hx.at hb1).at h)
 have HB:=Lib.hid hb1
 have H1:=Lib.hid (is_row ps VA vl vc ad xs cap a n x [21,22,23,24,25] 5 rfl #[.int .i64 21,.int .i64 22,.int .i64 23,.int .i64 24,.int .i64 25] rfl w hx hxa (by omega) _ (Below.refl _ _) (w.heap.size+1) (World.size_alloc _ _))
 have HR:=Lib.hid (rep_row ps VA vl vc ad xs cap a n a m hs hcap hl w hx)
 have HD:=Lib.hid (show(decide (x.1∈[(21:Int),22,23,24,25]) && decide (n=0))=dmay x.1 5 n by simp [dmay])
 have HC:=Lib.hid (show swap xs a (a+m) [(26,0)]=dch xs a 5 n by unfold dch;rw [if_neg (by decide),if_neg (by decide),if_pos rfl,aend_some hs];rfl)
 have HI:=Lib.hid (Below.refl (w.alloc (.cells #[.int .i64 ps,.slice VA vl vc,.slice (some ad) xs.length cap,.int .i64 a,.int .i64 n] 123)).heap.size (w.alloc (.cells #[.int .i64 ps,.slice VA vl vc,.slice (some ad) xs.length cap,.int .i64 a,.int .i64 n] 123)))
 generalize decide (x.1∈[(21:Int),22,23,24,25])=y1 at *
 clear hx hxa hb1 hs
 by_cases h0:n=0
 ·have e1:(n != 0)=false:=by simpa using h0
  have HD2:=Lib.hid (show y1=dmay x.1 5 n by rw [← HD.out,decide_eq_true h0,Bool.and_true])
  clear h0 HD
  cases y1
  all_goals go_enter Tryz.func103,Tryz.ntmps103
  all_goals go_wp2_with (first
   | (go_at_call 130;(with_reducible refine H1.out.mono ?_);rintro e w1 ⟨rfl,hb⟩;have c0:=fun o=>(HT.out _ (hb.alloc hb.size o)).1;have c1:=fun o=>(HT.out _ (hb.alloc hb.size o)).2.1;have c2:=fun o=>(HT.out _ (hb.alloc hb.size o)).2.2.1;have c3:=fun o=>(HT.out _ (hb.alloc hb.size o)).2.2.2.1;have c4:=fun o=>(HT.out _ (hb.alloc hb.size o)).2.2.2.2;have cq0:=(HT.out _ hb).1;have cq1:=(HT.out _ hb).2.1;have cq2:=(HT.out _ hb).2.2.1;have cq3:=(HT.out _ hb).2.2.2.1;have cq4:=(HT.out _ hb).2.2.2.2)
   | (go_at_call 133;(with_reducible refine(HR.out _ hb _ _).mono ?_);rintro e w5 ⟨hb5,A,c,rfl,k1,k2,k3⟩)
   | fail)
  all_goals go_returns
  ·exact OpEnds.of ⟨hb,.inr ⟨rfl,rfl⟩⟩ HB.out HD2.out HC.out
  ·exact OpEnds.of ⟨hb.trans (hb5.mono hb.size),.inl ⟨rfl,A,c,rfl,k1,k2,k3⟩⟩ HB.out HD2.out HC.out
 ·have e1:(n != 0)=true:=by simpa using h0
  have HD2:=Lib.hid (show false=dmay x.1 5 n by rw [← HD.out,decide_eq_false h0,Bool.and_false])
  clear h0 HD
  go_enter Tryz.func103,Tryz.ntmps103
  go_wp2
  go_returns
  exact OpEnds.of ⟨HI.out,.inr ⟨rfl,rfl⟩⟩ HB.out HD2.out HC.out
end
theorem ar_scan{xs:List Nd}{a m:Nat}{x:Nd}(hxa:xs[a]? = some x)(hs:scan 1 (xs.drop a)=some m):0≤ar x:=by
 obtain⟨x',c,k1,k2,-⟩:=kid_scan (l:=xs) (a:=a) (n:=m) hs
 rw [hxa] at k1
 cases k1
 omega
theorem ar_some{x:Nd}(h:0≤ar x)(ht:x.1=23∨x.1=24∨x.1=25):1≤ar x:=by
 unfold ar at h ⊢
 rcases ht with e | e | e
 all_goals
  rw [e] at h ⊢
  rw [if_neg (by decide)] at h ⊢
  split
  ·rename_i c;rw [if_pos c] at h;omega
  ·unfold asks;simp
theorem kid_first{xs:List Nd}{a m:Nat}{x:Nd}(hxa:xs[a]? = some x)(hs:scan 1 (xs.drop a)=some m)(hr:1≤ar x):∃ m1,scan 1 (xs.drop (a+1))=some m1∧1≤m1∧a+1+m1≤xs.length:=by
 obtain⟨x',c,k1,k2,k3,k4,k5,k6,k7,k8⟩:=kid_scan (l:=xs) (a:=a) (n:=m) hs
 rw [hxa] at k1
 cases k1
 obtain⟨r,m',r1,r2,r3,r4,r5⟩:=k8 0 (by omega)
 rw [scan_0] at r1
 cases r1
 have:=T.pos r3
 exact⟨m',r3,by first | exact this.1 | exact this.2,by omega⟩
theorem keepO{w w':World}{base:Nat}{e:TypeId}{size n:Nat}{v:Value}{xs:List Value}(h:w.ownsRow base e size v n xs)(hk:Below w.heap.size w w'):w'.ownsRow base e size v n xs:=own_of_block h (fun i hi=>hk.block i (h.lt i hi).2)
theorem keepV{w w':World}{g:Nat}{t:TypeId}{cs:Array Value}(h:Blk w g t cs)(hk:Below w.heap.size w w'):Blk w' g t cs:=h.below hk h.lt
theorem own_mono{w:World}{base base':Nat}{e:TypeId}{size n:Nat}{v:Value}{xs:List Value}(h:w.ownsRow base e size v n xs)(hb:base'≤base):w.ownsRow base' e size v n xs:=by
 refine⟨h.1,?_⟩
 rcases h.2 with hn | ⟨g,cap,cur,rfl,hbg,rest⟩
 ·exact .inl hn
 ·exact .inr ⟨g,cap,cur,rfl,Nat.le_trans hb hbg,rest⟩
section
variable (ps:Int) (VA:Option Addr) (vl vc:Nat) (ad:Addr) (xs:List Nd) (cap a:Nat) (n:Int) (x:Nd)
theorem first_at(m:Nat)(w:World)(hx:Nodes w w.heap.size (some ad) xs)(hl:xs.length≤1000000)(hxa:xs[a]? = some x)(hs:scan 1 (xs.drop a)=some m)(hr:1≤ar x)(k:Nat)(hk:a+1=k)(W:World)(h:Below (w.alloc (.cells #[.int .i64 ps,.slice VA vl vc,.slice (some ad) xs.length cap,.int .i64 a,.int .i64 n] 123)).heap.size (w.alloc (.cells #[.int .i64 ps,.slice VA vl vc,.slice (some ad) xs.length cap,.int .i64 a,.int .i64 n] 123)) W) :
  Calls Tryz.prog 136 #[.agg #[.int .i64 ps,.slice VA vl vc,.slice (some ad) xs.length cap,.int .i64 a,.int .i64 n]] W fun e w'=>e=.returned (.int .i64 (k:Int))∧Below W.heap.size W w'∧Below (w.alloc (.cells #[.int .i64 ps,.slice VA vl vc,.slice (some ad) xs.length cap,.int .i64 a,.int .i64 n] 123)).heap.size (w.alloc (.cells #[.int .i64 ps,.slice VA vl vc,.slice (some ad) xs.length cap,.int .i64 a,.int .i64 n] 123)) w':=by
 subst hk
 refine(firstKid_any ps VA vl vc ad xs cap a n x m W ((hx.at ((Below.refl _ _).alloc (Nat.le_refl _) _)).at h) hl hxa hs hr).mono (fun e w' q=>⟨q.1,q.2,h.trans (q.2.mono h.size)⟩)
theorem rep_at(k m:Nat)(hs:scan 1 (xs.drop k)=some m)(hcap:xs.length≤cap)(hl:xs.length≤1000000)(w:World)(hx:Nodes w w.heap.size (some ad) xs)(W:World)(h:Below (w.alloc (.cells #[.int .i64 ps,.slice VA vl vc,.slice (some ad) xs.length cap,.int .i64 a,.int .i64 n] 123)).heap.size (w.alloc (.cells #[.int .i64 ps,.slice VA vl vc,.slice (some ad) xs.length cap,.int .i64 a,.int .i64 n] 123)) W)(p q:Int)(vb:Nat)(hv:Blk W vb 47 #[.int .i64 p,.int .i64 q]) :
  Calls Tryz.prog 133 #[.slice (some ad) xs.length cap,.int .i64 k,.slice (some ⟨vb,0,none⟩) 1 1] W fun e w'=>Below (w.alloc (.cells #[.int .i64 ps,.slice VA vl vc,.slice (some ad) xs.length cap,.int .i64 a,.int .i64 n] 123)).heap.size (w.alloc (.cells #[.int .i64 ps,.slice VA vl vc,.slice (some ad) xs.length cap,.int .i64 a,.int .i64 n] 123)) w'∧NodesEnds (swap xs k (k+m) [(p,q)]) (w.alloc (.cells #[.int .i64 ps,.slice VA vl vc,.slice (some ad) xs.length cap,.int .i64 a,.int .i64 n] 123)) e w':=by
 have hN:Nodes W W.heap.size (some ad) xs:=(hx.at ((Below.refl _ _).alloc (Nat.le_refl _) _)).at h
 have hP:Nodes W W.heap.size (some ⟨vb,0,none⟩) [(p,q)]:=Nodes.of_cells hv.lt (fun j u hj=>by
  rw [hv.cell j]
  simpa [ncells] using hj)
 have:=Replace_any (some ad) cap xs k (some ⟨vb,0,none⟩) 1 [(p,q)] _ hN (fun e=>by cases e) hcap hl hP (fun e=>by cases e) (by simp)
 rw [rep_is hs] at this
 refine Calls.mono (this:Calls _ _ _ _ _) (fun e w' hq=>?_)
 have h2:=hq.from h
 have e:swap xs k (k+m) [(p,q)]=xs.take k++([(p,q)]++xs.drop (k+m)):=by unfold swap;rw [List.append_assoc]
 rw [e]
 exact⟨h2.1,h2⟩
theorem clone_at(w:World)(hx:Nodes w w.heap.size (some ad) xs)(hn:0<xs.length)(hl:xs.length≤1000000)(W:World)(h:Below (w.alloc (.cells #[.int .i64 ps,.slice VA vl vc,.slice (some ad) xs.length cap,.int .i64 a,.int .i64 n] 123)).heap.size (w.alloc (.cells #[.int .i64 ps,.slice VA vl vc,.slice (some ad) xs.length cap,.int .i64 a,.int .i64 n] 123)) W) :
  Calls Tryz.prog 135 #[.slice (some ad) xs.length cap] W fun e w'=>∃ g c,e=.returned (.slice (some ⟨g,0,none⟩) xs.length c)∧w'.ownsRow (w.alloc (.cells #[.int .i64 ps,.slice VA vl vc,.slice (some ad) xs.length cap,.int .i64 a,.int .i64 n] 123)).heap.size 47 2 (.slice (some ⟨g,0,none⟩) xs.length c) xs.length (ncells xs)∧Below W.heap.size W w'∧Below (w.alloc (.cells #[.int .i64 ps,.slice VA vl vc,.slice (some ad) xs.length cap,.int .i64 a,.int .i64 n] 123)).heap.size (w.alloc (.cells #[.int .i64 ps,.slice VA vl vc,.slice (some ad) xs.length cap,.int .i64 a,.int .i64 n] 123)) w' :=
 (cloneNodes_any ad cap xs W ((hx.at ((Below.refl _ _).alloc (Nat.le_refl _) _)).at h) hn hl).mono (fun e w' ⟨g,c,e1,e2,e3⟩=>⟨g,c,e1,own_mono e2 h.size,e3,h.trans (e3.mono h.size)⟩)
theorem insert_at(k:Nat)(hk:k<xs.length)(hk1:1≤k)(hl:xs.length≤1000000)(w W:World)(h:Below (w.alloc (.cells #[.int .i64 ps,.slice VA vl vc,.slice (some ad) xs.length cap,.int .i64 a,.int .i64 n] 123)).heap.size (w.alloc (.cells #[.int .i64 ps,.slice VA vl vc,.slice (some ad) xs.length cap,.int .i64 a,.int .i64 n] 123)) W)(p q:Int)(g c vb:Nat)(ho:W.ownsRow (w.alloc (.cells #[.int .i64 ps,.slice VA vl vc,.slice (some ad) xs.length cap,.int .i64 a,.int .i64 n] 123)).heap.size 47 2 (.slice (some ⟨g,0,none⟩) xs.length c) xs.length (ncells xs))(hv:Blk W vb 47 #[.int .i64 p,.int .i64 q]) :
  Calls Tryz.prog 134 #[.slice (some ⟨g,0,none⟩) xs.length c,.int .i64 k,.slice (some ⟨vb,0,none⟩) 1 1] W fun e w'=>Below (w.alloc (.cells #[.int .i64 ps,.slice VA vl vc,.slice (some ad) xs.length cap,.int .i64 a,.int .i64 n] 123)).heap.size (w.alloc (.cells #[.int .i64 ps,.slice VA vl vc,.slice (some ad) xs.length cap,.int .i64 a,.int .i64 n] 123)) w'∧NodesEnds (swap xs k k [(p,q)]) (w.alloc (.cells #[.int .i64 ps,.slice VA vl vc,.slice (some ad) xs.length cap,.int .i64 a,.int .i64 n] 123)) e w':=by
 have hne:vb≠g:=by
  intro e
  subst e
  rcases ho.2 with⟨h',_⟩ | ⟨g',c',cur,h',hb,hg,hnc,hcm,hcs,htake⟩
  ·simp at h'
  ·simp only [Value.slice.injEq,Option.some.injEq,Addr.mk.injEq,and_true,true_and] at h'
   obtain⟨rfl,rfl⟩:=h'
   have e:(some (Obj.cells cur 47 (0,0)):Option Obj)=some (.cells #[.int .i64 p,.int .i64 q] 47 (0,0)):=hg.symm.trans hv
   simp only [Option.some.injEq,Obj.cells.injEq] at e
   rw [e.1] at hcs
   simp at hcs
   omega
 refine(Insert_any g c xs _ rfl _ k (p,q) vb W ho hv hne hk hl).mono (fun e w' q'=>?_)
 obtain⟨hb,g2,c2,e1,e2,e3⟩:=q'
 have hB:Below (w.alloc (.cells #[.int .i64 ps,.slice VA vl vc,.slice (some ad) xs.length cap,.int .i64 a,.int .i64 n] 123)).heap.size (w.alloc (.cells #[.int .i64 ps,.slice VA vl vc,.slice (some ad) xs.length cap,.int .i64 a,.int .i64 n] 123)) w':=h.trans hb
 have hlen:(swap xs k k [(p,q)]).length=xs.length+1:=by rw [swap_len (by omega),List.length_singleton];omega
 refine⟨hB,hB,_,_,by rw [hlen];exact e1,by rw [hlen];exact e2,(fun e=>by cases e),?_⟩
 have e:swap xs k k [(p,q)]=xs.take k++(p,q)::xs.drop k:=by unfold swap;rw [List.append_assoc];rfl
 rw [e]
 exact e3
theorem giveBack_any(m:Nat)(w:World)(hx:Nodes w w.heap.size (some ad) xs)(hl:xs.length≤1000000)(hcap:xs.length≤cap)(hxa:xs[a]? = some x)(hs:scan 1 (xs.drop a)=some m) :
  Calls Tryz.prog 105 #[.agg #[.int .i64 ps,.slice VA vl vc,.slice (some ad) xs.length cap,.int .i64 a,.int .i64 n]] w (OpEnds (dmay x.1 7 n) (dch xs a 7 n) w):=by
 have hb1:Below w.heap.size w (w.alloc (.cells #[.int .i64 ps,.slice VA vl vc,.slice (some ad) xs.length cap,.int .i64 a,.int .i64 n] 123)):=(Below.refl _ _).alloc (Nat.le_refl _) _
 have HT:=Lib.hid (fun W h=>box_at ps VA vl vc ad xs cap a n w W h)
 have HX:=Lib.hid (fun W (h:Below (w.alloc (.cells #[.int .i64 ps,.slice VA vl vc,.slice (some ad) xs.length cap,.int .i64 a,.int .i64 n] 123)).heap.size (w.alloc (.cells #[.int .i64 ps,.slice VA vl vc,.slice (some ad) xs.length cap,.int .i64 a,.int .i64 n] 123)) W)=>(hx.at hb1).at h)
 have HB:=Lib.hid hb1
 have H1:=Lib.hid (is_row ps VA vl vc ad xs cap a n x [25] 1 rfl #[.int .i64 25] rfl w hx hxa (by omega) _ (Below.refl _ _) (w.heap.size+1) (World.size_alloc _ _))
 have HD:=Lib.hid (show decide (x.1∈[(25:Int)])=dmay x.1 7 n by simp [dmay])
 by_cases h0:x.1=25
 ·have hr:=ar_some (ar_scan hxa hs) (.inr (.inr h0))
  obtain⟨m1,s1,s2,s3⟩:=kid_first hxa hs hr
  obtain⟨k,hk⟩:∃ k,a+1=k:=⟨_,rfl⟩
  rw [hk] at s1 s3
  have HK:=Lib.hid (first_at ps VA vl vc ad xs cap a n x m w hx hl hxa hs hr k hk)
  have HR:=Lib.hid (rep_at ps VA vl vc ad xs cap a n k m1 s1 hcap hl w hx)
  have HC:=Lib.hid (show swap xs k (k+m1) [(1,n)]=dch xs a 7 n by unfold dch;rw [if_neg (by decide),if_neg (by decide),if_neg (by decide),if_neg (by decide),hk,aend_some s1];rfl)
  have hd:decide (x.1∈[(25:Int)])=true:=by simp [h0]
  rw [hd] at H1 HD
  clear hx hxa hb1 hs h0 hr s1 s2 s3 hk hd
  go_enter Tryz.func105,Tryz.ntmps105
  go_wp2_with (first
   | (go_at_call 130;(with_reducible refine H1.out.mono ?_);rintro e w1 ⟨rfl,hB⟩)
   | fail)
  have hC:=HT.out _ hB.drew
  go_region_held3 (fun w'=>w'.cell? ⟨w.heap.size,0,none⟩=some (.int .i64 ps)∧w'.cell? ⟨w.heap.size,1,none⟩=some (.slice VA vl vc)∧w'.cell? ⟨w.heap.size,2,none⟩=some (.slice (some ad) xs.length cap)∧w'.cell? ⟨w.heap.size,3,none⟩=some (.int .i64 a)∧w'.cell? ⟨w.heap.size,4,none⟩=some (.int .i64 n)) (first | (with_reducible exact HT.out _ hB) | (with_reducible exact HT.out _ hB.drew) | (with_reducible exact HT.out _ (hB.alloc hB.size _)) | (with_reducible exact HT.out _ (hB.alloc hB.size _).drew) | fail) (first
   | (go_at_call 136;(with_reducible refine(HK.out _ (by first | exact hB.drew | exact(hB.alloc hB.size _).drew)).mono ?_);rintro e w4 ⟨rfl,hk4,hB⟩;first | (have hV:=keepV (Blk.drew (Blk.new _ 47 #[.int .i64 1,.int .i64 n])) hk4) | skip)
   | (go_at_call 133;first
     | ((with_reducible refine(HR.out _ hB _ _ _ hV).mono ?_);rintro e w5 ⟨hB,hb6,A,c,rfl,k1,k2,k3⟩)
     | ((with_reducible refine(HR.out _ (hB.alloc hB.size _) _ _ _ (Blk.new _ 47 #[.int .i64 1,.int .i64 n])).mono ?_);rintro e w5 ⟨hB,hb6,A,c,rfl,k1,k2,k3⟩)
     | fail)
   | fail)
  all_goals go_wp2
  all_goals go_returns
  all_goals exact OpEnds.of ⟨hB,.inl ⟨rfl,A,c,rfl,k1,k2,k3⟩⟩ HB.out HD.out HC.out
 ·have hd:decide (x.1∈[(25:Int)])=false:=by simp [h0]
  rw [hd] at H1 HD
  clear hx hxa hb1 hs h0 hd
  go_enter Tryz.func105,Tryz.ntmps105
  go_wp2_with (first
   | (go_at_call 130;(with_reducible refine H1.out.mono ?_);rintro e w1 ⟨rfl,hB⟩)
   | fail)
  go_returns
  exact OpEnds.of ⟨hB,.inr ⟨rfl,rfl⟩⟩ HB.out HD.out rfl
theorem negate_any(m:Nat)(w:World)(hx:Nodes w w.heap.size (some ad) xs)(hl:xs.length≤1000000)(hxa:xs[a]? = some x)(hs:scan 1 (xs.drop a)=some m) :
  Calls Tryz.prog 104 #[.agg #[.int .i64 ps,.slice VA vl vc,.slice (some ad) xs.length cap,.int .i64 a,.int .i64 n]] w (OpEnds (dmay x.1 6 n) (dch xs a 6 n) w):=by
 have hb1:Below w.heap.size w (w.alloc (.cells #[.int .i64 ps,.slice VA vl vc,.slice (some ad) xs.length cap,.int .i64 a,.int .i64 n] 123)):=(Below.refl _ _).alloc (Nat.le_refl _) _
 have HT:=Lib.hid (fun W h=>box_at ps VA vl vc ad xs cap a n w W h)
 have HX:=Lib.hid (fun W (h:Below (w.alloc (.cells #[.int .i64 ps,.slice VA vl vc,.slice (some ad) xs.length cap,.int .i64 a,.int .i64 n] 123)).heap.size (w.alloc (.cells #[.int .i64 ps,.slice VA vl vc,.slice (some ad) xs.length cap,.int .i64 a,.int .i64 n] 123)) W)=>(hx.at hb1).at h)
 have HB:=Lib.hid hb1
 have H1:=Lib.hid (is_row ps VA vl vc ad xs cap a n x [23,24] 2 rfl #[.int .i64 23,.int .i64 24] rfl w hx hxa (by omega) _ (Below.refl _ _) (w.heap.size+1) (World.size_alloc _ _))
 have HD:=Lib.hid (show(decide (x.1∈[(23:Int),24]) && decide (n=0))=dmay x.1 6 n by simp [dmay])
 have HI:=Lib.hid (Below.refl (w.alloc (.cells #[.int .i64 ps,.slice VA vl vc,.slice (some ad) xs.length cap,.int .i64 a,.int .i64 n] 123)).heap.size (w.alloc (.cells #[.int .i64 ps,.slice VA vl vc,.slice (some ad) xs.length cap,.int .i64 a,.int .i64 n] 123)))
 by_cases h0:n=0
 ·have e1:(n != 0)=false:=by simpa using h0
  by_cases h1:x.1=23∨x.1=24
  ·have hr:=ar_some (ar_scan hxa hs) (h1.elim .inl (fun q=>.inr (.inl q)))
   obtain⟨m1,s1,s2,s3⟩:=kid_first hxa hs hr
   obtain⟨k,hk⟩:∃ k,a+1=k:=⟨_,rfl⟩
   rw [hk] at s1 s3
   have HK:=Lib.hid (first_at ps VA vl vc ad xs cap a n x m w hx hl hxa hs hr k hk)
   have HCl:=Lib.hid (clone_at ps VA vl vc ad xs cap a n w hx (by omega) hl)
   have HR:=Lib.hid (insert_at ps VA vl vc ad xs cap a n k (by omega) (by omega) hl w)
   have HC:=Lib.hid (show swap xs k k [(6,0)]=dch xs a 6 n by unfold dch;rw [if_neg (by decide),if_neg (by decide),if_neg (by decide),if_pos rfl,hk])
   have hd:decide (x.1∈[(23:Int),24])=true:=by simpa using h1
   rw [hd] at H1
   have HD2:=Lib.hid (show true=dmay x.1 6 n by rw [← HD.out,hd,decide_eq_true h0];rfl)
   clear hx hxa hb1 hs h0 h1 hr s1 s2 s3 hk hd HD
   go_enter Tryz.func104,Tryz.ntmps104
   go_wp2_with (first
    | (go_at_call 130;(with_reducible refine H1.out.mono ?_);rintro e w1 ⟨rfl,hB⟩;have c0:=fun o=>(HT.out _ (hB.alloc hB.size o)).1;have c1:=fun o=>(HT.out _ (hB.alloc hB.size o)).2.1;have c2:=fun o=>(HT.out _ (hB.alloc hB.size o)).2.2.1;have c3:=fun o=>(HT.out _ (hB.alloc hB.size o)).2.2.2.1;have c4:=fun o=>(HT.out _ (hB.alloc hB.size o)).2.2.2.2;have cq0:=(HT.out _ hB).1;have cq1:=(HT.out _ hB).2.1;have cq2:=(HT.out _ hB).2.2.1;have cq3:=(HT.out _ hB).2.2.2.1;have cq4:=(HT.out _ hB).2.2.2.2)
    | fail)
   have hC:=HT.out _ hB.drew
   go_region_held3 (fun w'=>w'.cell? ⟨w.heap.size,0,none⟩=some (.int .i64 ps)∧w'.cell? ⟨w.heap.size,1,none⟩=some (.slice VA vl vc)∧w'.cell? ⟨w.heap.size,2,none⟩=some (.slice (some ad) xs.length cap)∧w'.cell? ⟨w.heap.size,3,none⟩=some (.int .i64 a)∧w'.cell? ⟨w.heap.size,4,none⟩=some (.int .i64 n)) (first | (with_reducible exact HT.out _ hB) | (with_reducible exact HT.out _ hB.drew) | (with_reducible exact HT.out _ (hB.alloc hB.size _)) | (with_reducible exact HT.out _ (hB.alloc hB.size _).drew) | fail) (first
    | (go_at_call 136;(with_reducible refine(HK.out _ (by first | exact hB.drew | exact(hB.alloc hB.size _).drew | exact hB | exact hB.alloc hB.size _)).mono ?_);rintro e w4 ⟨rfl,hk4,hB⟩;(first | (have hV:=keepV hV hk4) | (have hV:=keepV (Blk.drew (Blk.new _ 47 #[.int .i64 6,.int .i64 0])) hk4) | (have hV:=keepV (Blk.new _ 47 #[.int .i64 6,.int .i64 0]) hk4) | skip);(first | (have hO:=keepO hO hk4) | (have hO:=keepO (hO.alloc _) hk4) | skip))
    | (go_at_call 135;(with_reducible refine(HCl.out _ (by first | exact hB.drew | exact(hB.alloc hB.size _).drew | exact hB | exact hB.alloc hB.size _)).mono ?_);rintro e w4 ⟨g,c,rfl,hO,hk4,hB⟩;(first | (have hV:=keepV hV hk4) | (have hV:=keepV (Blk.drew (Blk.new _ 47 #[.int .i64 6,.int .i64 0])) hk4) | (have hV:=keepV (Blk.new _ 47 #[.int .i64 6,.int .i64 0]) hk4) | skip))
    | (go_at_call 134;first
      | ((with_reducible refine(HR.out _ hB _ _ _ _ _ hO hV).mono ?_);rintro e w5 ⟨hB,hb6,A,c,rfl,k1,k2,k3⟩)
      | ((with_reducible refine(HR.out _ (hB.alloc hB.size _) _ _ _ _ _ (hO.alloc _) (Blk.new _ 47 #[.int .i64 6,.int .i64 0])).mono ?_);rintro e w5 ⟨hB,hb6,A,c,rfl,k1,k2,k3⟩)
      | fail)
    | fail)
   all_goals go_wp2
   all_goals go_returns
   all_goals exact OpEnds.of ⟨hB,.inl ⟨rfl,A,_,rfl,k1,k2,k3⟩⟩ HB.out HD2.out HC.out
  ·have hd:decide (x.1∈[(23:Int),24])=false:=by simpa using h1
   rw [hd] at H1
   have HD2:=Lib.hid (show false=dmay x.1 6 n by rw [← HD.out,hd];rfl)
   clear hx hxa hb1 hs h0 h1 hd HD
   go_enter Tryz.func104,Tryz.ntmps104
   go_wp2_with (first
    | (go_at_call 130;(with_reducible refine H1.out.mono ?_);rintro e w1 ⟨rfl,hB⟩;have c0:=fun o=>(HT.out _ (hB.alloc hB.size o)).1;have c1:=fun o=>(HT.out _ (hB.alloc hB.size o)).2.1;have c2:=fun o=>(HT.out _ (hB.alloc hB.size o)).2.2.1;have c3:=fun o=>(HT.out _ (hB.alloc hB.size o)).2.2.2.1;have c4:=fun o=>(HT.out _ (hB.alloc hB.size o)).2.2.2.2;have cq0:=(HT.out _ hB).1;have cq1:=(HT.out _ hB).2.1;have cq2:=(HT.out _ hB).2.2.1;have cq3:=(HT.out _ hB).2.2.2.1;have cq4:=(HT.out _ hB).2.2.2.2)
    | fail)
   go_returns
   exact OpEnds.of ⟨hB,.inr ⟨rfl,rfl⟩⟩ HB.out HD2.out rfl
 ·have e1:(n != 0)=true:=by simpa using h0
  have HD2:=Lib.hid (show false=dmay x.1 6 n by rw [← HD.out,decide_eq_false h0,Bool.and_false])
  clear hx hxa hb1 hs h0 HD
  go_enter Tryz.func104,Tryz.ntmps104
  go_wp2
  go_returns
  exact OpEnds.of ⟨HI.out,.inr ⟨rfl,rfl⟩⟩ HB.out HD2.out rfl
end
def opsv:Value:=.agg #[.nilFunc,.func (.func 99) #[] #[],.func (.func 100) #[] #[],.func (.func 101) #[] #[],.func (.func 102) #[] #[],.func (.func 103) #[] #[],.func (.func 104) #[] #[],.func (.func 105) #[] #[]]
def opf(op:Int):FuncId:=if op=1 then 99 else if op=2 then 100 else if op=3 then 101 else if op=4 then 102 else if op=5 then 103 else if op=6 then 104 else 105
theorem operators_any(w:World):Calls Tryz.prog 49 #[] w fun e w'=>e=.returned opsv∧Below w.heap.size w w':=by
 go_enter Tryz.func49,Tryz.ntmps49
 go_wp2
 exact bodyPost_ret (v:=opsv) (by simp [opsv,results,Tryz.results49,go_sem]) rfl ⟨rfl,(Below.refl _ _).alloc (Nat.le_refl _) _⟩
theorem seven{op:Int}(h:inrow op 1 7=true):op=1∨op=2∨op=3∨op=4∨op=5∨op=6∨op=7:=by
 unfold inrow at h
 rw [decide_eq_true_eq] at h
 omega
theorem index_ops{op:Int}(h:inrow op 1 7=true)(W:World):(Instr.index 120 opsv (.int .i64 op)).run Tryz.prog W=.ok (.func (.func (opf op)) #[] #[]) W:=by
 rcases seven h with rfl | rfl | rfl | rfl | rfl | rfl | rfl<;>kernel_rfl
theorem enter_ops{op:Int}(h:inrow op 1 7=true)(cs:Array Value)(W:World):(callFunc (opf op) cs).run Tryz.prog W=.ok (.enter (opf op) cs) W:=by
 rcases seven h with rfl | rfl | rfl | rfl | rfl | rfl | rfl<;>rfl
theorem opf_any{op:Int}(h:inrow op 1 7=true)(ps:Int)(VA:Option Addr)(vl vc:Nat)(ad:Addr)(xs:List Nd)(cap a:Nat)(n:Int)(x:Nd)(m:Nat)(w:World)(hx:Nodes w w.heap.size (some ad) xs)(hl:xs.length≤1000000)(hcap:xs.length≤cap)(hxa:xs[a]? = some x)(hs:scan 1 (xs.drop a)=some m) :
  Calls Tryz.prog (opf op) #[.agg #[.int .i64 ps,.slice VA vl vc,.slice (some ad) xs.length cap,.int .i64 a,.int .i64 n]] w (OpEnds (dmay x.1 op n) (dch xs a op n) w):=by
 rcases seven h with rfl | rfl | rfl | rfl | rfl | rfl | rfl
 ·exact arith_any ps VA vl vc ad xs cap a n x w hx hl hxa
 ·exact rel_any ps VA vl vc ad xs cap a n x w hx hl hxa
 ·exact logic_any ps VA vl vc ad xs cap a n x w hx hl hxa
 ·exact constant_any ps VA vl vc ad xs cap a n x w hx hl hxa
 ·exact remove_any ps VA vl vc ad xs cap a n x m w hx hl hcap hxa hs
 ·exact negate_any ps VA vl vc ad xs cap a n x m w hx hl hxa hs
 ·exact giveBack_any ps VA vl vc ad xs cap a n x m w hx hl hcap hxa hs
theorem no_op{op:Int}(h:inrow op 1 7=false)(t n:Int):dmay t op n=false:=by
 unfold inrow at h
 rw [decide_eq_false_iff_not] at h
 unfold dmay
 rw [if_neg (by omega),if_neg (by omega),if_neg (by omega),if_neg (by omega),if_neg (by omega),if_neg (by omega),if_neg (by omega)]
theorem far{w:World}{B:Nat}{R:Option Addr}{l:List Nd}{g:Nat}{T:TypeId}{u:Int}{a1 a2:Option Addr}{n1 c1 n2 c2:Nat}(h:Nodes w B R l)(hz:Blk w g T #[.int .i64 u,.slice a1 n1 c1,.slice a2 n2 c2])(i:Nat)(v:Value) :
  Nodes (w.setCell ⟨g,i,none⟩ v) B R l:=by
 intro j x hx
 obtain⟨ad,e,hlt,q0,q1⟩:=h j x hx
 have hb:=add_blockN ad (j*2)
 have hne:ad.block≠g:=by
  intro hg
  rw [hb,hg,hz.cell] at q1
  match ho:(ad.add (j*2)).off,q1 with
  | 0,q1=>simp at q1
  | 1,q1=>simp at q1
  | o+2,q1=>simp at q1
 refine⟨ad,e,hlt,(World.cell?_of_block ?_).trans q0,(World.cell?_of_block ?_).trans q1⟩
 ·rw [hb];exact Below.heap_setCell _ _ _ _ hne
 ·show(w.setCell ⟨g,i,none⟩ v).heap[(ad.add (j*2)).block]? = w.heap[(ad.add (j*2)).block]?
  rw [hb];exact Below.heap_setCell _ _ _ _ hne
theorem row_apart{w:World}{B:Nat}{A:Option Addr}{ks:List Int}{g:Nat}(h:IRow w B A ks)(hA:∀ ad,A=some ad→ad.block≠g)(i:Nat)(v:Value):IRow (w.setCell ⟨g,i,none⟩ v) B A ks:=by
 intro j x hx
 obtain⟨ad,e,hlt,q⟩:=h j x hx
 refine⟨ad,e,hlt,(World.cell?_of_block ?_).trans q⟩
 rw [add_blockN]
 exact Below.heap_setCell _ _ _ _ (hA ad e)
theorem nothing_ok(w:World):Prg.Ok ⟨0,none,0,[],none,0,[]⟩ w:=⟨(fun i x h=>by simp at h),Nodes.nil _ _ _,by simp,by simp,by simp,by simp,fun _=>rfl,fun _=>rfl⟩
theorem AEndsF.gone{p:Prg}{d:Dlt}{w w':World}{e:Ending}{v:Int}(h:aerr p.xs d.p d.op d.n=v)(hv:v≠0)(hb:Below w.heap.size w w')(he:e=.returned (.tuple #[.agg #[.int .i64 0,.slice none 0 0,.slice none 0 0],.int .i64 v])):AEndsF p d w e w':=by
 subst h
 exact⟨hb,.inr ⟨hv,none,0,none,0,he,nothing_ok _⟩⟩
section
variable (ps:Int) (VA:Option Addr) (vc:Nat) (vs:List Int) (B:Option Addr) (xs:List Nd) (cap:Nat) (DA:Option Addr) (dc:Nat) (dp:List Int) (op n:Int)
def w3(w:World)(ps:Int)(VA:Option Addr)(vc:Nat)(vs:List Int)(B:Option Addr)(xs:List Nd)(cap:Nat)(DA:Option Addr)(dc:Nat)(dp:List Int)(op n:Int):World :=
 ((w.alloc (.cells #[.int .i64 ps,.slice VA vs.length vc,.slice B xs.length cap] 25)).alloc (.cells #[.slice DA dp.length dc,.int .i64 op,.int .i64 n] 43)).alloc (.cells #[.int .i64 0,.slice none 0 0,.slice none 0 0] 25)
theorem w3_is(w:World)(ps:Int)(VA:Option Addr)(vc:Nat)(vs:List Int)(B:Option Addr)(xs:List Nd)(cap:Nat)(DA:Option Addr)(dc:Nat)(dp:List Int)(op n:Int):w3 w ps VA vc vs B xs cap DA dc dp op n =
 ((w.alloc (.cells #[.int .i64 ps,.slice VA vs.length vc,.slice B xs.length cap] 25)).alloc (.cells #[.slice DA dp.length dc,.int .i64 op,.int .i64 n] 43)).alloc (.cells #[.int .i64 0,.slice none 0 0,.slice none 0 0] 25):=rfl
structure Boxes (w:World) (W:World):Prop where
 p:Blk W w.heap.size 25 #[.int .i64 ps,.slice VA vs.length vc,.slice B xs.length cap]
 d:Blk W (w.heap.size+1) 43 #[.slice DA dp.length dc,.int .i64 op,.int .i64 n]
 r:Blk W (w.heap.size+1+1) 25 #[.int .i64 0,.slice none 0 0,.slice none 0 0]
 b:Below w.heap.size w W
theorem Boxes.mk'(w:World):Boxes ps VA vc vs B xs cap DA dc dp op n w (w3 w ps VA vc vs B xs cap DA dc dp op n):=by
 have hb1:Below w.heap.size w (w.alloc (.cells #[.int .i64 ps,.slice VA vs.length vc,.slice B xs.length cap] 25)):=(Below.refl _ _).alloc (Nat.le_refl _) _
 have hb2:=hb1.alloc hb1.size (.cells #[.slice DA dp.length dc,.int .i64 op,.int .i64 n] 43)
 have hb3:=hb2.alloc hb2.size (.cells #[.int .i64 0,.slice none 0 0,.slice none 0 0] 25)
 have b1:=((Blk.new w 25 #[.int .i64 ps,.slice VA vs.length vc,.slice B xs.length cap]).alloc (.cells #[.slice DA dp.length dc,.int .i64 op,.int .i64 n] 43)).alloc (.cells #[.int .i64 0,.slice none 0 0,.slice none 0 0] 25)
 have b2:=(Blk.new (w.alloc (.cells #[.int .i64 ps,.slice VA vs.length vc,.slice B xs.length cap] 25)) 43 #[.slice DA dp.length dc,.int .i64 op,.int .i64 n]).alloc (.cells #[.int .i64 0,.slice none 0 0,.slice none 0 0] 25)
 have b3:=Blk.new ((w.alloc (.cells #[.int .i64 ps,.slice VA vs.length vc,.slice B xs.length cap] 25)).alloc (.cells #[.slice DA dp.length dc,.int .i64 op,.int .i64 n] 43)) 25 #[.int .i64 0,.slice none 0 0,.slice none 0 0]
 simp only [World.size_alloc] at b2 b3
 exact⟨b1,b2,b3,hb3⟩
variable {ps VA vc vs B xs cap DA dc dp op n}
theorem Boxes.below{w W W':World}(h:Boxes ps VA vc vs B xs cap DA dc dp op n w W)(hb:Below W.heap.size W W'):Boxes ps VA vc vs B xs cap DA dc dp op n w W' :=
 ⟨h.p.below hb h.p.lt,h.d.below hb h.d.lt,h.r.below hb h.r.lt,h.b.trans (hb.mono h.b.size)⟩
theorem Boxes.drew{w W:World}(h:Boxes ps VA vc vs B xs cap DA dc dp op n w W):Boxes ps VA vc vs B xs cap DA dc dp op n w W.drew:=h.below (Below.refl _ _).drew
theorem Boxes.cells{w W:World}(h:Boxes ps VA vc vs B xs cap DA dc dp op n w W) :
  (W.cell? ⟨w.heap.size,0,none⟩=some (.int .i64 ps)∧W.cell? ⟨w.heap.size,1,none⟩=some (.slice VA vs.length vc)∧W.cell? ⟨w.heap.size,2,none⟩=some (.slice B xs.length cap))∧(W.cell? ⟨w.heap.size+1,0,none⟩=some (.slice DA dp.length dc)∧W.cell? ⟨w.heap.size+1,1,none⟩=some (.int .i64 op)∧W.cell? ⟨w.heap.size+1,2,none⟩=some (.int .i64 n))∧(W.cell? ⟨w.heap.size+1+1,0,none⟩=some (.int .i64 0)∧W.cell? ⟨w.heap.size+1+1,1,none⟩=some (.slice none 0 0)∧W.cell? ⟨w.heap.size+1+1,2,none⟩=some (.slice none 0 0))∧W.frozen? ⟨w.heap.size+1+1,0,none⟩=false∧W.frozen? ⟨w.heap.size+1+1,1,none⟩=false∧W.frozen? ⟨w.heap.size+1+1,2,none⟩=false :=
 ⟨h.p.three,h.d.three,h.r.three,h.r.frozen 0,h.r.frozen 1,h.r.frozen 2⟩
theorem Boxes.stored{w W:World}(h:Boxes ps VA vc vs B xs cap DA dc dp op n w W)(v0 v1 v2:Value):Below w.heap.size w (((W.setCell ⟨w.heap.size+1+1,0,none⟩ v0).setCell ⟨w.heap.size+1+1,1,none⟩ v1).setCell ⟨w.heap.size+1+1,2,none⟩ v2) :=
 ((h.b.setCell (p:=⟨w.heap.size+1+1,0,none⟩) (by simp;omega) v0).setCell (p:=⟨w.heap.size+1+1,1,none⟩) (by simp;omega) v1).setCell (p:=⟨w.heap.size+1+1,2,none⟩) (by simp;omega) v2
end
theorem Apply_none(ps:Int)(VA:Option Addr)(vc:Nat)(vs:List Int)(B:Option Addr)(xs:List Nd)(cap:Nat)(DA:Option Addr)(dc:Nat)(dp:List Int)(op n:Int)(w:World)(hp:Prg.Ok ⟨ps,VA,vc,vs,B,cap,xs⟩ w)(hd:Dlt.Ok ⟨DA,dc,dp,op,n⟩ w)(hf:pfind xs dp = -1) :
  Calls Tryz.prog 24 #[.agg #[.int .i64 ps,.slice VA vs.length vc,.slice B xs.length cap],.agg #[.slice DA dp.length dc,.int .i64 op,.int .i64 n]] w (AEndsF ⟨ps,VA,vc,vs,B,cap,xs⟩ ⟨DA,dc,dp,op,n⟩ w):=by
 have hX:=Boxes.mk' ps VA vc vs B xs cap DA dc dp op n w
 have HW:=Lib.hid (w3_is w ps VA vc vs B xs cap DA dc dp op n)
 generalize w3 w ps VA vc vs B xs cap DA dc dp op n=wz at *
 have HF:=Lib.hid (Find_any B cap xs DA dc dp wz (hp.at hX.b).body hp.lx (hd.at hX.b).path hd.len)
 rw [hf] at HF
 have HA:=Lib.hid (aerr_path hf op n)
 have HX:=Lib.hid hX
 obtain⟨⟨p0,p1,p2⟩,⟨d0,d1,d2⟩,-⟩:=hX.cells
 rw [HW.out] at p0 p1 p2 d0 d1 d2
 clear hp hd hf hX
 go_enter Tryz.func24,Tryz.ntmps24
 go_wp2_with (go_at_call 23;rw [← HW.out];refine HF.out.mono ?_;rintro e w1 ⟨rfl,hb⟩;obtain⟨-,-,⟨r0,r1,r2⟩,f0,f1,f2⟩:=(HX.out.below hb).cells)
 refine bodyPost_ret (v:=.tuple #[.agg #[.int .i64 0,.slice none 0 0,.slice none 0 0],.int .i64 16]) (by simp [results,Tryz.results24,go_sem,r0,r1,r2]) rfl ?_
 exact AEndsF.gone HA.out (by decide) ((HX.out.below hb).stored _ _ _) rfl
theorem Apply_noop(ps:Int)(VA:Option Addr)(vc:Nat)(vs:List Int)(B:Option Addr)(xs:List Nd)(cap:Nat)(DA:Option Addr)(dc:Nat)(dp:List Int)(op n:Int)(w:World)(hp:Prg.Ok ⟨ps,VA,vc,vs,B,cap,xs⟩ w)(hd:Dlt.Ok ⟨DA,dc,dp,op,n⟩ w)(a:Nat)(x:Nd)(hf:pfind xs dp=a)(hxa:xs[a]? = some x)(ho:inrow op 1 7=false) :
  Calls Tryz.prog 24 #[.agg #[.int .i64 ps,.slice VA vs.length vc,.slice B xs.length cap],.agg #[.slice DA dp.length dc,.int .i64 op,.int .i64 n]] w (AEndsF ⟨ps,VA,vc,vs,B,cap,xs⟩ ⟨DA,dc,dp,op,n⟩ w):=by
 have hX:=Boxes.mk' ps VA vc vs B xs cap DA dc dp op n w
 have HW:=Lib.hid (w3_is w ps VA vc vs B xs cap DA dc dp op n)
 generalize w3 w ps VA vc vs B xs cap DA dc dp op n=wz at *
 have HF:=Lib.hid (Find_any B cap xs DA dc dp wz (hp.at hX.b).body hp.lx (hd.at hX.b).path hd.len)
 rw [hf] at HF
 have HO:=Lib.hid (fun W=>isOperator_any op W)
 rw [ho] at HO
 have HA:=Lib.hid (show aerr xs dp op n=17 by rw [aerr_at hf hxa,no_op ho];rfl)
 have HX:=Lib.hid hX
 have j1:¬ (a:Int)<0:=by omega
 obtain⟨⟨p0,p1,p2⟩,⟨d0,d1,d2⟩,-⟩:=hX.cells
 rw [HW.out] at p0 p1 p2 d0 d1 d2
 clear hp hd hf hX hxa ho
 go_enter Tryz.func24,Tryz.ntmps24
 go_wp2_with (first
  | (go_at_call 23;rw [← HW.out];refine HF.out.mono ?_;rintro e w1 ⟨rfl,hb⟩;obtain⟨-,⟨g0,g1,g2⟩,⟨r0,r1,r2⟩,f0,f1,f2⟩:=(HX.out.below hb).cells)
  | (go_at_call 48;refine(HO.out _).mono ?_;rintro e w2 ⟨rfl,rfl⟩))
 refine bodyPost_ret (v:=.tuple #[.agg #[.int .i64 0,.slice none 0 0,.slice none 0 0],.int .i64 17]) (by simp [results,Tryz.results24,go_sem,r0,r1,r2]) rfl ?_
 exact AEndsF.gone HA.out (by decide) ((HX.out.below hb).stored _ _ _) rfl
theorem stored_ok{ps:Int}{VA:Option Addr}{vc:Nat}{vs:List Int}{B:Option Addr}{xs:List Nd}{cap:Nat}{DA:Option Addr}{dc:Nat}{dp:List Int}{op n:Int}{w W:World}(h:Boxes ps VA vc vs B xs cap DA dc dp op n w W){A3 A2:Option Addr}{c3 c2:Nat}{R:List Nd}
  (hv:IRow W W.heap.size A3 vs) (hvf:vs≠[]→∀ ad,A3=some ad→ad.block≠w.heap.size+1+1) (hb:Nodes W W.heap.size A2 R) (l1:vs.length≤1000000) (l2:R.length≤1000000) (q1:vs.length≤c3) (q2:R.length≤c2) (n1:A3=none→c3=0) (n2:A2=none→c2=0) :
  Prg.Ok ⟨ps,A3,c3,vs,A2,c2,R⟩ (((W.setCell ⟨w.heap.size+1+1,0,none⟩ (.int .i64 ps)).setCell ⟨w.heap.size+1+1,1,none⟩ (.slice A3 vs.length c3)).setCell ⟨w.heap.size+1+1,2,none⟩ (.slice A2 R.length c2)):=by
 have e:(((W.setCell ⟨w.heap.size+1+1,0,none⟩ (.int .i64 ps)).setCell ⟨w.heap.size+1+1,1,none⟩ (.slice A3 vs.length c3)).setCell ⟨w.heap.size+1+1,2,none⟩ (.slice A2 R.length c2)).heap.size=W.heap.size:=by simp [World.setCell]
 have r1:=h.r.set 0 (.int .i64 ps)
 simp only [List.setIfInBounds_toArray,List.set_cons_zero] at r1
 have r2:=r1.set 1 (.slice A3 vs.length c3)
 simp only [List.setIfInBounds_toArray,List.set_cons_zero,List.set_cons_succ] at r2
 have hr:IRow (((W.setCell ⟨w.heap.size+1+1,0,none⟩ (.int .i64 ps)).setCell ⟨w.heap.size+1+1,1,none⟩ (.slice A3 vs.length c3)).setCell ⟨w.heap.size+1+1,2,none⟩ (.slice A2 R.length c2)) W.heap.size A3 vs:=by
  by_cases hz:vs=[]
  ·subst hz;exact fun i x h=>by simp at h
  ·exact row_apart (row_apart (row_apart hv (hvf hz) 0 _) (hvf hz) 1 _) (hvf hz) 2 _
 exact⟨by rw [e];exact hr,by rw [e];exact far (far (far hb h.r 0 _) r1 1 _) r2 2 _,l1,l2,q1,q2,n1,n2⟩
theorem Apply_go(ps:Int)(VA:Option Addr)(vc:Nat)(vs:List Int)(ad:Addr)(xs:List Nd)(cap:Nat)(DA:Option Addr)(dc:Nat)(dp:List Int)(op n:Int)(w:World)(hp:Prg.Ok ⟨ps,VA,vc,vs,some ad,cap,xs⟩ w)(hd:Dlt.Ok ⟨DA,dc,dp,op,n⟩ w)(a m:Nat)(x:Nd)(hf:pfind xs dp=a)(hxa:xs[a]? = some x)(hs:scan 1 (xs.drop a)=some m)(ho:inrow op 1 7=true)(hl:xs.length≤100000) :
  Calls Tryz.prog 24 #[.agg #[.int .i64 ps,.slice VA vs.length vc,.slice (some ad) xs.length cap],.agg #[.slice DA dp.length dc,.int .i64 op,.int .i64 n]] w (AEndsF ⟨ps,VA,vc,vs,some ad,cap,xs⟩ ⟨DA,dc,dp,op,n⟩ w):=by
 have hX:=Boxes.mk' ps VA vc vs (some ad) xs cap DA dc dp op n w
 have HW:=Lib.hid (w3_is w ps VA vc vs (some ad) xs cap DA dc dp op n)
 generalize w3 w ps VA vc vs (some ad) xs cap DA dc dp op n=wz at *
 have HF:=Lib.hid (Find_any (some ad) cap xs DA dc dp wz (hp.at hX.b).body hp.lx (hd.at hX.b).path hd.len)
 rw [hf] at HF
 have HO:=Lib.hid (fun W=>isOperator_any op W)
 rw [ho] at HO
 have HOps:=Lib.hid operators_any
 have hidx:=index_ops ho
 have hent:=enter_ops ho
 have HA:=Lib.hid (aerr_at hf hxa op n)
 have HNW:=Lib.hid (show anew xs dp op n=dch xs a op n by unfold anew;rw [hf,Int.toNat_natCast])
 have HLN:=Lib.hid (fun hm=>dch_len hs hxa (op:=op) (n:=n) hm)
 have hvn:=hp.nv
 have hlv:=hp.lv
 have hcv:=hp.cv
 have HP:=Lib.hid (fun W (h:Boxes ps VA vc vs (some ad) xs cap DA dc dp op n w W)=>hp.at h.b)
 have HG:=Lib.hid (fun W (h:Boxes ps VA vc vs (some ad) xs cap DA dc dp op n w W)=>(opf_any ho ps VA vs.length vc ad xs cap a n x m W (hp.at h.b).body hp.lx hp.ce hxa hs).mono (fun e w' q=>show Boxes ps VA vc vs (some ad) xs cap DA dc dp op n w w'∧OpEnds (dmay x.1 op n) (dch xs a op n) W e w' from⟨h.below q.1,q⟩))
 have HCl:=Lib.hid (fun W (h:Boxes ps VA vc vs (some ad) xs cap DA dc dp op n w W)=>(cloneInts_any VA vc vs W (hp.at h.b).vars hp.nv hp.lv).mono (fun e w' q=>show Boxes ps VA vc vs (some ad) xs cap DA dc dp op n w w'∧Below W.heap.size W w'∧∃ A c,e=.returned (.slice A vs.length c)∧vs.length≤c∧(A=none→c=0)∧IRow w' w'.heap.size A vs∧∀ ad,A=some ad→ad.block≠w.heap.size+1+1∧w.heap.size≤ad.block from⟨h.below q.1,q.1,by obtain⟨A,c,e1,e2,e3,e4,e5⟩:=q.2;exact⟨A,c,e1,e2,e3,e4,fun ad e=>by have:=e5 ad e;have:=h.r.lt;exact⟨by omega,by omega⟩⟩⟩))
 have HX:=Lib.hid hX
 have j1:¬ (a:Int)<0:=by omega
 obtain⟨⟨p0,p1,p2⟩,⟨d0,d1,d2⟩,-⟩:=hX.cells
 rw [HW.out] at p0 p1 p2 d0 d1 d2
 generalize opf op=F at *
 generalize dch xs a op n=R at *
 have ne0:∀ j,(⟨w.heap.size+1+1,j,none⟩:Addr)≠⟨w.heap.size,0,none⟩:=fun j e=>by simp at e
 have ne1:∀ j,(⟨w.heap.size+1+1,j,none⟩:Addr)≠⟨w.heap.size,1,none⟩:=fun j e=>by simp at e
 have HSF:=Lib.hid (fun W (h:Boxes ps VA vc vs (some ad) xs cap DA dc dp op n w W)=>And.intro h.p.three h.d.three)
 have HSR:=Lib.hid (fun W (h:Boxes ps VA vc vs (some ad) xs cap DA dc dp op n w W)=>And.intro h.r.three (And.intro (h.r.frozen 0) (And.intro (h.r.frozen 1) (h.r.frozen 2))))
 have HST:=Lib.hid (fun W (h:Boxes ps VA vc vs (some ad) xs cap DA dc dp op n w W)=>h.p.three)
 have HSQ:=Lib.hid (fun W (h:Boxes ps VA vc vs (some ad) xs cap DA dc dp op n w W) (v0 v1 v2:Value)=>(((h.p.apart (p:=⟨w.heap.size+1+1,0,none⟩) (by show w.heap.size≠w.heap.size+1+1;omega) v0).apart (p:=⟨w.heap.size+1+1,1,none⟩) (by show w.heap.size≠w.heap.size+1+1;omega) v1).apart (p:=⟨w.heap.size+1+1,2,none⟩) (by show w.heap.size≠w.heap.size+1+1;omega) v2).three)
 cases hm:dmay x.1 op n
 ·rw [hm] at HA
  have HG2:=Lib.hid (fun W h=>(HG.out W h).mono (fun e w' q=>show Boxes ps VA vc vs (some ad) xs cap DA dc dp op n w w'∧e=.returned (.tuple #[.slice none 0 0,.bool false]) from⟨q.1,by rcases q.2.2 with⟨h1,-⟩ | ⟨-,h2⟩;rw [hm] at h1;cases h1;exact h2⟩))
  clear HG
  clear hp hd hf hX hxa ho hs hm
  go_enter Tryz.func24,Tryz.ntmps24
  go_wp2_with (first
   | (go_at_call 23;rw [← HW.out];refine HF.out.mono ?_;rintro e w1 ⟨rfl,hb⟩;obtain⟨-,⟨g0,g1,g2⟩,-⟩:=(HX.out.below hb).cells)
   | (go_at_call 48;refine(HO.out _).mono ?_;rintro e w2 ⟨rfl,rfl⟩))
  have hX:=HX.out.below hb
  go_region_held3 (fun w'=>(w'.cell? ⟨w.heap.size,0,none⟩=some (.int .i64 ps)∧w'.cell? ⟨w.heap.size,1,none⟩=some (.slice VA vs.length vc)∧w'.cell? ⟨w.heap.size,2,none⟩=some (.slice (some ad) xs.length cap))∧(w'.cell? ⟨w.heap.size+1,0,none⟩=some (.slice DA dp.length dc)∧w'.cell? ⟨w.heap.size+1,1,none⟩=some (.int .i64 op)∧w'.cell? ⟨w.heap.size+1,2,none⟩=some (.int .i64 n))) (first | (with_reducible exact HSF.out _ hX) | (with_reducible exact HSF.out _ hX.drew) | fail) (first
   | (go_at_call 49;(with_reducible refine(HOps.out _).mono ?_);rintro e w2 ⟨rfl,hb2⟩;have hX:=hX.drew.below hb2)
   | ((with_reducible refine(HG2.out _ hX).mono ?_);rintro e w4 ⟨hX,rfl⟩;obtain⟨⟨r0,r1,r2⟩,f0,f1,f2⟩:=HSR.out _ hX)
   | fail)
  go_wp2_with fail
  refine bodyPost_ret (v:=.tuple #[.agg #[.int .i64 0,.slice none 0 0,.slice none 0 0],.int .i64 17]) (by simp [results,Tryz.results24,go_sem,r0,r1,r2]) rfl ?_
  exact AEndsF.gone HA.out (by decide) (hX.stored _ _ _) rfl
 ·rw [hm] at HA
  have HG2:=Lib.hid (fun W h=>(HG.out W h).mono (fun e w' q=>show Boxes ps VA vc vs (some ad) xs cap DA dc dp op n w w'∧∃ A c,e=.returned (.tuple #[.slice A R.length c,.bool true])∧R.length≤c∧(A=none→c=0)∧Nodes w' w'.heap.size A R from⟨q.1,by rcases q.2.2 with⟨-,h1⟩ | ⟨h2,-⟩;exact h1;rw [hm] at h2;cases h2⟩))
  have HLR:=Lib.hid (HLN.out hm)
  clear HG HLN
  clear hp hd hf hX hxa ho hs hm
  go_enter Tryz.func24,Tryz.ntmps24
  go_wp2_with (first
   | (go_at_call 23;rw [← HW.out];refine HF.out.mono ?_;rintro e w1 ⟨rfl,hb⟩;obtain⟨-,⟨g0,g1,g2⟩,-⟩:=(HX.out.below hb).cells)
   | (go_at_call 48;refine(HO.out _).mono ?_;rintro e w2 ⟨rfl,rfl⟩))
  have hX:=HX.out.below hb
  go_region_held3 (fun w'=>(w'.cell? ⟨w.heap.size,0,none⟩=some (.int .i64 ps)∧w'.cell? ⟨w.heap.size,1,none⟩=some (.slice VA vs.length vc)∧w'.cell? ⟨w.heap.size,2,none⟩=some (.slice (some ad) xs.length cap))∧(w'.cell? ⟨w.heap.size+1,0,none⟩=some (.slice DA dp.length dc)∧w'.cell? ⟨w.heap.size+1,1,none⟩=some (.int .i64 op)∧w'.cell? ⟨w.heap.size+1,2,none⟩=some (.int .i64 n))) (first | (with_reducible exact HSF.out _ hX) | (with_reducible exact HSF.out _ hX.drew) | fail) (first
   | (go_at_call 49;(with_reducible refine(HOps.out _).mono ?_);rintro e w2 ⟨rfl,hb2⟩;have hX:=hX.drew.below hb2)
   | ((with_reducible refine(HG2.out _ hX).mono ?_);rintro e w4 ⟨hX,A2,c2,rfl,k1,k2,k3⟩;obtain⟨⟨r0,r1,r2⟩,f0,f1,f2⟩:=HSR.out _ hX)
   | fail)
  go_wp2_with fail
  go_region_held3 (fun w'=>(w'.cell? ⟨w.heap.size,0,none⟩=some (.int .i64 ps)∧w'.cell? ⟨w.heap.size,1,none⟩=some (.slice VA vs.length vc)∧w'.cell? ⟨w.heap.size,2,none⟩=some (.slice (some ad) xs.length cap))) (first | (with_reducible exact HST.out _ hX) | (with_reducible exact HST.out _ hX.drew) | exact HSQ.out _ hX _ _ _ | fail) (first
   | (go_at_call 50;(with_reducible refine(HCl.out _ hX.drew).mono ?_);rintro e w5 ⟨hX,hb5,A3,c3,rfl,v1,v2,v3,v4⟩;have k3:=k3.drewAt.at hb5;obtain⟨⟨r0,r1,r2⟩,f0,f1,f2⟩:=HSR.out _ hX)
   | fail)
  go_wp2_with fail
  refine bodyPost_ret (v:=.tuple #[.agg #[.int .i64 ps,.slice A3 vs.length c3,.slice A2 R.length c2],.int .i64 0]) (by simp [results,Tryz.results24,go_sem,r0,r1,r2]) rfl ?_
  refine⟨hX.stored _ _ _,.inl ⟨by rw [HA.out];first | done | rfl,A3,c3,A2,c2,by rw [HNW.out];first | done | rfl,?_,fun ad e=>.inr (v4 ad e).2⟩⟩
  rw [HNW.out]
  exact stored_ok hX v3 (fun _ ad e=>(v4 ad e).1) k3 hlv (by have:=HLR.out;omega) v1 k1 v2 k2
theorem Apply_anyF(p:Prg)(d:Dlt)(w:World)(hp:p.Ok w)(hd:d.Ok w)(hl:p.xs.length≤100000) :
  Calls Tryz.prog 24 #[.agg #[.int .i64 p.ps,.slice p.A p.vs.length p.c,.slice p.B p.xs.length p.e],.agg #[.slice d.A d.p.length d.c,.int .i64 d.op,.int .i64 d.n]] w (AEndsF p d w):=by
 obtain⟨ps,VA,vc,vs,B,cap,xs⟩:=p
 obtain⟨DA,dc,dp,op,n⟩:=d
 rcases find_cases xs dp with h | ⟨a,m,x,h1,h2,h3,h4,h5⟩
 ·exact Apply_none ps VA vc vs B xs cap DA dc dp op n w hp hd h
 ·cases ho:inrow op 1 7
  ·exact Apply_noop ps VA vc vs B xs cap DA dc dp op n w hp hd a x h1 h3 ho
  ·obtain⟨ad,e,-⟩:=hp.body a x h3
   simp only at e
   subst e
   exact Apply_go ps VA vc vs ad xs cap DA dc dp op n w hp hd a m x h1 h3 h2 ho hl
end Go.Proofs.YtodejloonfkkmaaGreat.Delta
