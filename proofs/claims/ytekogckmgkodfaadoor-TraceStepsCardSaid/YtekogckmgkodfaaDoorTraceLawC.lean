/-
  The statements on a run's bytes, walked: how many steps there were makes no difference, one event more does.
-/
import Derived.Test.YtekogckmgkodfaaDoorTraceLawB
import Derived.Test.YtekogckmgkodfaaDoorRegApp
set_option maxRecDepth 100000
set_option maxHeartbeats 4000000
set_option linter.unusedVariables false
set_option linter.unusedSimpArgs false
namespace Go.Proofs.YtekogckmgkodfaaDoor
theorem zTraceLawC0{P:Prop}(h:P:=by
  refine OrdU.wpAnyU_ready (rs:=[8]) (by kernel_rfl) (by simp) ?_
  refine(OrdU.AllReadyU.cons (o:=⟨some 32,_,_,_,_,none⟩) rfl (fun K' hK=>?_) OrdU.AllReadyU.nil)
  refine hS.put (by rfl) _ _ 24 (by rfl) ig _ 24 Tryd.underlying24 hig hz0 hz1 hz2 (by rfl) (by decide) (by rfl) (some _) 1 1 [.int .i64 x1,.int .i64 x2,.int .i64 x3] (by rfl) (fun q=>by cases q) (by rfl) (fun ad q=>by cases q;exact World.news_of_block (cs:=#[.int .i64 x1,.int .i64 x2,.int .i64 x3]) (hS.lit _ rfl).2.1) (ecells_one1 (x1,x2,x3)) (by simp only [maxLen];omega) (by omega) (n+1) rfl (ecells (ev++[(x1,x2,x3)])) (ecells_snoc ev (x1,x2,x3)).symm ?_
  intro A8 c8 W5 hS
  refine OrdU.bh hK (hH _ hS.below) (h:=fun hHeld=>?_)
  clear hK K'
  refine OrdU.tk 9 (h:=?_)
  refine OrdU.one 11 (h:=fun K' hK=>?_)
  have hX:=(hS.box _ rfl).2.1
  obtain⟨z0,z1,z2,z3,f0,f1,f2,f3⟩:=four hX
  go_simp
  have hF:=steps_fin (k:=k) (v:=v) (x:=(x1,x2,x3)) hS (by rw [HLE.out]) hlt
  refine OrdU.bk hK (h:=?_)
  clear hK K'
  refine OrdU.wpAnyU_done (by kernel_rfl) ?_ _
  clear z0 z1 z2 z3 f0 f1 f2 f3
  go_wp2_with fail
  go_meet
  exact⟨_,_,_,rfl,hF.1,hF.2.1,hF.2.2⟩):P:=h
theorem zTraceLawC1{P:Prop}(h:P:=by
  refine OrdU.wpAnyU_ready (rs:=[8,10]) (by kernel_rfl) (by simp) ?_
  refine(OrdU.AllReadyU.cons (o:=⟨some 32,_,_,_,_,none⟩) rfl (fun K' hK=>?_) (OrdU.AllReadyU.cons (o:=⟨some 9,_,_,_,_,none⟩) rfl (fun K' hK=>?_) OrdU.AllReadyU.nil))
  ·skip
   refine hS.put (by rfl) _ _ 24 (by rfl) ig _ 24 Tryd.underlying24 hig hz0 hz1 hz2 (by rfl) (by decide) (by rfl) (some _) 1 1 [.int .i64 x1,.int .i64 x2,.int .i64 x3] (by rfl) (fun q=>by cases q) (by rfl) (fun ad q=>by cases q;exact World.news_of_block (cs:=#[.int .i64 x1,.int .i64 x2,.int .i64 x3]) (hS.lit _ rfl).2.1) (ecells_one1 (x1,x2,x3)) (by simp only [maxLen];omega) (by omega) (n+1) rfl (ecells (ev++[(x1,x2,x3)])) (ecells_snoc ev (x1,x2,x3)).symm ?_
   intro A8 c8 W4 hS
   refine OrdU.bh hK (hH _ hS.below) (h:=fun hHeld=>?_)
   clear hK K'
   refine OrdU.tk 9 (h:=?_)
   refine OrdU.wpAnyU_ready (rs:=[10]) (by kernel_rfl) (by simp) ?_
   refine(OrdU.AllReadyU.cons (o:=⟨some 9,_,_,_,_,none⟩) rfl (fun K' hK=>?_) OrdU.AllReadyU.nil)
   go_simp
   have hS:=hS.boxed
   refine OrdU.bh hK (hH _ hS.below) (h:=fun hHeld=>?_)
   clear hK K'
   obtain⟨W5,eW⟩:∃ x,W4.alloc (.cells #[.int .i64 0,.int .i64 0,.int .i64 0,.slice none 0 0] 26)=x:=⟨_,rfl⟩
   rw [eW] at hS hHeld ⊢
   clear eW
   refine OrdU.one 11 (h:=fun K' hK=>?_)
   have hX:=(hS.box _ rfl).2.1
   obtain⟨z0,z1,z2,z3,f0,f1,f2,f3⟩:=four hX
   go_simp
   have hF:=steps_fin (k:=k) (v:=v) (x:=(x1,x2,x3)) hS (by rw [HLE.out]) hlt
   refine OrdU.bk hK (h:=?_)
   clear hK K'
   refine OrdU.wpAnyU_done (by kernel_rfl) ?_ _
   clear z0 z1 z2 z3 f0 f1 f2 f3
   go_wp2_with fail
   go_meet
   exact⟨_,_,_,rfl,hF.1,hF.2.1,hF.2.2⟩
  ·skip
   go_simp
   have hS:=hS.boxed
   refine OrdU.bh hK (hH _ hS.below) (h:=fun hHeld=>?_)
   clear hK K'
   obtain⟨W4,eW⟩:∃ x,W3.alloc (.cells #[.int .i64 0,.int .i64 0,.int .i64 0,.slice none 0 0] 26)=x:=⟨_,rfl⟩
   rw [eW] at hS hHeld ⊢
   clear eW
   exact zTraceLawC0):P:=h
theorem zTraceLawC2{P:Prop}(h:P:=by
  rw [eW] at hS hHeld ⊢
  clear eW
  refine OrdU.wpAnyU_ready (rs:=[5]) (by kernel_rfl) (by simp) ?_
  refine(OrdU.AllReadyU.cons (o:=⟨some 29,_,_,_,_,none⟩) rfl (fun K' hK=>?_) OrdU.AllReadyU.nil)
  refine hS.put (by rfl) _ _ 24 (by rfl) ig _ 24 Tryd.underlying24 hig hz0 hz1 hz2 (by rfl) (by decide) (by rfl) A n c (ecells ev) (by rfl) HA.out (HLE.out▸ecells_len ev) (fun ad q=>by subst q;exact erow_cells (HRW.out _ (hb2.trans (hS.below.mono hb2.size))).row) (ecells_one ev) (by simp only [maxLen];omega) (by omega) n (Nat.zero_add _) (ecells ev) rfl ?_
  intro A5 c5 W4 hS
  refine OrdU.bh hK (hH _ hS.below) (h:=fun hHeld=>?_)
  clear hK K'
  exact zTraceLawC0):P:=h
theorem zTraceLawC3{P:Prop}(h:P:=by
  rw [eW] at hS hHeld ⊢
  clear eW
  refine OrdU.wpAnyU_ready (rs:=[5,7]) (by kernel_rfl) (by simp) ?_
  refine(OrdU.AllReadyU.cons (o:=⟨some 29,_,_,_,_,none⟩) rfl (fun K' hK=>?_) (OrdU.AllReadyU.cons (o:=⟨some 31,_,_,_,_,none⟩) rfl (fun K' hK=>?_) OrdU.AllReadyU.nil))
  ·skip
   refine hS.put (by rfl) _ _ 24 (by rfl) ig _ 24 Tryd.underlying24 hig hz0 hz1 hz2 (by rfl) (by decide) (by rfl) A n c (ecells ev) (by rfl) HA.out (HLE.out▸ecells_len ev) (fun ad q=>by subst q;exact erow_cells (HRW.out _ (hb2.trans (hS.below.mono hb2.size))).row) (ecells_one ev) (by simp only [maxLen];omega) (by omega) n (Nat.zero_add _) (ecells ev) rfl ?_
   intro A5 c5 W3 hS
   refine OrdU.bh hK (hH _ hS.below) (h:=fun hHeld=>?_)
   clear hK K'
   refine OrdU.wpAnyU_ready (rs:=[7]) (by kernel_rfl) (by simp) ?_
   refine(OrdU.AllReadyU.cons (o:=⟨some 31,_,_,_,_,none⟩) rfl (fun K' hK=>?_) OrdU.AllReadyU.nil)
   go_simp
   have hS:=hS.one
   refine OrdU.bh hK (hH _ hS.below) (h:=fun hHeld=>?_)
   clear hK K'
   obtain⟨W4,eW⟩:∃ x,W3.alloc (.cells #[.int .i64 x1,.int .i64 x2,.int .i64 x3] 34)=x:=⟨_,rfl⟩
   rw [eW] at hS hHeld ⊢
   clear eW
   exact zTraceLawC0
  ·skip
   go_simp
   have hS:=hS.one
   refine OrdU.bh hK (hH _ hS.below) (h:=fun hHeld=>?_)
   clear hK K'
   obtain⟨W3,eW⟩:∃ x,W2.alloc (.cells #[.int .i64 x1,.int .i64 x2,.int .i64 x3] 34)=x:=⟨_,rfl⟩
   exact zTraceLawC2):P:=h
theorem zTraceLawC4{P:Prop}(h:P:=by
  rw [eW] at hS hHeld ⊢
  clear eW
  refine OrdU.wpAnyU_ready (rs:=[5,10]) (by kernel_rfl) (by simp) ?_
  refine(OrdU.AllReadyU.cons (o:=⟨some 29,_,_,_,_,none⟩) rfl (fun K' hK=>?_) (OrdU.AllReadyU.cons (o:=⟨some 9,_,_,_,_,none⟩) rfl (fun K' hK=>?_) OrdU.AllReadyU.nil))
  ·skip
   refine hS.put (by rfl) _ _ 24 (by rfl) ig _ 24 Tryd.underlying24 hig hz0 hz1 hz2 (by rfl) (by decide) (by rfl) A n c (ecells ev) (by rfl) HA.out (HLE.out▸ecells_len ev) (fun ad q=>by subst q;exact erow_cells (HRW.out _ (hb2.trans (hS.below.mono hb2.size))).row) (ecells_one ev) (by simp only [maxLen];omega) (by omega) n (Nat.zero_add _) (ecells ev) rfl ?_
   intro A5 c5 W3 hS
   refine OrdU.bh hK (hH _ hS.below) (h:=fun hHeld=>?_)
   clear hK K'
   exact zTraceLawC1
  ·skip
   go_simp
   have hS:=hS.boxed
   refine OrdU.bh hK (hH _ hS.below) (h:=fun hHeld=>?_)
   clear hK K'
   obtain⟨W3,eW⟩:∃ x,W2.alloc (.cells #[.int .i64 0,.int .i64 0,.int .i64 0,.slice none 0 0] 26)=x:=⟨_,rfl⟩
   exact zTraceLawC2):P:=h
theorem zTraceLawC5{P:Prop}(h:P:=by
  rw [eW] at hS hHeld ⊢
  clear eW
  refine OrdU.wpAnyU_ready (rs:=[2]) (by kernel_rfl) (by simp) ?_
  refine(OrdU.AllReadyU.cons (o:=⟨some 26,_,_,_,_,none⟩) rfl (fun K' hK=>?_) OrdU.AllReadyU.nil)
  go_simp
  have hS:=hS.empty
  refine OrdU.bh hK (hH _ hS.below) (h:=fun hHeld=>?_)
  clear hK K'
  obtain⟨W3,eW⟩:∃ x,W2.alloc (.cells #[] 34)=x:=⟨_,rfl⟩
  exact zTraceLawC2):P:=h
theorem zTraceLawC6{P:Prop}(h:P:=by
  congr 1
  rcases Nat.eq_zero_or_pos (j / 3*3) with z | z
  ·rw [z];simp [Addr.add]
  ·rw [add_off ad _ z];simp;omega):P:=h
end Go.Proofs.YtekogckmgkodfaaDoor
namespace Go.Proofs.YtekogckmgkodfaaDoor.Trc
open Go.RowKit Leb Zig Mem Wire Arena Mach RegA
attribute [local go_sem ↓] Go.wp_at_zero Go.wp_at_succ
theorem info_event:(Tryd.prog.info? 34).map (fun i=>(i.zero,i.size,i.bytes))=some (some (.agg #[.int .i64 0,.int .i64 0,.int .i64 0]),3,24):=by kernel_rfl
theorem ecells_len:∀ l:List (Int×Int×Int),(ecells l).length=l.length*3
 | []=>rfl
 | e::l=>by rw [show ecells (e::l)=ecell e++ecells l from rfl,List.length_append,ecells_len l];show 3+_=(_+1)*3;omega
theorem ecells_one1(e:Int×Int×Int):∀ y∈ecell e,y.oneCell'=true:=by
 intro y hy
 unfold ecell at hy
 simp only [List.mem_cons,List.not_mem_nil,or_false] at hy
 rcases hy with rfl | rfl | rfl<;>rfl
theorem ecells_one(l:List (Int×Int×Int)):∀ y∈ecells l,y.oneCell'=true:=by
 intro y hy
 obtain⟨e,-,h⟩:=List.mem_flatMap.1 hy
 exact ecells_one1 e y h
theorem erow_cells{w:World}{B:Nat}{ad:Addr}{l:List (Int×Int×Int)}(h:ERow w B (some ad) l):∀ j y,(ecells l)[j]? = some y→w.cell? (ad.add j)=some y:=by
 intro j y hy
 have hj:=(List.getElem?_eq_some_iff.1 hy).1
 rw [ecells_len] at hj
 obtain⟨e,he⟩:∃ e,l[j / 3]? = some e:=⟨_,List.getElem?_eq_getElem (by omega)⟩
 obtain⟨ad',e',h1,h2,h3,h4⟩:=h _ e he
 cases e'
 obtain⟨g1,g2,g3⟩:=ecells_get l _ e he
 rcases (show j%3=0∨j%3=1∨j%3=2 by omega) with q | q | q
 ·rw [show j=j / 3*3 by omega] at hy ⊢
  rw [g1] at hy;cases hy;exact h2
 ·rw [show j=j / 3*3+1 by omega] at hy ⊢
  rw [g2] at hy;cases hy
  rw [add_off ad _ (by omega)]
  rw [← h3]
  exact zTraceLawC6
 ·rw [show j=j / 3*3+2 by omega] at hy ⊢
  rw [g3] at hy;cases hy
  rw [add_off ad _ (by omega)]
  rw [← h4]
  exact zTraceLawC6
theorem four{W:World}{g:Nat}{t:TypeId}{a b c d:Value}(h:Blk W g t #[a,b,c,d]):W.cell? ⟨g,0,none⟩=some a∧W.cell? ⟨g,1,none⟩=some b∧W.cell? ⟨g,2,none⟩=some c∧W.cell? ⟨g,3,none⟩=some d∧W.frozen? ⟨g,0,none⟩=false∧W.frozen? ⟨g,1,none⟩=false∧W.frozen? ⟨g,2,none⟩=false∧W.frozen? ⟨g,3,none⟩=false :=
 ⟨h.cell 0,h.cell 1,h.cell 2,h.cell 3,h.frozen 0,h.frozen 1,h.frozen 2,h.frozen 3⟩
theorem steps_fin{b W:World}{k v:Int}{A:Option Addr}{c g:Nat}{L:Option Nat}{x:Int×Int×Int}{ev:List (Int×Int×Int)}{lc:Array Value}{m:Nat}(h:SS b 34 3 lc 26 #[.int .i64 0,.int .i64 0,.int .i64 0,.slice none 0 0] (some (.slice A m c,m,ecells (ev++[x]))) L (some g) W)(hm:m=ev.length+1)(hn:ev.length≤1000) :
  Below b.heap.size b ((((W.setCell ⟨g,0,none⟩ (.int .i64 k)).setCell ⟨g,1,none⟩ (.int .i64 v)).setCell ⟨g,2,none⟩ (.int .i64 0)).setCell ⟨g,3,none⟩ (.slice A m c)) ∧
  Blk ((((W.setCell ⟨g,0,none⟩ (.int .i64 k)).setCell ⟨g,1,none⟩ (.int .i64 v)).setCell ⟨g,2,none⟩ (.int .i64 0)).setCell ⟨g,3,none⟩ (.slice A m c)) g 26 #[.int .i64 k,.int .i64 v,.int .i64 0,.slice A m c] ∧
  (⟨k,v,0,A,c,ev++[x]⟩:Rn).Ok ((((W.setCell ⟨g,0,none⟩ (.int .i64 k)).setCell ⟨g,1,none⟩ (.int .i64 v)).setCell ⟨g,2,none⟩ (.int .i64 0)).setCell ⟨g,3,none⟩ (.slice A m c)):=by
 obtain⟨h1,h2,h3,-⟩:=h.box g rfl
 have hO:=h.own _ _ _ rfl
 have hne:=h3 _ _ _ rfl
 have hk:Kept (· = g) W ((((W.setCell ⟨g,0,none⟩ (.int .i64 k)).setCell ⟨g,1,none⟩ (.int .i64 v)).setCell ⟨g,2,none⟩ (.int .i64 0)).setCell ⟨g,3,none⟩ (.slice A m c)) :=
  ((((Kept.refl (· = g) W).setCell (p:=⟨g,0,none⟩) (.inl rfl) _).setCell (p:=⟨g,1,none⟩) (.inl rfl) _).setCell (p:=⟨g,2,none⟩) (.inl rfl) _).setCell (p:=⟨g,3,none⟩) (.inl rfl) _
 refine⟨h.below.trans (hk.to_below h.below.size (fun i q=>q▸h1)),(((h2.set 0 (.int .i64 k)).set 1 (.int .i64 v)).set 2 (.int .i64 0)).set 3 (.slice A m c),?_⟩
 have hO2:=ownsRow_of_block hO (fun i hi=>hk.block i (hO.lt i hi).2 (fun q=>hne (q▸hi)))
 have hm':m=(ev++[x]).length:=by rw [hm,List.length_append];simp
 subst hm'
 obtain⟨A',c',e,q1,q2,q3,-⟩:=own_events hO2
 cases e
 exact⟨q3,q1,q2,by show(ev++[x]).length≤1000000;rw [List.length_append];simp;omega⟩
theorem traceSteps_walk(r:Rn)(m:Int)(wm:(Lit.int .i64 m).wf=true)(x:Int×Int×Int)(w:World)(hr:In r w)(hx:B64 x.1∧B64 x.2.1∧B64 x.2.2)(hG:Sha.Cubes w):Calls Tryd.prog 5 #[.agg #[.int .i64 r.k,.int .i64 r.v,.int .i64 r.st,.slice r.A r.ev.length r.c],.int .i64 m,.agg #[.int .i64 x.1,.int .i64 x.2.1,.int .i64 x.2.2]] w fun e w'=>e=.returned (.bool true)∧Below w.heap.size w w':=by
 obtain⟨k,v,st,A,c,ev⟩:=r
 obtain⟨x1,x2,x3⟩:=x
 simp only at *
 obtain⟨n,hn⟩:∃ n,ev.length=n:=⟨_,rfl⟩
 have HLE:=Lib.hid hn
 have hrA:A=none→c=0∧n=0:=fun q=>by
  have h1:=hr.none q
  have h2:ev.length≤c:=hr.cap
  have h1:c=0:=h1
  omega
 have h64:R64 ev k v:=hr.b64
 have h64':R64 (ev++[(x1,x2,x3)]) k v:=⟨fun e he z hz=>by
  rcases List.mem_append.1 he with he | he
  ·exact h64.ev e he z hz
  ·rw [List.mem_singleton] at he
   subst he
   exact(r64_of (l:=[(x1,x2,x3)]) (k:=k) (v:=v) (fun e he=>by rw [List.mem_singleton] at he;subst he;exact hx) h64.kind h64.value).ev _ (List.mem_singleton_self _) z hz,h64.kind,h64.value⟩
 have hb1:Below w.heap.size w (w.alloc (.cells #[.int .i64 k,.int .i64 v,.int .i64 st,.slice A n c] 26)):=(Below.refl _ _).alloc (Nat.le_refl _) _
 have hb0:=hb1.alloc hb1.size (.cells #[.int .i64 x1,.int .i64 x2,.int .i64 x3] 34)
 have bP:=(Blk.new w 26 #[.int .i64 k,.int .i64 v,.int .i64 st,.slice A n c]).alloc (.cells #[.int .i64 x1,.int .i64 x2,.int .i64 x3] 34)
 have bQ:=Blk.new (w.alloc (.cells #[.int .i64 k,.int .i64 v,.int .i64 st,.slice A n c] 26)) 34 #[.int .i64 x1,.int .i64 x2,.int .i64 x3]
 rw [World.size_alloc] at bQ
 obtain⟨w1,hw1⟩:∃ w1,(w.alloc (.cells #[.int .i64 k,.int .i64 v,.int .i64 st,.slice A n c] 26)).alloc (.cells #[.int .i64 x1,.int .i64 x2,.int .i64 x3] 34)=w1:=⟨_,rfl⟩
 rw [hw1] at hb0 bP bQ
 have HW:=Lib.hid hw1
 have HB:=Lib.hid hb0
 have HX:=Lib.hid (fun W (h:Below w1.heap.size w1 W)=>show W.cell? ⟨w.heap.size,0,none⟩=some (.int .i64 k)∧W.cell? ⟨w.heap.size,1,none⟩=some (.int .i64 v)∧W.cell? ⟨w.heap.size,2,none⟩=some (.int .i64 st)∧W.cell? ⟨w.heap.size,3,none⟩=some (.slice A n c)∧W.cell? ⟨w.heap.size+1,0,none⟩=some (.int .i64 x1)∧W.cell? ⟨w.heap.size+1,1,none⟩=some (.int .i64 x2)∧W.cell? ⟨w.heap.size+1,2,none⟩=some (.int .i64 x3) from
  ⟨(bP.below h bP.lt).cell 0,(bP.below h bP.lt).cell 1,(bP.below h bP.lt).cell 2,(bP.below h bP.lt).cell 3,(bQ.below h bQ.lt).cell 0,(bQ.below h bQ.lt).cell 1,(bQ.below h bQ.lt).cell 2⟩)
 have HWK:=Lib.hid (works_any w1 (hG.below hb0))
 rw [hn]
 by_cases h60:(60:Int)<(n:Int)
 ·clear hw1 hb0 hb1 bP bQ hr hG
  go_enter Tryd.func5,Tryd.ntmps5
  go_wp2_with (first
   | (go_at_call 6;rw [HW.out];refine HWK.out.mono ?_;rintro e w2 ⟨rfl,hb2⟩;obtain⟨y0,y1,y2,y3,y4,y5,y6⟩:=HX.out _ hb2)
   | fail)
  go_ret
  exact⟨rfl,HB.out.trans (hb2.mono HB.out.size)⟩
 have hlt:ev.length≤1000:=by omega
 have HRW:=Lib.hid (fun W (h:Below w1.heap.size w1 W)=>((hr.at hb0).at h).ok (by show ev.length≤1000000;omega))
 have HB1:=Lib.hid (fun W (h:Below w1.heap.size w1 W) (s:Int)=>Bytes_any ⟨k,v,s,A,c,ev⟩ W ⟨(HRW.out W h).row,(HRW.out W h).cap,(HRW.out W h).none,(HRW.out W h).len⟩ h64)
 have HD1:=Lib.hid (fun W (h:Below w1.heap.size w1 W) (s:Int)=>Digest_any ⟨k,v,s,A,c,ev⟩ W (hG.below (hb0.trans (h.mono hb0.size))) ⟨(HRW.out W h).row,(HRW.out W h).cap,(HRW.out W h).none,(HRW.out W h).len⟩ h64)
 have HB2:=Lib.hid (fun W (A9:Option Addr) (c9:Nat) (h:(⟨k,v,0,A9,c9,ev++[(x1,x2,x3)]⟩:Rn).Ok W)=>Bytes_any _ W h h64')
 have hne:(bytes (ev++[(x1,x2,x3)]) k v==bytes ev k v)=false:=by
  rw [beq_eq_false_iff_ne]
  intro q
  have:=congrArg List.length (bytes_iff.1 q).1
  rw [List.length_append] at this
  simp at this
 have hne2:(bytes (ev++[(x1,x2,x3)]) k v != bytes ev k v)=true:=by simp [bne,hne]
 have hl9:(ev++[(x1,x2,x3)]).length=n+1:=by rw [List.length_append,hn];rfl
 simp only [hl9] at HB2
 simp only [hn] at HB1 HD1
 generalize bytes ev k v=SB at *
 generalize digest ev k v=SD at *
 generalize bytes (ev++[(x1,x2,x3)]) k v=SM at *
 have HA:=Lib.hid hrA
 obtain⟨ig,hig,hz0,hz1,hz2⟩:=info_parts info_event
 clear hw1 hb0 hb1 bP bQ hr hG h64 h64' hl9 hrA hx hn
 go_enter Tryd.func5,Tryd.ntmps5
 go_upto_region 7 with(first
  | (go_at_call 6;rw [HW.out];refine HWK.out.mono ?_;rintro e w3 ⟨rfl,hb3⟩;obtain⟨y0,y1,y2,y3,y4,y5,y6⟩:=HX.out _ hb3)
  | fail)
 have bO:=Blk.new w3 26 #[.int .i64 k,.int .i64 v,.int .i64 m,.slice A n c]
 have hb2:=hb3.alloc hb3.size (.cells #[.int .i64 k,.int .i64 v,.int .i64 m,.slice A n c] 26)
 clear y0 y1 y2 y3 y4 y5 y6
 obtain⟨w2,hw2⟩:∃ w2,w3.alloc (.cells #[.int .i64 k,.int .i64 v,.int .i64 m,.slice A n c] 26)=w2:=⟨_,rfl⟩
 rw [hw2] at bO hb2 ⊢
 clear hw2
 have hH:=fun W (h:Below w2.heap.size w2 W)=>HX.out W (hb2.trans (h.mono hb2.size))
 have HbO:=Lib.hid (fun W (h:Below w2.heap.size w2 W)=>bO.below h bO.lt)
 clear bO
 go_cut [9] from 24 to 33 (fun r wx=>∃ g9 A9 c9,r=.pointer (some ⟨g9,0,none⟩)∧Below w2.heap.size w2 wx∧Blk wx g9 26 #[.int .i64 k,.int .i64 v,.int .i64 0,.slice A9 (n+1) c9]∧(⟨k,v,0,A9,c9,ev++[(x1,x2,x3)]⟩:Rn).Ok wx)
 case first =>
  have hC:=hH _ (Below.refl _ _)
  refine OrdU.wp_region_U 11 (fun W=>W.cell? ⟨w.heap.size,0,none⟩=some (.int .i64 k)∧W.cell? ⟨w.heap.size,1,none⟩=some (.int .i64 v)∧W.cell? ⟨w.heap.size,2,none⟩=some (.int .i64 st)∧W.cell? ⟨w.heap.size,3,none⟩=some (.slice A n c)∧W.cell? ⟨w.heap.size+1,0,none⟩=some (.int .i64 x1)∧W.cell? ⟨w.heap.size+1,1,none⟩=some (.int .i64 x2)∧W.cell? ⟨w.heap.size+1,2,none⟩=some (.int .i64 x3)) (by kernel_rfl) hC (fun hHeld=>?_)
  refine OrdU.tk 0 (h:=?_)
  refine OrdU.tk 1 (h:=?_)
  refine OrdU.tk 3 (h:=?_)
  refine OrdU.tk 4 (h:=?_)
  refine OrdU.tk 6 (h:=?_)
  have hS:=(SS.start (b:=w2) (e:=34) (m:=3) (lc:=#[.int .i64 x1,.int .i64 x2,.int .i64 x3]) (tb:=26) (bz:=#[.int .i64 0,.int .i64 0,.int .i64 0,.slice none 0 0])).drew
  obtain⟨W0,eW⟩:∃ x,w2.drew=x:=⟨_,rfl⟩
  rw [eW] at hS hHeld ⊢
  clear eW
  refine OrdU.wpAnyU_ready (rs:=[2,7,10]) (by kernel_rfl) (by simp) ?_
  refine(OrdU.AllReadyU.cons (o:=⟨some 26,_,_,_,_,none⟩) rfl (fun K' hK=>?_) (OrdU.AllReadyU.cons (o:=⟨some 31,_,_,_,_,none⟩) rfl (fun K' hK=>?_) (OrdU.AllReadyU.cons (o:=⟨some 9,_,_,_,_,none⟩) rfl (fun K' hK=>?_) OrdU.AllReadyU.nil)))
  ·skip
   go_simp
   have hS:=hS.empty
   refine OrdU.bh hK (hH _ hS.below) (h:=fun hHeld=>?_)
   clear hK K'
   obtain⟨W1,eW⟩:∃ x,W0.alloc (.cells #[] 34)=x:=⟨_,rfl⟩
   rw [eW] at hS hHeld ⊢
   clear eW
   refine OrdU.wpAnyU_ready (rs:=[5,7,10]) (by kernel_rfl) (by simp) ?_
   refine(OrdU.AllReadyU.cons (o:=⟨some 29,_,_,_,_,none⟩) rfl (fun K' hK=>?_) (OrdU.AllReadyU.cons (o:=⟨some 31,_,_,_,_,none⟩) rfl (fun K' hK=>?_) (OrdU.AllReadyU.cons (o:=⟨some 9,_,_,_,_,none⟩) rfl (fun K' hK=>?_) OrdU.AllReadyU.nil)))
   ·skip
    refine hS.put (by rfl) _ _ 24 (by rfl) ig _ 24 Tryd.underlying24 hig hz0 hz1 hz2 (by rfl) (by decide) (by rfl) A n c (ecells ev) (by rfl) HA.out (HLE.out▸ecells_len ev) (fun ad q=>by subst q;exact erow_cells (HRW.out _ (hb2.trans (hS.below.mono hb2.size))).row) (ecells_one ev) (by simp only [maxLen];omega) (by omega) n (Nat.zero_add _) (ecells ev) rfl ?_
    intro A5 c5 W2 hS
    refine OrdU.bh hK (hH _ hS.below) (h:=fun hHeld=>?_)
    clear hK K'
    refine OrdU.wpAnyU_ready (rs:=[7,10]) (by kernel_rfl) (by simp) ?_
    refine(OrdU.AllReadyU.cons (o:=⟨some 31,_,_,_,_,none⟩) rfl (fun K' hK=>?_) (OrdU.AllReadyU.cons (o:=⟨some 9,_,_,_,_,none⟩) rfl (fun K' hK=>?_) OrdU.AllReadyU.nil))
    ·skip
     go_simp
     have hS:=hS.one
     refine OrdU.bh hK (hH _ hS.below) (h:=fun hHeld=>?_)
     clear hK K'
     obtain⟨W3,eW⟩:∃ x,W2.alloc (.cells #[.int .i64 x1,.int .i64 x2,.int .i64 x3] 34)=x:=⟨_,rfl⟩
     rw [eW] at hS hHeld ⊢
     clear eW
     exact zTraceLawC1
    ·skip
     go_simp
     have hS:=hS.boxed
     refine OrdU.bh hK (hH _ hS.below) (h:=fun hHeld=>?_)
     clear hK K'
     obtain⟨W3,eW⟩:∃ x,W2.alloc (.cells #[.int .i64 0,.int .i64 0,.int .i64 0,.slice none 0 0] 26)=x:=⟨_,rfl⟩
     rw [eW] at hS hHeld ⊢
     clear eW
     refine OrdU.wpAnyU_ready (rs:=[7]) (by kernel_rfl) (by simp) ?_
     refine(OrdU.AllReadyU.cons (o:=⟨some 31,_,_,_,_,none⟩) rfl (fun K' hK=>?_) OrdU.AllReadyU.nil)
     go_simp
     have hS:=hS.one
     refine OrdU.bh hK (hH _ hS.below) (h:=fun hHeld=>?_)
     clear hK K'
     obtain⟨W4,eW⟩:∃ x,W3.alloc (.cells #[.int .i64 x1,.int .i64 x2,.int .i64 x3] 34)=x:=⟨_,rfl⟩
     rw [eW] at hS hHeld ⊢
     clear eW
     exact zTraceLawC0
   ·skip
    go_simp
    have hS:=hS.one
    refine OrdU.bh hK (hH _ hS.below) (h:=fun hHeld=>?_)
    clear hK K'
    obtain⟨W2,eW⟩:∃ x,W1.alloc (.cells #[.int .i64 x1,.int .i64 x2,.int .i64 x3] 34)=x:=⟨_,rfl⟩
    exact zTraceLawC4
   ·skip
    go_simp
    have hS:=hS.boxed
    refine OrdU.bh hK (hH _ hS.below) (h:=fun hHeld=>?_)
    clear hK K'
    obtain⟨W2,eW⟩:∃ x,W1.alloc (.cells #[.int .i64 0,.int .i64 0,.int .i64 0,.slice none 0 0] 26)=x:=⟨_,rfl⟩
    exact zTraceLawC3
  ·skip
   go_simp
   have hS:=hS.one
   refine OrdU.bh hK (hH _ hS.below) (h:=fun hHeld=>?_)
   clear hK K'
   obtain⟨W1,eW⟩:∃ x,W0.alloc (.cells #[.int .i64 x1,.int .i64 x2,.int .i64 x3] 34)=x:=⟨_,rfl⟩
   rw [eW] at hS hHeld ⊢
   clear eW
   refine OrdU.wpAnyU_ready (rs:=[2,10]) (by kernel_rfl) (by simp) ?_
   refine(OrdU.AllReadyU.cons (o:=⟨some 26,_,_,_,_,none⟩) rfl (fun K' hK=>?_) (OrdU.AllReadyU.cons (o:=⟨some 9,_,_,_,_,none⟩) rfl (fun K' hK=>?_) OrdU.AllReadyU.nil))
   ·skip
    go_simp
    have hS:=hS.empty
    refine OrdU.bh hK (hH _ hS.below) (h:=fun hHeld=>?_)
    clear hK K'
    obtain⟨W2,eW⟩:∃ x,W1.alloc (.cells #[] 34)=x:=⟨_,rfl⟩
    exact zTraceLawC4
   ·skip
    go_simp
    have hS:=hS.boxed
    refine OrdU.bh hK (hH _ hS.below) (h:=fun hHeld=>?_)
    clear hK K'
    obtain⟨W2,eW⟩:∃ x,W1.alloc (.cells #[.int .i64 0,.int .i64 0,.int .i64 0,.slice none 0 0] 26)=x:=⟨_,rfl⟩
    exact zTraceLawC5
  ·skip
   go_simp
   have hS:=hS.boxed
   refine OrdU.bh hK (hH _ hS.below) (h:=fun hHeld=>?_)
   clear hK K'
   obtain⟨W1,eW⟩:∃ x,W0.alloc (.cells #[.int .i64 0,.int .i64 0,.int .i64 0,.slice none 0 0] 26)=x:=⟨_,rfl⟩
   rw [eW] at hS hHeld ⊢
   clear eW
   refine OrdU.wpAnyU_ready (rs:=[2,7]) (by kernel_rfl) (by simp) ?_
   refine(OrdU.AllReadyU.cons (o:=⟨some 26,_,_,_,_,none⟩) rfl (fun K' hK=>?_) (OrdU.AllReadyU.cons (o:=⟨some 31,_,_,_,_,none⟩) rfl (fun K' hK=>?_) OrdU.AllReadyU.nil))
   ·skip
    go_simp
    have hS:=hS.empty
    refine OrdU.bh hK (hH _ hS.below) (h:=fun hHeld=>?_)
    clear hK K'
    obtain⟨W2,eW⟩:∃ x,W1.alloc (.cells #[] 34)=x:=⟨_,rfl⟩
    exact zTraceLawC3
   ·skip
    go_simp
    have hS:=hS.one
    refine OrdU.bh hK (hH _ hS.below) (h:=fun hHeld=>?_)
    clear hK K'
    obtain⟨W2,eW⟩:∃ x,W1.alloc (.cells #[.int .i64 x1,.int .i64 x2,.int .i64 x3] 34)=x:=⟨_,rfl⟩
    exact zTraceLawC5
 case rest =>
  obtain⟨g9,A9,c9,rfl,hb9,b9,ok9⟩:=hcut
  have HX8:=Lib.hid (fun W (h:Below wc.heap.size wc W)=>show W.cell? ⟨w3.heap.size,0,none⟩=some (.int .i64 k)∧W.cell? ⟨w3.heap.size,1,none⟩=some (.int .i64 v)∧W.cell? ⟨w3.heap.size,2,none⟩=some (.int .i64 m)∧W.cell? ⟨w3.heap.size,3,none⟩=some (.slice A n c)∧W.cell? ⟨w.heap.size,0,none⟩=some (.int .i64 k)∧W.cell? ⟨w.heap.size,1,none⟩=some (.int .i64 v)∧W.cell? ⟨w.heap.size,2,none⟩=some (.int .i64 st)∧W.cell? ⟨w.heap.size,3,none⟩=some (.slice A n c)∧W.cell? ⟨g9,0,none⟩=some (.int .i64 k)∧W.cell? ⟨g9,1,none⟩=some (.int .i64 v)∧W.cell? ⟨g9,2,none⟩=some (.int .i64 0)∧W.cell? ⟨g9,3,none⟩=some (.slice A9 (n+1) c9) from by
   have h1:=HbO.out W (hb9.trans (h.mono hb9.size))
   have h2:=HX.out W ((hb2.trans (hb9.mono hb2.size)).trans (h.mono (hb2.trans (hb9.mono hb2.size)).size))
   have h3:=b9.below h b9.lt
   exact⟨h1.cell 0,h1.cell 1,h1.cell 2,h1.cell 3,h2.1,h2.2.1,h2.2.2.1,h2.2.2.2.1,h3.cell 0,h3.cell 1,h3.cell 2,h3.cell 3⟩)
  have HK9:=Lib.hid (hb2.trans (hb9.mono hb2.size))
  have HO9:=Lib.hid (fun W (h:Below wc.heap.size wc W)=>ok9.at h)
  have hC:=HX8.out _ (Below.refl _ _)
  have hK:=(Below.refl wc.heap.size wc).drew
  clear b9 ok9 hb9 hH
  go_upto_region 8 with(fail)
  go_region_held3 (fun W=>W.cell? ⟨w3.heap.size,0,none⟩=some (.int .i64 k)∧W.cell? ⟨w3.heap.size,1,none⟩=some (.int .i64 v)∧W.cell? ⟨w3.heap.size,2,none⟩=some (.int .i64 m)∧W.cell? ⟨w3.heap.size,3,none⟩=some (.slice A n c)∧W.cell? ⟨w.heap.size,0,none⟩=some (.int .i64 k)∧W.cell? ⟨w.heap.size,1,none⟩=some (.int .i64 v)∧W.cell? ⟨w.heap.size,2,none⟩=some (.int .i64 st)∧W.cell? ⟨w.heap.size,3,none⟩=some (.slice A n c)∧W.cell? ⟨g9,0,none⟩=some (.int .i64 k)∧W.cell? ⟨g9,1,none⟩=some (.int .i64 v)∧W.cell? ⟨g9,2,none⟩=some (.int .i64 0)∧W.cell? ⟨g9,3,none⟩=some (.slice A9 (n+1) c9)) (first | exact hC) (first
   | (go_at_call 7;(with_reducible refine(HB1.out _ (HK9.out.trans (hK.mono HK9.out.size)) _).mono ?_);rintro e wn ⟨rfl,hb⟩;have hK:=hK.trans (hb.mono hK.size);have hC:=HX8.out _ hK)
   | (go_at_call 7;(with_reducible refine(HB2.out _ A9 c9 (HO9.out _ hK)).mono ?_);rintro e wn ⟨rfl,hb⟩;have hK:=hK.trans (hb.mono hK.size);have hC:=HX8.out _ hK)
   | (go_at_call 9;(with_reducible refine(HD1.out _ (HK9.out.trans (hK.mono HK9.out.size)) _).mono ?_);rintro e wn ⟨rfl,hb⟩;have hK:=hK.trans (hb.mono hK.size);have hC:=HX8.out _ hK)
   | fail)
  all_goals
   go_wp2_with fail
   go_ret
   exact⟨rfl,HB.out.trans ((HK9.out.trans (hK.mono HK9.out.size)).mono HB.out.size)⟩
end Go.Proofs.YtekogckmgkodfaaDoor.Trc
