/-
  A range over a function whose iterator writes what is its own: the statement, by the loop's record laid open; a round, out of its body's walk.
  Package path, walked: the whole; how two paths stand; each kid's number and place, told to a loop's body.
  Package path, walked: each kid's number and place, told to a loop's body; the node of a path.
  Package path, walked: a node and all below it, told place by place to a loop's body, with their paths (a method that calls itself and keeps where it stands).
  Package path, walked: a node's path.
  Package path, walked: the node of a path.
  Package path: what its functions come to.
-/
import Derived.RangeFuncNested
import Derived.RangeFuncLeaves
import Derived.RangeFuncCalls
import Derived.RangeFuncBound
import Derived.OwnWalkIn
import Derived.Test.YtodejloonfkkmaaGreatBaseG
import Derived.Test.YtodejloonfkkmaaGreatPathG
import Derived.Shelf.Abstract
import Derived.Shelf.RegionOpen
import Derived.TacticsInMore
import Derived.LoopNIn
import Derived.LoopIn
import Derived.Laws.EntriesVeiled
import Derived.Maps.OwnIn
set_option maxRecDepth 100000
set_option linter.unusedVariables false
set_option maxHeartbeats 4000000
namespace Go.Proofs.YtodejloonfkkmaaGreat.RangeO
open Go.RowKit Mem
variable {F:Fence} {n:Nat} {P:Program}
theorem kept_putObj(W:World)(l:Nat)(o:Obj):Kept (· = l) W (W.putObj l o) :=
 Kept.grown (Kept.refl _ _) (grownBy_putObj' W l o) (fun k e=>by cases e;exact .inl rfl)
def recd(fn:FuncId)(tmps:Array Value)(ps:Array Tmp)(assign body:Code)(D:Nat)(st:LoopState)(pe:Option Code):Loop:={ state:=st,pending:=pe,fn,tmps,params:=ps,assign,body,defers:=D }
theorem recd_name{W:World}{l:Nat}{fn:FuncId}{tmps:Array Value}{ps:Array Tmp}{assign body:Code}{D:Nat}{st:LoopState}{pe:Option Code}(_:W.heap[l]? = some (.loop (recd fn tmps ps assign body D st pe))) :
  ∃ rec:LoopState→Option Code→Loop,∀ st pe,rec st pe=recd fn tmps ps assign body D st pe:=⟨_,fun _ _=>rfl⟩
def outPost(l:Nat)(busy:Loop)(Go_:World→Prop)(St:Code→World→Prop):Exit→Act→World→Prop
 | .normal,_,W=>W.heap[l]? = some (.loop busy)∧Go_ W
 | .ret,_,W=>W.heap[l]? = some (.loop busy)∧St .ret W
 | .exit id,_,W=>W.heap[l]? = some (.loop busy)∧St (.exit id) W
 | .goto t,_,W=>W.heap[l]? = some (.loop busy)∧St (.goto t) W
 | .panic _,_,_=>False
 | .outgrown,_,_=>False
theorem yieldAt_of{l m:Nat}{fn:FuncId}{tmps:Array Value}{ps:Array Tmp}{assign body:Code}{D:Nat}{W:World}{args:Array Value}{R:Ending→World→Prop}{Go_:World→Prop}{St:Code→World→Prop}
  (hl:W.heap[l]? = some (.loop (recd fn tmps ps assign body D .ready none))) (hfn:F.fn fn) (hsz:args.size=ps.size)
  (h:assign.wpIn (F.inRound l) m P (Exit.then (fun a₁ W₁=>W₁=W∧∀ W₂,Kept (· = l) W W₂→W₂.heap.size=W.heap.size→W₂.heap[l]? = some (.loop (recd fn tmps ps assign body D .busy none))→body.wpIn (F.inRound l) m P (outPost l (recd fn tmps ps assign body D .busy none) Go_ St) a₁ W₂) (fun _ _ _=>False))
   { tmps:=(ps.zip args).foldl (fun t (p,v)=>t.setIfInBounds p v) tmps,defers:=[] } W)
  (hgo:∀ W₁ W₂,Go_ W₁→Kept (· = l) W₁ W₂→W₂.heap[l]? = some (.loop (recd fn tmps ps assign body D .ready none))→R (.returned (.bool true)) W₂)
  (hst:∀ c W₁ W₂,St c W₁→Kept (· = l) W₁ W₂→W₂.heap[l]? = some (.loop (recd fn tmps ps assign body D .done (some c)))→R (.returned (.bool false)) W₂) :
  YieldAt F m P l args W R:=by
 have hlt:l<W.heap.size:=(Array.getElem?_eq_some_iff.1 hl).1
 have hy:=run_yield (P:=P) (args:=args) hl hsz
 refine⟨fn,_,assign,body,hy,roundIn_of_wpIn hfn (wpIn_mono h ?_)⟩
 rintro e a₁ W₁ hp
 cases e with
 | normal =>
  obtain⟨rfl,hbody⟩:=hp
  refine⟨_,run_beginRound hl rfl,wpIn_mono (hbody _ (kept_putObj _ _ _) (by simp [World.putObj]) (World.putObj_heap_same hlt)) ?_⟩
  have fin:∀ (jump:Option Code) (W3:World),W3.heap[l]? = some (.loop (recd fn tmps ps assign body D .busy none)) →
    (Instr.endRound l jump).run P W3=.ok (.bool jump.isNone) (W3.putObj l (.loop (recd fn tmps ps assign body D (if jump.isNone then .ready else .done) jump))) ∧
    (W3.putObj l (.loop (recd fn tmps ps assign body D (if jump.isNone then .ready else .done) jump))).heap[l]? = some (.loop (recd fn tmps ps assign body D (if jump.isNone then .ready else .done) jump)):=fun jump W3 hl3 =>
   ⟨run_endRound (P:=P) jump hl3,World.putObj_heap_same (Array.getElem?_eq_some_iff.1 hl3).1⟩
  rintro e a3 W3 hp
  cases e with
  | normal=>exact⟨_,_,(fin none W3 hp.1).1,hgo _ _ hp.2 (kept_putObj _ _ _) (fin none W3 hp.1).2⟩
  | ret=>exact⟨_,_,(fin (some .ret) W3 hp.1).1,hst _ _ _ hp.2 (kept_putObj _ _ _) (fin (some .ret) W3 hp.1).2⟩
  | exit id=>exact⟨_,_,(fin (some (.exit id)) W3 hp.1).1,hst _ _ _ hp.2 (kept_putObj _ _ _) (fin (some (.exit id)) W3 hp.1).2⟩
  | goto t=>exact⟨_,_,(fin (some (.goto t)) W3 hp.1).1,hst _ _ _ hp.2 (kept_putObj _ _ _) (fin (some (.goto t)) W3 hp.1).2⟩
  | panic ch=>exact hp.elim
  | outgrown=>exact hp.elim
 | exit id=>exact hp.elim
 | goto t=>exact hp.elim
 | ret=>exact hp.elim
 | panic chain=>exact hp.elim
 | outgrown=>exact hp.elim
theorem wpIn_rangeFunc_open{g:Operand}{ps:Array Tmp}{assign body:Code}{Q:Exit→Act→World→Prop}{a:Act}{w:World}
  (hro:F.round=none) (h1:1≤n) {gf:Nat} {fb lb:Array Value} (hg:a.eval g=.func (.func gf) fb lb) (hFg:F.fn gf) (eg:∀ args w,(callFunc gf args).run P w=.ok (.enter gf args) w)
  (Done:World→Prop) (Stop:Code→World→Prop)
  (h:∀ (fn:FuncId) (W:World),F.fn fn→Below w.heap.size w W→W.heap.size=w.heap.size+2→W.heap[w.heap.size]? = some (.deferred (some []))→W.heap[w.heap.size+1]? = some (.loop (recd fn a.tmps ps assign body w.heap.size .ready none)) →
   CallsIn F (n-1) P gf (fb++#[.func (.yield (w.heap.size+1)) #[] #[]]++lb) W fun e W'=>(∃ v,e=.returned v)∧W'.heap[w.heap.size]? = some (.deferred (some [])) ∧
    ((W'.heap[w.heap.size+1]? = some (.loop (recd fn a.tmps ps assign body w.heap.size .ready none))∧Done W')∨∃ c,W'.heap[w.heap.size+1]? = some (.loop (recd fn a.tmps ps assign body w.heap.size .done (some c)))∧Stop c W'))
  (hdone:∀ W W',Done W→Kept (· = w.heap.size+1) W W'→W'.heap[w.heap.size]? = some (.deferred (some []))→Q .normal { a with defers:={ target:=.collected w.heap.size,args:=#[] }::a.defers } W')
  (hstop:∀ c W W',Stop c W→Kept (· = w.heap.size+1) W W'→W'.heap[w.heap.size]? = some (.deferred (some []))→c.wpIn F n P Q { a with defers:={ target:=.collected w.heap.size,args:=#[] }::a.defers } W') :
  (Code.rangeFunc g ps assign body).wpIn F n P Q a w:=by
 refine wpIn_rangeFunc ?_
 intro fn hfn
 rw [hro]
 obtain⟨W1,hW1⟩:∃ W1,(w.alloc (.deferred (some []))).alloc (.loop (recd fn a.tmps ps assign body w.heap.size .ready none))=W1:=⟨_,rfl⟩
 have hL1:W1.heap[w.heap.size+1]? = some (.loop (recd fn a.tmps ps assign body w.heap.size .ready none)):=by
  rw [← hW1];have:=World.alloc_heap_new (w.alloc (.deferred (some []))) (.loop (recd fn a.tmps ps assign body w.heap.size .ready none));rwa [World.size_alloc] at this
 have hK1:W1.heap[w.heap.size]? = some (.deferred (some [])):=by
  rw [← hW1];exact(Below.heap_alloc _ _ _ (by simp)).trans (World.alloc_heap_new w _)
 have hb1:Below w.heap.size w W1:=by
  rw [← hW1];exact((Below.refl _ w).alloc (Nat.le_refl _) _).alloc (by simp) _
 have hs1:W1.heap.size=w.heap.size+2:=by rw [← hW1];simp
 refine⟨w.heap.size+1,[{ target:=.collected w.heap.size,args:=#[] }],W1,{ target:=.fn (.func gf) lb,args:=fb++#[.func (.yield (w.heap.size+1)) #[] #[]] },W1,gf,
  fb++#[.func (.yield (w.heap.size+1)) #[] #[]]++lb,W1,?_,?_,?_,?_,fun _=>h1,?_⟩
 ·rw [← hW1];exact run_enterLoop_outer _ _ _ _ _
 ·simp only [resolve,hg]
  simp [go_sem]
 ·intro f' hf';simp [Target.leads] at hf';subst hf';exact hFg
 ·simp [invoke,go_sem,eg]
 ·refine(h fn W1 hfn hb1 hs1 hK1 hL1).mono ?_
  rintro e W2 ⟨⟨v,rfl⟩,hd,⟨hl,hD⟩ | ⟨c,hl,hS⟩⟩
  ·exact⟨none,_,run_endLoop (P:=P) hl (by simp [recd]),hdone _ _ hD (kept_putObj _ _ _) ((World.putObj_heap_other (by omega)).trans hd)⟩
  ·exact⟨some c,_,run_endLoop (P:=P) hl (by simp [recd]),hstop c _ _ hS (kept_putObj _ _ _) ((World.putObj_heap_other (by omega)).trans hd)⟩
def Marks(B:Nat)(w:World):List Deferred→Prop
 | []=>True
 | d::ds=>(∃ r,d={ target:=.collected r,args:=#[] }∧B≤r∧w.heap[r]? = some (.deferred (some []))∧∀ d'∈ds,∀ r',d'={ target:=.collected r',args:=#[] }→r'≠r)∧Marks B w ds
theorem Marks.keep_{B:Nat}{w w':World}:∀ (ds:List Deferred),Marks B w ds→(∀ r,w.heap[r]? = some (.deferred (some []))→(∃ d∈ds,d={ target:=.collected r,args:=#[] })→w'.heap[r]? = some (.deferred (some [])))→Marks B w' ds
 | [],_,_=>trivial
 | d::ds,⟨⟨r,e,h1,h2,h3⟩,h4⟩,k=>⟨⟨r,e,h1,k r h2 ⟨d,List.mem_cons_self ..,e⟩,h3⟩,keep_ ds h4 (fun r' hr ⟨d',hd,e'⟩=>k r' hr ⟨d',List.mem_cons_of_mem _ hd,e'⟩)⟩
theorem Marks.keep{B:Nat}{w w':World}{ds:List Deferred}(h:Marks B w ds)(k:∀ r,w.heap[r]? = some (.deferred (some []))→(∃ d∈ds,d={ target:=.collected r,args:=#[] })→w'.heap[r]? = some (.deferred (some []))):Marks B w' ds:=keep_ ds h k
theorem Marks.mem_{B:Nat}{w:World}:∀ (ds:List Deferred),Marks B w ds→∀ d'∈ds,∀ r',d'={ target:=.collected r',args:=#[] }→w.heap[r']? = some (.deferred (some []))
 | [],_,_,h,_,_=>absurd h (by simp)
 | d::ds,⟨⟨r,e,h1,h2,h3⟩,h4⟩,d',hd,r',e'=>by
  rcases List.mem_cons.1 hd with rfl | hd
  ·rw [e] at e'
   simp only [Deferred.mk.injEq,Target.collected.injEq,and_true] at e'
   rw [← e'];exact h2
  ·exact mem_ ds h4 d' hd r' e'
theorem Marks.mem{B:Nat}{w:World}{ds:List Deferred}(h:Marks B w ds)(d':Deferred)(hd:d'∈ds)(r':Nat)(e:d'={ target:=.collected r',args:=#[] }):w.heap[r']? = some (.deferred (some [])):=mem_ ds h d' hd r' e
theorem Marks.push{B:Nat}{w w':World}{ds:List Deferred}{D:Nat}(h:Marks B w ds)(hD:w.heap.size≤D)(hB:B≤D)(hw:w'.heap[D]? = some (Obj.deferred (some [])))(k:∀ (r:Nat),w.heap[r]? = some (Obj.deferred (some []))→w'.heap[r]? = some (Obj.deferred (some []))):Marks B w' ({ target:=.collected D,args:=#[] }::ds) :=
 ⟨⟨D,rfl,hB,hw,fun d' hd r' e'=>by have:=(Array.getElem?_eq_some_iff.1 (h.mem d' hd r' e')).1;omega⟩,h.keep (fun r hr _=>k r hr)⟩
theorem leaves_marks{fn:Func}{tmps:Array Value}{R:Ending→World→Prop}{B:Nat}:∀ (ds:List Deferred) (w:World),Marks B w ds→(∀ w',Kept (B≤·) w w'→LeavesIn F n P fn tmps R [] .returning w')→LeavesInM F n P fn tmps R ds .returning w
 | [],w,_,h=>h w (Kept.refl _ _)
 | d::ds,w,⟨⟨r,e,h1,h2,h3⟩,h4⟩,h=>by
  subst e
  have hk:=kept_putObj w r (.deferred none)
  refine⟨by simp,.inl ⟨r,_,rfl,run_takeDeferred h2,leaves_marks ds _ (h4.keep ?_) (fun w' hw=>h w' ((hk.mono (S':=(B≤·)) (fun i q=>by rw [q];exact h1)).trans hw))⟩⟩
  rintro r' hr' ⟨d',hd,e'⟩
  exact(World.putObj_heap_other (fun q=>h3 d' hd r' e' q)).trans hr'
end Go.Proofs.YtodejloonfkkmaaGreat.RangeO
namespace Go.Proofs.YtodejloonfkkmaaGreat.Path
open Go.RowKit Go.Shelf Mem Arena
attribute [local go_sem ↓] Go.wp_at_zero Go.wp_at_succ
theorem row_scan(l:List Nd):∀ (c s n:Nat),scan c (l.drop s)=some n→∀ j,j<c→∃ r m:Nat,scan j (l.drop s)=some r∧(kidsFrom l c s)[j]? = some ((s+r:Nat):Int)∧T l (s+r) m∧scan (j+1) (l.drop s)=some (r+m)∧r+m≤n
 | 0,s,n,h,j,hj=>absurd hj (by omega)
 | c+1,s,n,h,j,hj=>by
  rw [Nat.add_comm,scan_add] at h
  cases h1:scan 1 (l.drop s) with
  | none=>rw [h1] at h;cases h
  | some n1 =>
   rw [h1] at h
   simp only [Option.bind_some,Option.map_eq_some_iff,List.drop_drop] at h
   obtain⟨m,h2,rfl⟩:=h
   have ek:aend l (s:Int)=((s+n1:Nat):Int):=T.end h1
   cases j with
   | zero=>exact⟨0,n1,scan_0 _,by rw [kidsFrom];rfl,h1,by rw [h1,Nat.zero_add],by omega⟩
   | succ j =>
    obtain⟨r,m',r1,r2,r3,r4,r5⟩:=row_scan l c (s+n1) m h2 j (by omega)
    refine⟨n1+r,m',?_,?_,by rw [← Nat.add_assoc];exact r3,?_,by omega⟩
    ·rw [Nat.add_comm j 1,scan_add,h1]
     simp only [Option.bind_some,List.drop_drop,r1,Option.map_some]
    ·rw [kidsFrom,ek,List.getElem?_cons_succ,r2,Nat.add_assoc]
    ·rw [Nat.add_comm (j+1) 1,scan_add,h1]
     simp only [Option.bind_some,List.drop_drop,r4,Option.map_some,Nat.add_assoc]
theorem kid_scan{l:List Nd}{a n:Nat}(h:T l a n):∃ x c,l[a]? = some x∧ar x=((c:Nat):Int)∧c≤200∧(akids l a).length=c∧scan c (l.drop (a+1))=some (n-1)∧1≤n∧a+n≤l.length ∧
  ∀ j,j<c→∃ r m:Nat,scan j (l.drop (a+1))=some r∧(akids l a)[j]? = some ((a+1+r:Nat):Int)∧T l (a+1+r) m∧scan (j+1) (l.drop (a+1))=some (r+m)∧r+m≤n-1:=by
 obtain⟨x,h1,h2,h3,h4,h5,h6⟩:=node_kids h
 have:=(ar_le x).2
 refine⟨x,(ar x).toNat,h1,by omega,by omega,by rw [h3,kids_len],h4,h5,h6,fun j hj=>?_⟩
 rw [h3]
 exact row_scan l _ _ _ h4 j hj
theorem whole_any(A:Option Addr)(cap:Nat)(l:List Nd)(w:World)(hx:Nodes w w.heap.size A l)(hl:l.length≤1000000) :
  Calls Tryz.prog 46 #[.slice A l.length cap] w fun e w'=>e=.returned (.bool (aend l 0==(l.length:Int)))∧Below w.heap.size w w':=by
 have HE:=Lib.hid (End_any A cap l 0 w hx hl)
 clear hx
 generalize aend l 0=z at *
 go_enter Tryz.func46,Tryz.ntmps46
 go_wp2_with (go_at_call 51;refine HE.out.mono ?_;rintro e w1 ⟨rfl,hb1⟩)
 go_ret
 exact⟨rfl,hb1⟩
end Go.Proofs.YtodejloonfkkmaaGreat.Path
namespace Go.Proofs.YtodejloonfkkmaaGreat.Path
open Go.RowKit Go.Shelf Mem Arena RangeO
attribute [local go_sem] Oper.semAt_some
def kid(xs:List Nd)(a:Int)(j:Nat):Int:=(akids xs a).getD j 0
theorem kid_some{xs:List Nd}{a:Int}{j:Nat}(h:j<(akids xs a).length):(akids xs a)[j]? = some (kid xs a j):=by
 unfold kid
 rw [List.getD_eq_getElem?_getD,List.getElem?_eq_getElem h]
 rfl
def krow(xs:List Nd)(a:Int):List (Int×Int):=(List.range (akids xs a).length).map fun(j:Nat)=>((j:Int),kid xs a j)
theorem krow_len(xs:List Nd)(a:Int):(krow xs a).length=(akids xs a).length:=by simp [krow]
theorem krow_get{xs:List Nd}{a:Int}{j:Nat}(h:j<(akids xs a).length):(krow xs a)[j]? = some ((j:Int),kid xs a j):=by
 unfold krow
 rw [List.getElem?_map,List.getElem?_range h]
 rfl
theorem krow_snoc{xs:List Nd}{a:Int}{j:Nat}(h:j<(akids xs a).length):(krow xs a).take (j+1)=(krow xs a).take j++[((j:Int),kid xs a j)]:=by
 rw [List.take_add_one,krow_get h]
 rfl
theorem kid_next{xs:List Nd}{a n j:Nat}(h:T xs a n)(hj:j<(akids xs a).length):(j=0→kid xs a j=(a:Int)+1)∧(∀ i,j=i+1→aend xs (kid xs a i)=kid xs a j)∧0≤kid xs a j∧kid xs a j≤(xs.length:Int):=by
 obtain⟨x,c,-,-,-,hc,-,-,hn,hk⟩:=kid_scan h
 obtain⟨r,m,s1,s2,s3,s4,s5⟩:=hk j (by omega)
 rw [kid_some hj] at s2
 have e:=Option.some.inj s2
 have:=s3.pos
 refine⟨fun h0=>?_,fun i hi=>?_,by omega,by omega⟩
 ·subst h0
  rw [scan_0] at s1
  have:=Option.some.inj s1
  omega
 ·subst hi
  obtain⟨r',m',t1,t2,t3,t4,t5⟩:=hk i (by omega)
  rw [kid_some (by omega)] at t2
  have e':=Option.some.inj t2
  rw [t4] at s1
  have:=Option.some.inj s1
  rw [e',T.end t3,e]
  omega
theorem kids1_stops(Bl Ba B:Nat)(A:Option Addr)(cap:Nat)(xs:List Nd)(a n:Nat)(w:World)(hl:xs.length≤1000000)(ht:T xs a n)(hx:Nodes w B A xs)(hB:B≤w.heap.size)(hBl:Bl<w.heap.size)(hBa:Ba<w.heap.size)
  (hcl:w.cell? ⟨Bl,0,none⟩=some (.slice A xs.length cap)) (hca:w.cell? ⟨Ba,0,none⟩=some (.int .i64 a)) :
  SeqStopsK Fence.wide 3 Tryz.prog 97 #[.pointer (some ⟨Ba,0,none⟩),.pointer (some ⟨Bl,0,none⟩)] told (Below w.heap.size) (fun ys=>ys=krow xs a) (fun pre=>pre <+: krow xs a) 1000001 w:=by
 intro l J Jx W hW hJ _ hY h0
 have hJ':∀ s W1 W2,J s W1→Below W1.heap.size W1 W2→J s W2:=fun s W1 W2 h hb=>hJ s W1 W2 none h (grown_below hb) (fun r e=>by cases e)
 have HX:=Lib.hid (fun W1 (h:Below w.heap.size w W1)=>(hx.keep (w':=W1) (fun k hk=>h.block k (by omega))).below (B:=B) (w':=W1) (Below.refl _ _))
 have HXE:=Lib.hid (fun k W1 (h:Below w.heap.size w W1)=>End_any A cap xs k W1 (fun i x hi=>by
  obtain⟨ad,e,h1,h2⟩:=(hx.keep (w':=W1) (fun k hk=>h.block k (by omega))) i x hi
  exact⟨ad,e,by have:=h.size;omega,h2⟩) hl)
 have HL:=Lib.hid (fun W1 (h:Below w.heap.size w W1)=>(h.cell (p:=⟨Bl,0,none⟩) hBl).trans hcl)
 have HA:=Lib.hid (fun W1 (h:Below w.heap.size w W1)=>(h.cell (p:=⟨Ba,0,none⟩) hBa).trans hca)
 obtain⟨x,c,hxk,har,hc,hkl,-,-,hn,-⟩:=kid_scan ht
 have hpos:=ht.pos
 have HK:=Lib.hid (fun j (hj:j<c)=>kid_next ht (by rw [hkl];exact hj))
 have HS:=Lib.hid (fun j (hj:j<c)=>krow_snoc (xs:=xs) (a:=(a:Int)) (j:=j) (by rw [hkl];exact hj))
 have HE:=Lib.hid (show(krow xs a).take c=krow xs a from List.take_of_length_le (by rw [krow_len,hkl];exact Nat.le_refl _))
 have HLEN:=Lib.hid (show ∀ j,j≤c→((krow xs a).take j).length=j from fun j hj=>by rw [List.length_take,krow_len,hkl];omega)
 have HAR:=Lib.hid (fun W=>Arity_any x.1 x.2 W)
 rw [show ar (x.1,x.2)=(c:Int) from har] at HAR
 obtain⟨ad,hA,hbk,g0,g1⟩:=HX.out W hW a x hxk
 subst hA
 have hL:=HL.out _ hW
 have hA0:=HA.out _ hW
 have i1:(a:Int)<(xs.length:Int):=by omega
 have i2:(0:Int)≤(a:Int):=by omega
 have v1:IntKind.i64.wrap ((a:Int)+1)=(a:Int)+1:=IntWalk.i64_in _ (by omega)
 have H0:=Lib.hid h0
 have HY:=Lib.hid hY
 have HJ:=Lib.hid hJ'
 have hf1:Fence.wide.fn 51:=trivial
 have hf2:Fence.wide.fn 52:=trivial
 clear hx hJ hJ' hcl hca hY h0 hxk har ht hn hpos
 generalize hR:krow xs a=R at *
 clear hR
 refine callsIn_of_wp Tryz.func97 rfl trivial ?_ rfl
 simp only [Tryz.ntmps97,List.size_toArray,List.length_cons,List.length_nil,Nat.reduceAdd,Nat.reduceSub,Array.replicate_succ,Array.replicate_zero,List.push_toArray,List.append_toArray,List.nil_append,List.cons_append]
 gi_wp2_with (gi_at_call 52;refine((callsIn_wide (n:=2)).2 (HAR.out _)).mono ?_;rintro e w3 ⟨rfl,hb3⟩)
 have hB3:=hW.trans (hb3.mono hW.size)
 gi_loopw [4,13] (fun q i wr=>∃ k:Nat,k≤c∧i=.int .i64 k∧q=.int .i64 (if k=0 then(a:Int)+1 else kid xs a (k-1))∧J (R.take k) wr∧Below w.heap.size w wr) (fun _ i _=>c-(intOf i).toNat)
 case atStart=>exact⟨0,by omega,rfl,rfl,HJ.out _ _ _ H0.out hb3,hB3⟩
 case round =>
  obtain⟨k,hk,rfl,rfl,hJk,hB⟩:=hrel
  by_cases hlt:k<c
  ·have j1:(k:Int)<(c:Int):=by omega
   obtain⟨n0,n1,n2,n3⟩:=HK.out k hlt
   have hY1:=fun W1 (h:J (R.take k) W1)=>HY.out _ ((k:Int),kid xs a k) W1 h (by rw [HLEN.out k hk];omega)
   rw [← HS.out k hlt] at hY1
   have HY1:=Lib.hid hY1
   have htold:told ((k:Int),kid xs a k)=#[.int .i64 (k:Int),.int .i64 (kid xs a k)]:=rfl
   rw [htold] at HY1
   have HP:=Lib.hid (show R.take (k+1) <+: R from List.take_prefix _ _)
   have j3:IntKind.i64.wrap ((k:Int)+1)=(k:Int)+1:=IntWalk.i64_in _ (by omega)
   clear hY1
   rcases k with _ | i
   ·rw [if_pos rfl]
    have z0:=n0 rfl
    rw [z0,show((0:Nat):Int)=0 from rfl] at HY1
    have j2:¬ (0:Int)<((0:Nat):Int):=by omega
    obtain⟨fn,tmps,assign,body,hy,hR⟩:=HY1.out _ hJk
    clear n1 n0
    gi_wp2
    refine hR.mono ?_
    rintro e W4 (⟨rfl,hJ4,hK4⟩ | ⟨rfl,hJx4⟩)
    ·gi_wp2
     go_roundw
     case rel=>exact⟨1,by omega,rfl,by rw [if_neg (by omega),← z0],hJ4,hB.trans hK4⟩
     case measure=>simp [intOf];omega
    ·gi_wp2
     refine bodyPost_ret (results_none rfl _ _ _) rfl ?_
     exact⟨⟨_,rfl⟩,.inr ⟨_,HP.out,hJx4⟩⟩
   ·rw [if_neg (by omega)]
    have z1:=n1 i rfl
    have j2:(0:Int)<((i+1:Nat):Int):=by omega
    rw [show((i+1:Nat):Int)=(i:Int)+1 by omega] at HY1
    have hL2:=HL.out _ hB
    have HE2:=Lib.hid (HXE.out (kid xs a i) _ hB)
    rw [z1] at HE2
    rw [show i+1-1=i from rfl]
    clear n1 n0 z1
    gi_wp2_with (gi_at_call 51;refine((callsIn_wide (n:=2)).2 HE2.out).mono ?_;rintro e w4 ⟨rfl,hb4⟩;have hJ4:=HJ.out _ _ _ hJk hb4;have hB4:=hB.trans (hb4.mono hB.size);obtain⟨fn,tmps,assign,body,hy,hR⟩:=HY1.out _ hJ4)
    refine hR.mono ?_
    rintro e W4 (⟨rfl,hJ4,hK4⟩ | ⟨rfl,hJx4⟩)
    ·gi_wp2
     go_roundw
     case rel=>exact⟨i+1+1,by omega,by go_num,by rw [if_neg (by omega)];rfl,hJ4,hB4.trans hK4⟩
     case measure=>simp [intOf];omega
    ·gi_wp2
     refine bodyPost_ret (results_none rfl _ _ _) rfl ?_
     exact⟨⟨_,rfl⟩,.inr ⟨_,HP.out,hJx4⟩⟩
  ·have hk9:k=c:=by omega
   subst hk9
   have j1:¬ (k:Int)<(k:Int):=by omega
   rw [HE.out] at hJk
   gi_wp2
   all_goals first
    | (go_end0;exact⟨⟨_,rfl⟩,.inl hJk⟩)
    | (go_end0;exact⟨⟨_,rfl⟩,.inl ⟨_,rfl,hJk⟩⟩)
    | (refine bodyPost_ret (results_none rfl _ _ _) rfl ?_;exact⟨⟨_,rfl⟩,.inl hJk⟩)
def St(w:World)(G base:Nat)(A:Option Addr)(cap:Nat)(xs:List Nd)(a:Nat)(left:Bool)(p:List Int):Prop :=
 ∃ v,Blk w G 214 #[.slice A xs.length cap,.int .i64 a,v,.bool left]∧w.ownsRow base 3 1 v p.length (icells p)
def Turns(G base:Nat)(Φ:Nat→Prop)(k:Nat):Prop:=k=G∨Φ k∨base≤k
theorem kept_setCell{W:World}{G i:Nat}(v:Value):Kept (· = G) W (W.setCell ⟨G,i,none⟩ v):=(Kept.refl (· = G) W).setCell (p:=⟨G,i,none⟩) (.inl rfl) v
theorem own_slice{w:World}{base:Nat}{A:Option Addr}{n c:Nat}{ks:List Int}(hn:ks.length=n)(h:w.ownsRow base 3 1 (.slice A n c) n (icells ks)) :
  n≤c∧(A=none→c=0)∧IRow w w.heap.size A ks∧(∀ ad,A=some ad→base≤ad.block):=by
 subst hn
 obtain⟨A',c',e,h1,h2,h3,h4⟩:=own_ints2' h
 simp only [Value.slice.injEq,true_and] at e
 obtain⟨rfl,rfl⟩:=e
 exact⟨h1,h2,h3,h4⟩
theorem own_form{w:World}{base:Nat}{v:Value}{ks:List Int}(h:w.ownsRow base 3 1 v ks.length (icells ks)):∃ A c,v=.slice A ks.length c:=by
 obtain⟨A,c,e,-⟩:=own_ints2' h
 exact⟨A,c,e⟩
theorem below_in(G base l B:Nat)(A:Option Addr)(cap:Nat)(xs:List Nd)(hl:xs.length≤1000000)(hw:Whole xs)(hBG:B≤G)(hGb:G<base)(Φ:Nat→Prop)(hΦ:∀ k,Φ k→k≠G∧k<base∧B≤k)
    (J:Nat→World→Prop) (Jx:World→Prop) (hJ:∀ a X Y,J a X→Kept (fun k=>k=G∨base≤k) X Y→J a Y) (hJx:∀ X Y,Jx X→Kept (· = G) X Y→Jx Y)
    (hY:∀ (a:Nat) (p:List Int) (A':Option Addr) (c:Nat) (W:World),a<xs.length→Leads xs a p→J a W→p.length≤c→(A'=none→c=0)→IRow W W.heap.size A' p→(∀ ad,A'=some ad→base≤ad.block) →
      YieldAt Fence.wide 3 Tryz.prog l #[.int .i64 a,.slice A' p.length c] W fun e W'=>∃ b,e=.returned (.bool b)∧Kept Φ W W'∧(b=true→J (a+1) W')∧(b=false→Jx W')) :
    ∀ (n a : Nat) (p : List Int) (W : World), T xs a n → Leads xs a p → St W G base A cap xs a false p → Nodes W B A xs → base ≤ W.heap.size → J a W →
      CallsIn Fence.wide 4 Tryz.prog 145 #[.pointer (some ⟨G,0,none⟩),.func (.yield l) #[] #[]] W fun e W'=>e=.returned (.tuple #[])∧Kept (Turns G base Φ) W W' ∧
        ∃ lf nx,St W' G base A cap xs nx lf p∧(lf=false→nx=a+n∧J nx W')∧(lf=true→Jx W'):=by
  intro n
  induction n using Nat.strongRecOn with
  | _ n ih =>
    intro a p W ht hp hs hx hbW hJa
    obtain⟨x,c,hxk,har,hc,hkl,hsc,hn1,hn,hks⟩:=kid_scan ht
    have hpl:=hp.rng
    obtain⟨v,bG,hown⟩:=hs
    obtain⟨Ap,cp,rfl⟩:=own_form hown
    have hGW:G<W.heap.size:=by omega
    have hk1:=kept_setCell (W:=W) (G:=G) (i:=1) (.int .i64 ((a:Int)+1))
    have bG1:=bG.set 1 (.int .i64 ((a:Int)+1))
    rw [show(#[Value.slice A xs.length cap,.int .i64 a,.slice Ap p.length cp,.bool false]:Array Value).setIfInBounds 1 (.int .i64 ((a:Int)+1))=#[.slice A xs.length cap,.int .i64 ((a:Int)+1),.slice Ap p.length cp,.bool false] from rfl] at bG1
    have hown1:=own_of_block hown (w':=W.setCell ⟨G,1,none⟩ (.int .i64 ((a:Int)+1))) (fun k hk=>hk1.block k (hown.lt k hk).2 (by have:=(hown.lt k hk).1;omega))
    obtain⟨q1,q2,q3,q4⟩:=own_slice rfl hown1
    obtain⟨fn,tmps,assign,body,hyy,hR⟩:=hY a p Ap cp _ (by omega) hp (hJ _ _ _ hJa (hk1.mono (fun k q=>.inl q))) q1 q2 q3 q4
    have v1:IntKind.i64.wrap ((a:Int)+1)=(a:Int)+1:=IntWalk.i64_in _ (by omega)
    have cG1:=bG.cell 1
    have fG1:=bG.frozen 1
    have cG2:=bG1.cell 2
    have HX1:=Lib.hid (fun W' (h:Kept (Turns G base Φ) W W')=>hx.keep (w':=W') (fun k hk=>h.block k (by omega) (by rintro(q | q | q);omega;have:=(hΦ k q).2.2;omega;omega)))
    have HW1:=Lib.hid (hk1.mono (S':=Turns G base Φ) (fun k q=>.inl q))
    have HO1:=Lib.hid hown1
    have HB1:=Lib.hid bG1
    have HIH:=Lib.hid ih
    have HJ:=Lib.hid hJ
    have HJx:=Lib.hid hJx
    have HKS:=Lib.hid hks
    have HXK:=Lib.hid hxk
    have HAR:=Lib.hid (fun W=>Arity_any x.1 x.2 W)
    rw [show ar (x.1,x.2)=(c:Int) from har] at HAR
    have HL:=Lib.hid hp
    have HSC:=Lib.hid hsc
    have hf1:Fence.wide.fn 52:=trivial
    have hf2:Fence.wide.fn 145:=trivial
    clear ih hJ hJx hY hks hxk har hp hown hown1 hJa hx bG bG1 hk1 q1 q2 q3 q4 hsc ht hw
    refine callsIn_of_wp Tryz.func145 rfl trivial ?_ rfl
    simp only [Tryz.ntmps145,List.size_toArray,List.length_cons,List.length_nil,Nat.reduceAdd,Nat.reduceSub,Array.replicate_succ,Array.replicate_zero,List.push_toArray,List.append_toArray,List.nil_append,List.cons_append]
    gi_wp2
    refine hR.mono ?_
    rintro e W2 ⟨b,rfl,hK2,hT,hF⟩
    have bG2:=HB1.out.kept hK2 (fun q=>(hΦ _ q).1 rfl)
    have hK2':=HW1.out.trans (hK2.mono (S':=Turns G base Φ) (fun k q=>.inr (.inl q)))
    have hown2:=own_of_block HO1.out (fun k hk=>hK2.block k (HO1.out.lt k hk).2 (fun q=>by have:=(HO1.out.lt k hk).1;have:=(hΦ k q).2.1;omega))
    have hk3:=kept_setCell (W:=W2) (G:=G) (i:=3) (.bool (!b))
    have bG3:=bG2.set 3 (.bool (!b))
    rw [show(#[Value.slice A xs.length cap,.int .i64 ((a:Int)+1),.slice Ap p.length cp,.bool false]:Array Value).setIfInBounds 3 (.bool (!b))=#[.slice A xs.length cap,.int .i64 ((a:Int)+1),.slice Ap p.length cp,.bool (!b)] from rfl] at bG3
    have hown3:=own_of_block hown2 (w':=W2.setCell ⟨G,3,none⟩ (.bool (!b))) (fun k hk=>hk3.block k (hown2.lt k hk).2 (by have:=(hown2.lt k hk).1;omega))
    have hK3:=hK2'.trans (hk3.mono (S':=Turns G base Φ) (fun k q=>.inl q))
    have fG3:=bG2.frozen 3
    have cG3:=bG2.cell 3
    have c30:=bG3.cell 0
    have c32:=bG3.cell 2
    have hJ3:(!b)=false→J (a+1) (W2.setCell ⟨G,3,none⟩ (.bool (!b))):=fun h=>HJ.out _ _ _ (hT (by simpa using h)) (hk3.mono (fun k q=>.inl q))
    have hX3:(!b)=true→Jx (W2.setCell ⟨G,3,none⟩ (.bool (!b))):=fun h=>HJx.out _ _ (hF (by simpa using h)) hk3
    obtain⟨ad,hA,hbk,g0,g1⟩:=HX1.out _ hK3 a x HXK.out
    have i1:(a:Int)<(xs.length:Int):=by omega
    have i2:(0:Int)≤(a:Int):=by omega
    subst hA
    clear hT hF hK2 hK2' bG2 hown2 hR hyy cG1 fG1 cG2
    have HO3:=Lib.hid hown3
    have HB3:=Lib.hid bG3
    have HK3:=Lib.hid hK3
    have HJ3:=Lib.hid hJ3
    have HX3:=Lib.hid hX3
    clear hown3 bG3 hJ3 hX3 hK3 HO1 HB1 HW1 hk3
    gi_wp2_with (gi_at_call 52;refine((callsIn_wide (n:=3)).2 (HAR.out _)).mono ?_;rintro e W4 ⟨rfl,hb4⟩)
    clear c30 c32 g0 g1 fG3 cG3
    generalize (!b)=lf0 at *
    have hk4:Kept (fun k=>k=G∨base≤k) (W2.setCell ⟨G,3,none⟩ (.bool lf0)) W4:=Kept.of_below hb4 (Nat.le_refl _)
    have hk4':Kept (· = G) (W2.setCell ⟨G,3,none⟩ (.bool lf0)) W4:=Kept.of_below hb4 (Nat.le_refl _)
    have HS4:=Lib.hid (show St W4 G base (some ad) cap xs (a+1) lf0 p from⟨_,HB3.out.below hb4 HB3.out.lt,own_of_block HO3.out (fun k hk=>hb4.block k (HO3.out.lt k hk).2)⟩)
    have HK4:=Lib.hid (HK3.out.trans (hk4.mono (S':=Turns G base Φ) (fun k q=>q.elim .inl (fun q=>.inr (.inr q)))))
    have HJ4:=Lib.hid (fun h=>HJ.out _ _ _ (HJ3.out h) hk4)
    have HX4:=Lib.hid (fun h=>HJx.out _ _ (HX3.out h) hk4')
    clear HJ3 HX3 HK3 HB3 HO3 hb4 hk4 hk4'
    gi_loopw [42] (fun i wr=>∃ (k:Nat) (lf:Bool) (nx:Nat),k≤c∧i=.int .i64 k∧St wr G base (some ad) cap xs nx lf p∧Kept (Turns G base Φ) W wr∧(lf=false→∃ r,scan k (xs.drop (a+1))=some r∧nx=a+1+r∧J nx wr)∧(lf=true→Jx wr)) (fun i _=>c-(intOf i).toNat)
    case atStart=>exact⟨0,lf0,a+1,by omega,rfl,HS4.out,HK4.out,fun h=>⟨0,scan_0 _,rfl,HJ4.out h⟩,HX4.out⟩
    case round =>
      clear HS4 HK4 HJ4 HX4
      obtain⟨k,lf,nx,hk,rfl,hS,hK,hG,hX⟩:=hrel
      by_cases hlt:k<c
      · have j1 : (k : Int) < (c : Int) := by omega
        cases lf with
        | true =>
          have HP:=Lib.hid (show ∃ lf nx,St wr G base (some ad) cap xs nx lf p∧(lf=false→nx=a+n∧J nx wr)∧(lf=true→Jx wr) from⟨true,nx,hS,(fun h=>by cases h),hX⟩)
          obtain⟨v,bG,hown⟩:=hS
          have c3:=bG.cell 3
          clear bG hown hG hX
          gi_wp2
          refine bodyPost_ret (results_none rfl _ _ _) rfl ?_
          exact⟨rfl,hK,HP.out⟩
        | false =>
          obtain⟨r,hr,rfl,hJr⟩:=hG rfl
          clear hX hG
          obtain⟨r',m,s1,s2,s3,s4,s5⟩:=HKS.out k hlt
          rw [hr] at s1
          obtain rfl:=Option.some.inj s1
          have HLK:=Lib.hid (leads_kid HL.out s2 (by omega))
          obtain⟨v,bG,hown⟩:=hS
          have c3:=bG.cell 3
          have c2:=bG.cell 2
          have hGr:=bG.lt
          have HB:=Lib.hid bG
          have HO:=Lib.hid (hown.alloc (.cells #[.int .i64 k] 3))
          have hov:=hown.lt
          have HSC2:=Lib.hid s4
          have HT2:=Lib.hid s3
          have hKr:=hK
          have hbr:base≤wr.heap.size:=Nat.le_trans hbW hK.size
          have HK:=Lib.hid hK
          have HJr:=Lib.hid hJr
          have v2:IntKind.i64.wrap ((k:Int)+1)=(k:Int)+1:=IntWalk.i64_in _ (by omega)
          obtain⟨ig,hig,hz0,hz1,hz2⟩:=info_parts info_int
          clear s1 s2 s3 s4 hr hK hJr bG hown hKr
          have hsz0:base≤(wr.alloc (.cells #[.int .i64 (k:Int)] 3)).heap.size:=by rw [World.size_alloc];omega
          gi_wp2_with (first
            | (gi_at_builtin; refine wpListIn_append_own_at _ rfl _ _ 22 rfl base 3 ig _ 1 8 Tryz.underlying22 hig hz0 hz1 hz2 rfl (by decide) v p.length (icells p) rfl HO.out ⟨wr.heap.size, 0, none⟩ 1 1 [.int .i64 (k : Int)] rfl rfl (World.news_of_block (cs := #[.int .i64 (k : Int)]) (t := 3) (fr := (0, 0)) (heap_alloc_new wr _)) (by simp [Value.oneCell']) (by simp only [maxLen]; omega) (by omega) hsz0 ?_
               intro v5 w5 hown5 hgr5 hnil5 hat5
               have bG5:=(HB.out.alloc (.cells #[.int .i64 (k:Int)] 3)).grown hgr5 (fun e=>by have:=(hov G e.symm).1;omega)
               have f5:=bG5.frozen 2
               have g5:=bG5.cell 2
               have hk5:Kept (fun k=>k=G∨base≤k) wr w5:=((Kept.refl _ wr).alloc _).grown hgr5 (fun k e=>.inl (.inr (hov k e).1))
               have hown5':w5.ownsRow base 3 1 v5 (p++[(k:Int)]).length (icells (p++[(k:Int)])):=by rw [List.length_append,icells_add];exact hown5
               obtain⟨A5,c5,e5⟩:=own_form hown5'
               rw [List.length_append,List.length_singleton] at e5
               subst e5
               have bG6:=bG5.set 2 (.slice A5 (p.length+1) c5)
               have hown6:=own_of_block hown5' (w':=w5.setCell ⟨G,2,none⟩ (.slice A5 (p.length+1) c5)) (fun k hk=>(kept_setCell (G:=G) (i:=2) _).block k (hown5'.lt k hk).2 (by have:=(hown5'.lt k hk).1;omega))
               have hk6:=hk5.trans ((kept_setCell (W:=w5) (G:=G) (i:=2) (.slice A5 (p.length+1) c5)).mono (S':=fun k=>k=G∨base≤k) (fun k q=>.inl q))
               have hK6:=HK.out.trans (hk6.mono (S':=Turns G base Φ) (fun k q=>q.elim .inl (fun q=>.inr (.inr q))))
               have hc:=HIH.out m (by omega) (a+1+r) (p++[(k:Int)]) _ HT2.out HLK.out ⟨_,bG6,hown6⟩ (HX1.out _ hK6) (Nat.le_trans hbW hK6.size) (HJ.out _ _ _ HJr.out hk6)
               have HC:=Lib.hid hc
               have HK6:=Lib.hid hK6
               clear hown5 hgr5 hnil5 hat5 bG5 hk5 hown5' bG6 hown6 hk6 hK6 hc)
            | (gi_at_call 145; refine ((callsIn_wide (n := 3)).2 (callsIn_wide.1 HC.out)).mono ?_
               rintro e w7 ⟨rfl,hK7,lf7,nx7,⟨v7,bG7,hown7⟩,h7,h8⟩
               obtain⟨g7,c7,rfl,-⟩:=hown7.form (by simp)
               have q7:=own_cap hown7
               rw [List.length_append,List.length_singleton] at q7 hown7 bG7
               have c70:=bG7.cell 2
               have f70:=bG7.frozen 2)
            | fail)
          have hk8:=kept_setCell (W:=w7) (G:=G) (i:=2) (.slice (some ⟨g7,0,none⟩) p.length c7)
          have bG8:=bG7.set 2 (.slice (some ⟨g7,0,none⟩) p.length c7)
          have hown8:=own_take (own_of_block hown7 (w':=w7.setCell ⟨G,2,none⟩ (.slice (some ⟨g7,0,none⟩) p.length c7)) (fun k hk=>hk8.block k (hown7.lt k hk).2 (by have:=(hown7.lt k hk).1;omega))) p.length (by omega)
          rw [icells_add,List.take_append_of_le_length (by rw [icells_length];omega),List.take_of_length_le (by rw [icells_length];omega)] at hown8
          have hK8:=HK6.out.trans (hK7.trans (hk8.mono (S':=Turns G base Φ) (fun k q=>.inl q)))
          have HS8:=Lib.hid (show St (w7.setCell ⟨G,2,none⟩ (.slice (some ⟨g7,0,none⟩) p.length c7)) G base (some ad) cap xs nx7 lf7 p from⟨_,bG8,hown8⟩)
          have HG8:=Lib.hid (show lf7=false→∃ r',scan (k+1) (xs.drop (a+1))=some r'∧nx7=a+1+r'∧J nx7 (w7.setCell ⟨G,2,none⟩ (.slice (some ⟨g7,0,none⟩) p.length c7)) from fun h=>by
            obtain⟨e,hj⟩:=h7 h
            exact⟨r+m,HSC2.out,by omega,HJ.out _ _ _ hj (hk8.mono (fun k q=>.inl q))⟩)
          have HX8:=Lib.hid (show lf7=true→Jx (w7.setCell ⟨G,2,none⟩ (.slice (some ⟨g7,0,none⟩) p.length c7)) from fun h=>HJx.out _ _ (h8 h) hk8)
          clear h7 h8 hk8 bG8 hown8 hK7
          go_roundw
          case rel=>exact⟨k+1,lf7,nx7,by omega,by go_num,HS8.out,hK8,HG8.out,HX8.out⟩
          case measure=>simp [intOf];omega
      · have hk9 : k = c := by omega
        subst hk9
        have j1:¬ (k:Int)<(k:Int):=by omega
        have hp:∃ lf nx,St wr G base (some ad) cap xs nx lf p∧(lf=false→nx=a+n∧J nx wr)∧(lf=true→Jx wr):=by
          refine⟨lf,nx,hS,fun h=>?_,hX⟩
          obtain⟨r,hr,e,h2⟩:=hG h
          rw [HSC.out] at hr
          have:=Option.some.inj hr
          exact⟨by omega,h2⟩
        have HP:=Lib.hid hp
        clear hS hG hX hp
        gi_wp2
        all_goals (go_end0;refine⟨rfl,hK,?_⟩;first | exact HP.out | simpa using HP.out)
theorem fold_told2(t:Array Value)(x y:Value):Array.foldl (fun t (x:Nat×Value)=>t.setIfInBounds x.1 x.2) t ((#[15,16]:Array Nat).zip #[x,y])=(t.setIfInBounds 15 x).setIfInBounds 16 y:=by
 simp
theorem IRow.kept{S:Nat→Prop}{w w':World}{A:Option Addr}{p:List Int}(h:IRow w w.heap.size A p)(k:Kept S w w')(hn:∀ ad,A=some ad→¬ S ad.block):IRow w' w'.heap.size A p:=by
 intro i x hx
 obtain⟨ad,e,h1,h2⟩:=h i x hx
 refine⟨ad,e,Nat.lt_of_lt_of_le h1 k.size,?_⟩
 have hb:(ad.add i).block=ad.block:=add_blockN ad i
 rw [← h2]
 exact k.cell (by rw [hb];exact h1) (by rw [hb];exact hn ad e)
def J0(w:World)(D:Nat)(b:Int)(a:Nat)(W:World):Prop :=
 W.heap[D]? = some (.deferred (some []))∧Blk W w.heap.size 3 #[.int .i64 b]∧Blk W (w.heap.size+1) 22 #[.slice none 0 0]∧Blk W (w.heap.size+1+1) 4 #[.bool false]∧Below w.heap.size w W∧¬ (0≤b∧b<a)
def X0(w:World)(D base:Nat)(xs:List Nd)(b:Int)(W:World):Prop :=
 W.heap[D]? = some (.deferred (some []))∧Below w.heap.size w W∧∃ p A c,Leads xs b p∧Blk W (w.heap.size+1) 22 #[.slice A p.length c]∧Blk W (w.heap.size+1+1) 4 #[.bool true]∧p.length≤c∧(A=none→c=0)∧IRow W W.heap.size A p∧∀ ad,A=some ad→base≤ad.block
theorem J0.keep{w:World}{D:Nat}{b:Int}{a:Nat}{X Y:World}{S:Nat→Prop}(h:J0 w D b a X)(k:Kept S X Y)(hS:∀ i,S i→w.heap.size+3≤i∧i≠D)(hw:w.heap.size≤X.heap.size):J0 w D b a Y:=by
 obtain⟨h1,h2,h3,h4,h5,h6⟩:=h
 refine⟨(k.block _ (Array.getElem?_eq_some_iff.1 h1).1 (fun q=>(hS _ q).2 rfl)).trans h1,h2.kept k (fun q=>by have:=(hS _ q).1;omega),h3.kept k (fun q=>by have:=(hS _ q).1;omega),h4.kept k (fun q=>by have:=(hS _ q).1;omega),h5.trans (k.to_below hw (fun i q=>by have:=(hS _ q).1;omega)),h6⟩
theorem X0.keep{w:World}{D base:Nat}{xs:List Nd}{b:Int}{X Y:World}{S:Nat→Prop}(h:X0 w D base xs b X)(k:Kept S X Y)(hS:∀ i,S i→w.heap.size+3≤i∧i≠D∧i<base)(hw:w.heap.size≤X.heap.size):X0 w D base xs b Y:=by
 obtain⟨h1,h2,p,A,c,h3,h4,h5,h6,h7,h8,h9⟩:=h
 exact⟨(k.block _ (Array.getElem?_eq_some_iff.1 h1).1 (fun q=>(hS _ q).2.1 rfl)).trans h1,h2.trans (k.to_below hw (fun i q=>by have:=(hS _ q).1;omega)),p,A,c,h3,h4.kept k (fun q=>by have:=(hS _ q).1;omega),h5.kept k (fun q=>by have:=(hS _ q).1;omega),h6,h7,IRow.kept h8 k (fun ad e q=>by have:=h9 ad e;have:=(hS _ q).2.2;omega),h9⟩
theorem Of_whole(A:Option Addr)(cap:Nat)(xs:List Nd)(b:Int)(w:World)(hx:Nodes w w.heap.size A xs)(hl:xs.length≤1000000)(hw:Whole xs) :
  CallsIn Fence.wide 5 Tryz.prog 123 #[.slice A xs.length cap,.int .i64 b] w (PathEndsF xs b w):=by
 have HE:=Lib.hid (fun W hW=>whole_any A cap xs W hW hl)
 rw [show(aend xs 0==(xs.length:Int))=true by rw [show aend xs 0=xs.length from hw];simp] at HE
 have HW:=Lib.hid hw
 have HX:=Lib.hid hx
 have hf1:Fence.wide.fn 46:=trivial
 clear hw
 refine callsIn_of_wp_marks Tryz.func123 rfl trivial ?_ rfl
 simp only [Tryz.ntmps123,List.size_toArray,List.length_cons,List.length_nil,Nat.reduceAdd,Nat.reduceSub,Array.replicate_succ,Array.replicate_zero,List.push_toArray,List.append_toArray,List.nil_append,List.cons_append]
 have hB0:Below w.heap.size w (((w.alloc (.cells #[.int .i64 b] 3)).alloc (.cells #[.slice none 0 0] 22)).alloc (.cells #[.bool false] 4)):=(((Below.refl _ _).alloc (Nat.le_refl _) _).alloc (by simp) _).alloc (by simp;omega) _
 gi_wp2_with (gi_at_call 46;refine((callsIn_wide (n:=4)).2 (HE.out _ (Nodes.at HX.out hB0))).mono ?_;rintro e w1 ⟨rfl,hb1⟩)
 have hsz1:=hb1.size
 have hB1:Below w.heap.size w w1:=hB0.trans (hb1.mono hB0.size)
 have s0:(((w.alloc (.cells #[.int .i64 b] 3)).alloc (.cells #[.slice none 0 0] 22)).alloc (.cells #[.bool false] 4)).heap.size=w.heap.size+3:=by simp
 rw [s0] at hsz1
 have b1:=(((Blk.new w 3 #[.int .i64 b]).alloc (.cells #[.slice none 0 0] 22)).alloc (.cells #[.bool false] 4)).below hb1 (by rw [s0];omega)
 have b2:=((Blk.new (w.alloc (.cells #[.int .i64 b] 3)) 22 #[.slice none 0 0]).alloc (.cells #[.bool false] 4)).below hb1 (by simp)
 have b3:=(Blk.new ((w.alloc (.cells #[.int .i64 b] 3)).alloc (.cells #[.slice none 0 0] 22)) 4 #[.bool false]).below hb1 (by simp)
 rw [World.size_alloc] at b2 b3
 rw [World.size_alloc] at b3
 have hx1:=hx.below hB1
 have bG:=Blk.new w1 214 #[.slice A xs.length cap,.int .i64 0,.slice none 0 0,.bool false]
 have ba:=(Below.refl w1.heap.size w1).alloc (Nat.le_refl _) (.cells #[.slice A xs.length cap,.int .i64 0,.slice none 0 0,.bool false] 214)
 have b1:=b1.below ba (by omega)
 have b2:=b2.below ba (by omega)
 have b3:=b3.below ba (by omega)
 have hx2:=hx1.below (ba.mono (by omega))
 have hB2:=hB1.trans (ba.mono hB1.size)
 have hs2:(w1.alloc (.cells #[.slice A xs.length cap,.int .i64 0,.slice none 0 0,.bool false] 214)).heap.size=w1.heap.size+1:=World.size_alloc _ _
 generalize (w1.alloc (.cells #[.slice A xs.length cap,.int .i64 0,.slice none 0 0,.bool false] 214))=w2 at *
 have hle:w1.heap.size+1≤w2.heap.size∧w2.heap.size≤w1.heap.size+1:=by omega
 clear ba hb1 hB1 hB0 s0 hx1 hx HE hs2
 refine wpIn_rangeFunc_open rfl (by omega) (gf:=145) (fb:=#[.pointer (some ⟨w1.heap.size,0,none⟩)]) (lb:=#[]) rfl trivial (enters_of Tryz.func145 (by kernel_rfl) rfl)
  (J0 w w2.heap.size b xs.length) (fun c W=>c=.ret∧X0 w w2.heap.size (w2.heap.size+2) xs b W) ?calls ?done ?stop
 case calls =>
  intro fn W hfn hbW hsW hD hL
  obtain⟨rec,hrec⟩:=recd_name hL
  simp only [← hrec] at hL ⊢
  have hb2:=hB2.size
  have hΦ:∀ k,(k=w.heap.size+1∨k=w.heap.size+1+1∨k=w2.heap.size+1)→k≠w1.heap.size∧k<w2.heap.size+2∧w.heap.size≤k:=by
   rintro k (rfl | rfl | rfl)
   ·exact⟨by omega,by omega,by omega⟩
   ·exact⟨by omega,by omega,by omega⟩
   ·exact⟨by omega,by omega,by omega⟩
  have hJ00:J0 w w2.heap.size b 0 W:=⟨hD,b1.below hbW (by omega),b2.below hbW (by omega),b3.below hbW (by omega),hB2.trans (hbW.mono hb2),by omega⟩
  have bG':=bG.below hbW (by omega)
  have hxW:=hx2.below (hbW.mono hb2)
  refine CallsIn.mono (below_in w1.heap.size (w2.heap.size+2) (w2.heap.size+1) w.heap.size A cap xs hl HW.out (by omega) (by omega) (fun k=>k=w.heap.size+1∨k=w.heap.size+1+1∨k=w2.heap.size+1) hΦ
   (fun a W'=>W'.heap[w2.heap.size+1]? = some (.loop (rec .ready none))∧J0 w w2.heap.size b a W')
   (fun W'=>W'.heap[w2.heap.size+1]? = some (.loop (rec .done (some .ret)))∧X0 w w2.heap.size (w2.heap.size+2) xs b W')
   ?hJ ?hJx ?hY xs.length 0 [] W HW.out.t (leads_0 HW.out) ⟨_,bG',World.ownsRow_nil _ _ _ _⟩ hxW (by omega) ⟨hL,hJ00⟩) ?fin
  case hJ =>
   rintro a X Y ⟨h1,h2⟩ hk
   have:=h2.2.2.2.2.1.size
   exact⟨(hk.block _ (Array.getElem?_eq_some_iff.1 h1).1 (by omega)).trans h1,h2.keep hk (fun i q=>by omega) this⟩
  case hJx =>
   rintro X Y ⟨h1,h2⟩ hk
   have:=h2.2.1.size
   exact⟨(hk.block _ (Array.getElem?_eq_some_iff.1 h1).1 (by omega)).trans h1,h2.keep hk (fun i q=>by omega) this⟩
  case fin =>
   rintro e W' ⟨rfl,hK,lf,nx,hS,hf,ht⟩
   refine⟨⟨_,rfl⟩,?_⟩
   cases lf with
   | false =>
    obtain⟨rfl,h1,h2⟩:=hf rfl
    rw [Nat.zero_add] at h2
    exact⟨h2.1,.inl ⟨h1,h2⟩⟩
   | true =>
    obtain⟨h1,h2⟩:=ht rfl
    exact⟨h2.1,.inr ⟨_,h1,rfl,h2⟩⟩
  case hY =>
   rintro a p A' c Y ha hp ⟨hlY,hJY⟩ hpc hpn hpr hpb
   rw [hrec] at hlY
   refine yieldAt_of hlY hfn rfl (Go_:=fun W3=>J0 w w2.heap.size b (a+1:Nat) W3∧Kept (fun k=>k=w.heap.size+1∨k=w.heap.size+1+1∨k=w2.heap.size+1) Y W3) (St:=fun c W3=>c=.ret∧X0 w w2.heap.size (w2.heap.size+2) xs b W3∧Kept (fun k=>k=w.heap.size+1∨k=w.heap.size+1+1∨k=w2.heap.size+1) Y W3) ?_ ?ygo ?yst
   case ygo =>
    rintro W1 W2 ⟨h1,h2⟩ hk hr
    have:=h1.2.2.2.2.1.size
    exact⟨true,rfl,h2.trans (hk.mono (fun k q=>.inr (.inr q))),fun _=>⟨by rw [hrec];exact hr,h1.keep hk (fun i q=>by omega) this⟩,fun h=>by cases h⟩
   case yst =>
    rintro c W1 W2 ⟨rfl,h1,h2⟩ hk hr
    have:=h1.2.1.size
    exact⟨false,rfl,h2.trans (hk.mono (fun k q=>.inr (.inr q))),(fun h=>by cases h),fun _=>⟨by rw [hrec];exact hr,h1.keep hk (fun i q=>by omega) this⟩⟩
   rw [fold_told2]
   simp only [List.setIfInBounds_toArray,List.set_cons_succ,List.set_cons_zero]
   have HJY:=Lib.hid hJY
   have HP:=Lib.hid hp
   have HR:=Lib.hid hpr
   clear hJY hp hpr hJ00 bG' hxW hlY hL hD hx2 b1 b2 b3 bG
   gi_wp2
   try refine⟨rfl,?_⟩
   intro Y2 hk2 hs2 hbusy
   have hJ2:=HJY.out.keep hk2 (fun i q=>by omega) HJY.out.2.2.2.2.1.size
   obtain⟨hD2,d1,d2,d3,hB2',hn2⟩:=hJ2
   have hk2':Kept (fun k=>k=w.heap.size+1∨k=w.heap.size+1+1∨k=w2.heap.size+1) Y Y2:=hk2.mono (fun k q=>.inr (.inr q))
   have c1:=d1.cell 0
   have c2:=d2.cell 0
   have f2:=d2.frozen 0
   by_cases he:(a:Int)=b
   ·have e1:((a:Int)==b)=true:=by rw [he];simp
    have hR2:=IRow.kept HR.out hk2 (fun ad e q=>by have:=hpb ad e;omega)
    have k1:=(Kept.refl (fun k=>k=w.heap.size+1∨k=w.heap.size+1+1∨k=w2.heap.size+1) Y2).setCell (p:=⟨w.heap.size+1,0,none⟩) (.inl (.inl rfl)) (.slice A' p.length c)
    have d21:=d2.set 0 (.slice A' p.length c)
    have d31:=d3.apart (p:=⟨w.heap.size+1,0,none⟩) (by show w.heap.size+1+1≠w.heap.size+1;omega) (.slice A' p.length c)
    have c3:=d31.cell 0
    have f3:=d31.frozen 0
    have k3:=k1.setCell (p:=⟨w.heap.size+1+1,0,none⟩) (.inl (.inr (.inl rfl))) (.bool true)
    have d22:=d21.apart (p:=⟨w.heap.size+1+1,0,none⟩) (by show w.heap.size+1≠w.heap.size+1+1;omega) (.bool true)
    have d32:=d31.set 0 (.bool true)
    have HX0:=Lib.hid (show X0 w w2.heap.size (w2.heap.size+2) xs b ((Y2.setCell ⟨w.heap.size+1,0,none⟩ (.slice A' p.length c)).setCell ⟨w.heap.size+1+1,0,none⟩ (.bool true)) from
     ⟨(k3.block _ (Array.getElem?_eq_some_iff.1 hD2).1 (by omega)).trans hD2,hB2'.trans (k3.to_below hB2'.size (fun i q=>by omega)),p,A',c,he▸HP.out,d22,d32,hpc,hpn,IRow.kept hR2 k3 (fun ad e q=>by have:=hpb ad e;omega),hpb⟩)
    have HK3:=Lib.hid (hk2'.trans k3)
    have hbu:=(Below.heap_setCell _ ⟨w.heap.size+1+1,0,none⟩ (Value.bool true) _ (by show w2.heap.size+1≠w.heap.size+1+1;omega)).trans ((Below.heap_setCell Y2 ⟨w.heap.size+1,0,none⟩ (.slice A' p.length c) _ (by show w2.heap.size+1≠w.heap.size+1;omega)).trans hbusy)
    clear d1 d2 d3 d21 d31 d22 d32 k1 k3 hR2 hk2 hk2' hD2 hB2' hn2 hs2
    gi_wp2
    exact⟨hbu,rfl,HX0.out,HK3.out⟩
   ·have e1:((a:Int)==b)=false:=by rw [beq_eq_false_iff_ne];exact he
    have HG:=Lib.hid (show J0 w w2.heap.size b (a+1:Nat) Y2 from⟨hD2,d1,d2,d3,hB2',by omega⟩)
    clear d1 d2 d3 hD2 hB2' hn2
    gi_wp2
    exact⟨hbusy,HG.out,hk2'⟩
 case done =>
  intro W W' hJ hk hD
  have hJ':=hJ.keep hk (fun i q=>by omega) hJ.2.2.2.2.1.size
  obtain⟨-,d1,d2,d3,hB,hn⟩:=hJ'
  have HN:=Lib.hid (not_in (l:=xs) (b:=b) (by omega))
  have hlt:=d3.lt
  have c2:=d2.cell 0
  have f2:=d2.frozen 0
  have d21:=d2.set 0 (.slice none 0 0)
  have d31:=d3.apart (p:=⟨w.heap.size+1,0,none⟩) (by show w.heap.size+1+1≠w.heap.size+1;omega) (.slice none 0 0)
  have c3:=d31.cell 0
  have f3:=d31.frozen 0
  have d22:=d21.apart (p:=⟨w.heap.size+1+1,0,none⟩) (by show w.heap.size+1≠w.heap.size+1+1;omega) (.bool false)
  have d32:=d31.set 0 (.bool false)
  have hB3:=(hB.setCell (p:=⟨w.heap.size+1,0,none⟩) (by show w.heap.size≤w.heap.size+1;omega) (.slice none 0 0)).setCell (p:=⟨w.heap.size+1+1,0,none⟩) (by show w.heap.size≤w.heap.size+1+1;omega) (.bool false)
  have hD3:=(Below.heap_setCell _ ⟨w.heap.size+1+1,0,none⟩ (Value.bool false) _ (by show w2.heap.size≠w.heap.size+1+1;omega)).trans ((Below.heap_setCell W' ⟨w.heap.size+1,0,none⟩ (.slice none 0 0) _ (by show w2.heap.size≠w.heap.size+1;omega)).trans hD)
  have e22:=(d22.apartObj (l:=w2.heap.size) (by omega) (.deferred none)).cell 0
  have e32:=(d32.apartObj (l:=w2.heap.size) (by omega) (.deferred none)).cell 0
  have HB:=Lib.hid (hB3.trans (belowK_b (w:=w) (Nat.le_refl _) _ w2.heap.size _ (.deferred none) (by omega) hD3 rfl rfl))
  clear d1 d2 d3 d21 d31 d22 d32 hB hJ hk hB3
  gi_wp2
  refine⟨by simp,.inl ⟨_,_,rfl,run_takeDeferred hD3,?_⟩⟩
  refine⟨.tuple #[.slice none 0 0,.bool false],?_,HB.out,.inr ⟨HN.out,none,0,rfl⟩⟩
  rw [show((#[Value.slice none 0 0]:Array Value).setIfInBounds 0 (.slice none 0 0))[0]? = some (.slice none 0 0) from rfl] at e22
  rw [show((#[Value.bool false]:Array Value).setIfInBounds 0 (.bool false))[0]? = some (.bool false) from rfl] at e32
  simp [results,Tryz.results123,go_sem,e22,e32]
 case stop =>
  rintro c W W' ⟨rfl,hJ⟩ hk hD
  have hJ':=hJ.keep hk (fun i q=>by omega) hJ.2.1.size
  obtain⟨-,hB,p,A',c',hp,d2,d3,hpc,hpn,hpr,hpb⟩:=hJ'
  have hlt:=d3.lt
  have e2:=(d2.apartObj (l:=w2.heap.size) (by omega) (.deferred none)).cell 0
  have e3:=(d3.apartObj (l:=w2.heap.size) (by omega) (.deferred none)).cell 0
  have kD:=kept_putObj W' w2.heap.size (.deferred none)
  have hR2:=IRow.kept hpr kD (fun ad e q=>by have:=hpb ad e;omega)
  have HB:=Lib.hid (hB.trans (belowK_b (w:=w) (Nat.le_refl _) _ w2.heap.size _ (.deferred none) (by omega) hD rfl rfl))
  clear d2 d3 hB hJ hk
  refine wpIn_ret ?_
  gi_wp2
  refine⟨by simp,.inl ⟨_,_,rfl,run_takeDeferred hD,?_⟩⟩
  refine⟨.tuple #[.slice A' p.length c',.bool true],?_,HB.out,.inl ⟨p,A',c',hp,rfl,hpc,hpn,hR2,fun ad e=>by have:=hpb ad e;omega⟩⟩
  rw [show(#[Value.slice A' p.length c']:Array Value)[0]? = some (.slice A' p.length c') from rfl] at e2
  rw [show(#[Value.bool true]:Array Value)[0]? = some (.bool true) from rfl] at e3
  simp [results,Tryz.results123,go_sem,e2,e3]
theorem Of_anyF(A:Option Addr)(cap:Nat)(xs:List Nd)(b:Int)(w:World)(hx:Nodes w w.heap.size A xs)(hl:xs.length≤1000000) :
    Calls Tryz.prog 123 #[.slice A xs.length cap,.int .i64 b] w (PathEndsF xs b w):=by
  by_cases hw:Whole xs
  · exact(callsIn_wide (n:=5)).1 (Of_whole A cap xs b w hx hl hw)
  · refine (callsIn_wide (n := 5)).1 ?_
    have HE:=Lib.hid (fun W hW=>whole_any A cap xs W hW hl)
    rw [show(aend xs 0==(xs.length:Int))=false by rw [beq_eq_false_iff_ne];exact hw] at HE
    have HN:=Lib.hid (not_whole hw b)
    have HX:=Lib.hid hx
    have hf1:Fence.wide.fn 46:=trivial
    clear hw hx
    refine callsIn_of_wp_marks Tryz.func123 rfl trivial ?_ rfl
    simp only [Tryz.ntmps123,List.size_toArray,List.length_cons,List.length_nil,Nat.reduceAdd,Nat.reduceSub,Array.replicate_succ,Array.replicate_zero,List.push_toArray,List.append_toArray,List.nil_append,List.cons_append]
    have hB0:Below w.heap.size w (((w.alloc (.cells #[.int .i64 b] 3)).alloc (.cells #[.slice none 0 0] 22)).alloc (.cells #[.bool false] 4)):=(((Below.refl _ _).alloc (Nat.le_refl _) _).alloc (by simp) _).alloc (by simp;omega) _
    have s0:(((w.alloc (.cells #[.int .i64 b] 3)).alloc (.cells #[.slice none 0 0] 22)).alloc (.cells #[.bool false] 4)).heap.size=w.heap.size+3:=by simp
    have b2:=(Blk.new (w.alloc (.cells #[.int .i64 b] 3)) 22 #[.slice none 0 0]).alloc (.cells #[.bool false] 4)
    have b3:=Blk.new ((w.alloc (.cells #[.int .i64 b] 3)).alloc (.cells #[.slice none 0 0] 22)) 4 #[.bool false]
    rw [World.size_alloc] at b2 b3
    rw [World.size_alloc] at b3
    have HB0:=Lib.hid hB0
    have HB2:=Lib.hid b2
    have HB3:=Lib.hid b3
    have HS0:=Lib.hid s0
    clear hB0 b2 b3 s0
    gi_wp2_with (gi_at_call 46; refine ((callsIn_wide (n := 4)).2 (HE.out _ (Nodes.at HX.out HB0.out))).mono ?_; rintro e w1 ⟨rfl, hb1⟩
                 have hB1:=HB0.out.trans (hb1.mono HB0.out.size)
                 have d2:=HB2.out.below hb1 HB2.out.lt
                 have d3:=HB3.out.below hb1 HB3.out.lt
                 have c2:=d2.cell 0
                 have f2:=d2.frozen 0
                 have d31:=d3.apart (p:=⟨w.heap.size+1,0,none⟩) (by show w.heap.size+1+1≠w.heap.size+1;omega) (.slice none 0 0)
                 have c3:=d31.cell 0
                 have f3:=d31.frozen 0
                 have D22:=Lib.hid (((d2.set 0 (.slice none 0 0)).apart (p:=⟨w.heap.size+1+1,0,none⟩) (by show w.heap.size+1≠w.heap.size+1+1;omega) (.bool false)).cell 0)
                 have D32:=Lib.hid ((d31.set 0 (.bool false)).cell 0)
                 clear d2 d3 d31)
    have e22:=D22.out
    have e32:=D32.out
    have hB3:=(hB1.setCell (p:=⟨w.heap.size+1,0,none⟩) (by show w.heap.size≤w.heap.size+1;omega) (.slice none 0 0)).setCell (p:=⟨w.heap.size+1+1,0,none⟩) (by show w.heap.size≤w.heap.size+1+1;omega) (.bool false)
    refine⟨.tuple #[.slice none 0 0,.bool false],?_,hB3,.inr ⟨HN.out,none,0,rfl⟩⟩
    rw [show((#[Value.slice none 0 0]:Array Value).setIfInBounds 0 (.slice none 0 0))[0]? = some (.slice none 0 0) from rfl] at e22
    rw [show((#[Value.bool false]:Array Value).setIfInBounds 0 (.bool false))[0]? = some (.bool false) from rfl] at e32
    simp [results,Tryz.results123,go_sem,e22,e32]
theorem Of_any(A:Option Addr)(cap:Nat)(xs:List Nd)(b:Int)(w:World)(hx:Nodes w w.heap.size A xs)(hl:xs.length≤1000000) :
  Calls Tryz.prog 123 #[.slice A xs.length cap,.int .i64 b] w (PathEnds xs b w):=(Of_anyF A cap xs b w hx hl).mono fun e w' h=>h.end
theorem kids_any(A:Option Addr)(k cap:Nat)(a:Int)(w:World):Calls Tryz.prog 47 #[.slice A k cap,.int .i64 a] w fun e w'=>e=.returned (.func (.func 97) #[] #[.pointer (some ⟨w.heap.size+1,0,none⟩),.pointer (some ⟨w.heap.size,0,none⟩)])∧w'=(w.alloc (.cells #[.slice A k cap] 23)).alloc (.cells #[.int .i64 a] 3):=by
 go_enter Tryz.func47,Tryz.ntmps47
 go_wp2
 go_ret
 exact⟨rfl,rfl⟩
theorem krow_last{xs:List Nd}{a x q:Int}{pre:List (Int×Int)}(h:pre++[(x,q)] <+: krow xs a):∃ j:Nat,j<(akids xs a).length∧x=(j:Int)∧q=kid xs a j:=by
 obtain⟨r,hr⟩:=h
 have h1:(krow xs a)[pre.length]? = some (x,q):=by rw [← hr];simp
 have hj:pre.length<(akids xs a).length:=by
  have:=(List.getElem?_eq_some_iff.1 h1).1
  rwa [krow_len] at this
 rw [krow_get hj] at h1
 have e:=Option.some.inj h1
 rw [Prod.mk.injEq] at e
 exact⟨pre.length,hj,e.1.symm,e.2.symm⟩
theorem krow_no{xs:List Nd}{a x:Int}(h:∀ q∈krow xs a,q.1≠x):x<0∨((akids xs a).length:Int)≤x:=by
 rcases Int.lt_or_le x 0 with q | q
 ·exact .inl q
 ·obtain⟨j,rfl⟩:=Int.eq_ofNat_of_zero_le q
  refine .inr ?_
  rcases Nat.lt_or_ge j (akids xs a).length with hj | hj
  ·exact absurd rfl (h _ (List.mem_of_getElem? (krow_get hj)))
  ·omega
theorem fold_told3(t:Array Value)(x:Int×Int):Array.foldl (fun t (x:Nat×Value)=>t.setIfInBounds x.1 x.2) t ((#[22,23]:Array Nat).zip (told x))=(t.setIfInBounds 22 (.int .i64 x.1)).setIfInBounds 23 (.int .i64 x.2):=by
 simp [told]
theorem Find_whole(A:Option Addr)(cap:Nat)(xs:List Nd)(A':Option Addr)(c':Nat)(p:List Int)(w:World)(hx:Nodes w w.heap.size A xs)(hl:xs.length≤1000000)(hy:IRow w w.heap.size A' p)(hp:p.length≤1000000)(hw:Whole xs) :
  CallsIn Fence.wide 4 Tryz.prog 23 #[.slice A xs.length cap,.slice A' p.length c'] w fun e w'=>e=.returned (.int .i64 (down xs p 0))∧Below w.heap.size w w':=by
 have HE:=Lib.hid (fun W hW=>whole_any A cap xs W hW hl)
 rw [show(aend xs 0==(xs.length:Int))=true by rw [show aend xs 0=xs.length from hw];simp] at HE
 have HW:=Lib.hid hw.t
 have HX:=Lib.hid hx
 have HY:=Lib.hid hy
 have hf1:Fence.wide.fn 46:=trivial
 have hf2:Fence.wide.fn 47:=trivial
 clear hw hx hy
 refine callsIn_of_wp_marks Tryz.func23 rfl trivial ?_ rfl
 simp only [Tryz.ntmps23,List.size_toArray,List.length_cons,List.length_nil,Nat.reduceAdd,Nat.reduceSub,Array.replicate_succ,Array.replicate_zero,List.push_toArray,List.append_toArray,List.nil_append,List.cons_append]
 gi_wp2
 refine _root_.Go.Proofs.YtodejloonfkkmaaGreat.Jumps.wpIn_scope_jumps 0 (fun _ _=>False) (fun _ _=>0) rfl ?_ (fun _ _ h=>h.elim)
 gi_wp2_with (gi_at_call 46;refine((callsIn_wide (n:=3)).2 (HE.out _ HX.out)).mono ?_;rintro e w1 ⟨rfl,hb1⟩)
 refine wpIn_label ?_
 simp only [Exit.then]
 gi_wp2
 have bR:=Blk.new w1 3 #[.int .i64 0]
 have hB2:=hb1.alloc hb1.size (.cells #[.int .i64 0] 3)
 have hR:=bR.lt
 have hwR:=hb1.size
 generalize w1.alloc (.cells #[.int .i64 0] 3)=w2 at *
 clear HE hb1
 refine wpIn_loop (fun a' wr=>∃ (k b n:Nat) (ds:List Deferred) (u6 u7 u8 u9 u16 u17 u18 u19 u20 u21 u22 u23 u24 u25 u26 u27 u28 u29:Value),
   a'={ tmps:=#[.slice A xs.length cap,.slice A' p.length c',undef,undef,.int .i64 0,.pointer (some ⟨w1.heap.size,0,none⟩),u6,u7,u8,u9,.slice A xs.length cap,.bool true,.bool false,.slice A' p.length c',.int .i64 p.length,.int .i64 k,u16,u17,u18,u19,u20,u21,u22,u23,u24,u25,u26,u27,u28,u29],defers:=ds } ∧
   k≤p.length∧T xs b n∧down xs p 0=down xs (p.drop k) b∧Blk wr w1.heap.size 3 #[.int .i64 b]∧Below w.heap.size w wr∧Marks w.heap.size wr ds) (fun a' _=>p.length-(intOf (a'.tmps.getD 15 undef)).toNat) ?_ ?_
 ·exact⟨0,0,xs.length,[],_,_,_,_,_,_,_,_,_,_,_,_,_,_,_,_,_,_,rfl,by omega,HW.out,by rw [List.drop_zero];rfl,bR,hB2,trivial⟩
 clear bR hB2 hR
 rintro a' wr ⟨k,b,n,ds,u6,u7,u8,u9,u16,u17,u18,u19,u20,u21,u22,u23,u24,u25,u26,u27,u28,u29,rfl,hk,ht,hd,bR,hB,hM⟩
 by_cases hlt:k<p.length
 ·have i1:(k:Int)<(p.length:Int):=by omega
  have i2:(0:Int)≤(k:Int):=by omega
  obtain⟨x,hxk⟩:∃ x,p[k]? = some x:=⟨_,List.getElem?_eq_getElem hlt⟩
  obtain⟨ad,hA',hb',g0⟩:=(IRow.below HY.out hB) k _ hxk
  rw [drop_at hxk] at hd
  have HD:=Lib.hid hd
  have HT:=Lib.hid ht
  have HB:=Lib.hid hB
  have HM:=Lib.hid hM
  have cR:=bR.cell 0
  have hR:=bR.lt
  have HR:=Lib.hid bR
  subst hA'
  clear hd ht hxk hB hM bR
  gi_wp2_with (gi_at_call 47;refine((callsIn_wide (n:=3)).2 (kids_any A xs.length cap b _)).mono ?_;rintro e w' ⟨rfl,rfl⟩)
  have hs4:(((wr.alloc (.cells #[.int .i64 x] 3)).alloc (.cells #[.slice A xs.length cap] 23)).alloc (.cells #[.int .i64 b] 3)).heap.size=wr.heap.size+3:=by simp
  have bN:=((Blk.new wr 3 #[.int .i64 x]).alloc (.cells #[.slice A xs.length cap] 23)).alloc (.cells #[.int .i64 b] 3)
  have bL:=(Blk.new (wr.alloc (.cells #[.int .i64 x] 3)) 23 #[.slice A xs.length cap]).alloc (.cells #[.int .i64 b] 3)
  have bA:=Blk.new ((wr.alloc (.cells #[.int .i64 x] 3)).alloc (.cells #[.slice A xs.length cap] 23)) 3 #[.int .i64 b]
  rw [World.size_alloc] at bL bA
  rw [World.size_alloc] at bA
  have b4:Below wr.heap.size wr (((wr.alloc (.cells #[.int .i64 x] 3)).alloc (.cells #[.slice A xs.length cap] 23)).alloc (.cells #[.int .i64 b] 3)):=(((Below.refl _ _).alloc (Nat.le_refl _) _).alloc (by simp) _).alloc (by simp;omega) _
  have hB4:=HB.out.trans (b4.mono HB.out.size)
  have bR4:=HR.out.below b4 hR
  have hx4:=(HX.out).below hB4
  have hM4:=HM.out.keep (w':=_) (fun r hr _=>(b4.block r (Array.getElem?_eq_some_iff.1 hr).1).trans hr)
  generalize (((wr.alloc (.cells #[.int .i64 x] 3)).alloc (.cells #[.slice A xs.length cap] 23)).alloc (.cells #[.int .i64 b] 3))=w4 at *
  have hML:∀ d∈ds,∀ r,d={ target:=.collected r,args:=#[] }→r<w4.heap.size:=fun d hd r e=>(Array.getElem?_eq_some_iff.1 (hM4.mem d hd r e)).1
  have hsz4:=hB4.size
  have hle4:wr.heap.size+3≤w4.heap.size:=by omega
  clear hs4 b4
  have hOF:∀ (Pr:List (Int×Int)→Int→Prop),OwnFrom w4.heap.size (fun(pre:List (Int×Int)) W=>∃ v:Int,Pr pre v∧Blk W w1.heap.size 3 #[.int .i64 v]∧Blk W wr.heap.size 3 #[.int .i64 x]∧Below w.heap.size w W∧Marks w.heap.size W ds):=by
   rintro Pr s W W' row ⟨v,h1,h2,h3,h4,h5⟩ hg hr
   exact⟨v,h1,h2.grown hg (fun e=>by have:=(hr _ e.symm).1;omega),h3.grown hg (fun e=>by have:=(hr _ e.symm).1;omega),h4.grown hg h4.size (fun i e=>by have:=(hr _ e).1;omega),
    h5.keep (fun r h ⟨d,hd,e⟩=>(hg.block r (Array.getElem?_eq_some_iff.1 h).1 (fun q=>by have:=(hr _ q.symm).1;have:=hML d hd r e;omega)).trans h)⟩
  refine wpIn_rangeFunc_ownG rfl (by omega) (gf:=97) (lb:=#[.pointer (some ⟨wr.heap.size+1+1,0,none⟩),.pointer (some ⟨wr.heap.size+1,0,none⟩)]) rfl trivial (enters_of Tryz.func97 (by kernel_rfl) rfl)
   (kids1_stops (wr.heap.size+1) (wr.heap.size+1+1) w.heap.size A cap xs b n w4 hl HT.out hx4 hsz4 (by omega) (by omega) (bL.cell 0) (bA.cell 0)) (fun h k=>belowK_t h k) (belowK_b (Nat.le_refl _)) (Below.refl _ _) (fun _=>rfl)
   (fun(pre:List (Int×Int)) W=>∃ v:Int,(v=b∧∀ q∈pre,q.1≠x)∧Blk W w1.heap.size 3 #[.int .i64 v]∧Blk W wr.heap.size 3 #[.int .i64 x]∧Below w.heap.size w W∧Marks w.heap.size W ds)
   (fun c pre W=>∃ v:Int,(c=.exit 1∧∃ pre',pre=pre'++[(x,v)])∧Blk W w1.heap.size 3 #[.int .i64 v]∧Blk W wr.heap.size 3 #[.int .i64 x]∧Below w.heap.size w W∧Marks w.heap.size W ds)
   (hOF (fun pre v=>v=b∧∀ q∈pre,q.1≠x)) (fun c=>hOF (fun pre v=>c=.exit 1∧∃ pre',pre=pre'++[(x,v)]))
   ⟨b,⟨rfl,fun p hp=>by cases hp⟩,bR4,bN,hB4,hM4⟩
   (fun y=>{ tmps:=#[.slice A xs.length cap,.slice (some ad) p.length c',undef,undef,.int .i64 0,.pointer (some ⟨w1.heap.size,0,none⟩),u6,.pointer (some ⟨wr.heap.size,0,none⟩),.int .i64 y.1,.int .i64 y.2,.slice A xs.length cap,.bool true,.bool false,.slice (some ad) p.length c',.int .i64 p.length,.int .i64 k,.bool true,.pointer (some (ad.add k)),.int .i64 x,.slice A xs.length cap,.int .i64 b,.func (.func 97) #[] #[.pointer (some ⟨wr.heap.size+1+1,0,none⟩),.pointer (some ⟨wr.heap.size+1,0,none⟩)],.int .i64 y.1,.int .i64 y.2,u24,u25,u26,u27,u28,u29],defers:=[] }) ?assign ?body ?done ?stop
  case assign =>
   intro l y W K hK
   rw [fold_told3]
   simp only [List.setIfInBounds_toArray,List.set_cons_succ,List.set_cons_zero]
   gi_wp2
   exact hK
  case body =>
   rintro l pre y W ⟨v,⟨rfl,hp⟩,bR,bN,hB,hM⟩ hlt
   have cN:=bN.cell 0
   have cR:=bR.cell 0
   have fR:=bR.frozen 0
   by_cases h0:y.1=x
   ·have h0':(y.1==x)=true:=by rw [h0];simp
    obtain⟨y1,y2⟩:=y
    simp only at h0 h0'
    subst h0
    gi_wp2
    refine⟨⟨by simp [World.setCell],fun k o hk ho _=>(Below.heap_setCell _ _ _ _ (fun e=>by simp at e;omega)).trans ho⟩,y2,⟨rfl,pre,rfl⟩,bR.set 0 _,bN.apart (p:=⟨w1.heap.size,0,none⟩) (by show wr.heap.size≠w1.heap.size;omega) _,hB.setCell (p:=⟨w1.heap.size,0,none⟩) hwR _,hM.keep (fun r h _=>(Below.heap_setCell _ ⟨w1.heap.size,0,none⟩ _ _ (fun e=>?_)).trans h)⟩
    have e':r=w1.heap.size:=e
    subst e'
    unfold Blk at bR
    rw [bR] at h
    cases h
   ·have h0':(y.1==x)=false:=by rw [beq_eq_false_iff_ne];exact h0
    gi_wp2
    refine⟨KeepsFrom.refl _ _,Below.refl _ _,_,⟨rfl,fun q hm=>?_⟩,bR,bN,hB,hM⟩
    rcases List.mem_append.1 hm with hm | hm
    ·exact hp q hm
    ·rw [List.mem_singleton] at hm;subst hm;exact h0
  case done =>
   rintro D ys W hD rfl ⟨v,⟨rfl,hp⟩,bR,bN,hB,hM⟩ hK
   have HR':=Lib.hid (HD.out.trans (down_no (p:=p.drop (k+1)) (krow_no hp)))
   have HM':=Lib.hid (show Marks w.heap.size W ({ target:=.collected D,args:=#[] }::ds) from⟨⟨D,rfl,Nat.le_trans hsz4 hD,hK,fun d' hd r' e'=>by have:=hML d' hd r' e';omega⟩,hM⟩)
   clear hp hM
   gi_wp2
   simp only [Exit.jump]
   refine leaves_marks _ _ HM'.out (fun w' hk=>?_)
   exact⟨_,results_tmp rfl _ _ _,by rw [HR'.out];rfl,hB.trans (hk.to_below hB.size (fun _ h=>h))⟩
  case stop =>
   rintro D c pre W hD hpre ⟨v,⟨rfl,pre',rfl⟩,bR,bN,hB,hM⟩ hK
   obtain⟨j,hj,rfl,rfl⟩:=krow_last hpre
   have HM':=Lib.hid (show Marks w.heap.size W ({ target:=.collected D,args:=#[] }::ds) from⟨⟨D,rfl,Nat.le_trans hsz4 hD,hK,fun d' hd r' e'=>by have:=hML d' hd r' e';omega⟩,hM⟩)
   obtain⟨x',c0,-,-,-,hkl,-,-,-,hks⟩:=kid_scan HT.out
   obtain⟨r,m,-,s2,s3,-,-⟩:=hks j (by omega)
   have s4:=kid_some hj
   rw [s2] at s4
   have s5:=Option.some.inj s4
   have HD':=Lib.hid (HD.out.trans (down_go (p:=p.drop (k+1)) s2))
   have HB':=Lib.hid (show Blk W w1.heap.size 3 #[.int .i64 ((b+1+r:Nat):Int)] by rw [s5];exact bR)
   have i3:IntKind.i64.wrap ((k:Int)+1)=(k:Int)+1:=IntWalk.i64_in _ (by omega)
   clear hks s4 s5 hM hpre bR bN
   refine wpIn_exit ?_
   gi_wp2
   refine⟨⟨k+1,b+1+r,m,_,_,_,_,_,_,_,_,_,_,_,_,_,_,_,_,_,_,_,rfl,by omega,s3,HD'.out,HB'.out,hB,HM'.out⟩,?_⟩
   show p.length-(k+1)<p.length-k
   omega
 ·have hk9:k=p.length:=by omega
  subst hk9
  rw [List.drop_length,down_nil] at hd
  have i1:¬ (p.length:Int)<(p.length:Int):=by omega
  have cR:=bR.cell 0
  have HD:=Lib.hid hd
  have HB:=Lib.hid hB
  have HM:=Lib.hid hM
  clear hd ht hB hM bR
  gi_wp2
  simp only [Exit.jump]
  refine leaves_marks ds _ HM.out (fun w' hk=>?_)
  exact⟨_,results_tmp rfl _ _ _,by rw [HD.out];rfl,HB.out.trans (hk.to_below HB.out.size (fun _ h=>h))⟩
theorem Find_any(A:Option Addr)(cap:Nat)(xs:List Nd)(A':Option Addr)(c':Nat)(p:List Int)(w:World)(hx:Nodes w w.heap.size A xs)(hl:xs.length≤1000000)(hy:IRow w w.heap.size A' p)(hp:p.length≤1000000) :
  Calls Tryz.prog 23 #[.slice A xs.length cap,.slice A' p.length c'] w fun e w'=>e=.returned (.int .i64 (pfind xs p))∧Below w.heap.size w w':=by
 by_cases hw:Whole xs
 ·have h:pfind xs p=down xs p 0:=if_pos hw
  rw [h]
  exact(callsIn_wide (n:=4)).1 (Find_whole A cap xs A' c' p w hx hl hy hp hw)
 ·have HE:=Lib.hid (whole_any A cap xs w hx hl)
  rw [show(aend xs 0==(xs.length:Int))=false by rw [beq_eq_false_iff_ne];exact hw] at HE
  have HR:=Lib.hid (show pfind xs p = -1 from if_neg hw)
  clear hw hx hy
  have hf1:Fence.wide.fn 46:=trivial
  refine(callsIn_wide (n:=4)).1 ?_
  refine callsIn_of_wp_marks Tryz.func23 rfl trivial ?_ rfl
  simp only [Tryz.ntmps23,List.size_toArray,List.length_cons,List.length_nil,Nat.reduceAdd,Nat.reduceSub,Array.replicate_succ,Array.replicate_zero,List.push_toArray,List.append_toArray,List.nil_append,List.cons_append]
  gi_wp2
  refine _root_.Go.Proofs.YtodejloonfkkmaaGreat.Jumps.wpIn_scope_jumps 0 (fun _ _=>False) (fun _ _=>0) rfl ?_ (fun _ _ h=>h.elim)
  gi_wp2_with (gi_at_call 46;refine((callsIn_wide (n:=3)).2 HE.out).mono ?_;rintro e w1 ⟨rfl,hb1⟩)
  simp only [Exit.jump]
  exact⟨_,results_tmp rfl _ _ _,by rw [HR.out];rfl,hb1⟩
end Go.Proofs.YtodejloonfkkmaaGreat.Path
namespace Go.Proofs.YtodejloonfkkmaaGreat.Path
open Go.RowKit Mem Arena
end Go.Proofs.YtodejloonfkkmaaGreat.Path
