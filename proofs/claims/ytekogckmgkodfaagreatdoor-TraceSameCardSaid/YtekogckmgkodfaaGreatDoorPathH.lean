/-
  A range over a function whose iterator writes what is its own: the statement, by the loop's record laid open; a round, out of its body's walk.
  Package path, walked: the whole; how two paths stand; each kid's number and place, told to a loop's body.
  Package path, walked: each kid's number and place, told to a loop's body; the node of a path.
  Package path, walked: a node and all below it, told place by place to a loop's body, with their paths (a method that calls itself and keeps where it stands).
  Package path, walked: a node's path.
  Package path, walked: the node of a path.
  Package path: what its functions come to.
-/
import Derived.RangeFuncNested
import Derived.RangeFuncLeaves
import Derived.RangeFuncCalls
import Derived.RangeFuncBound
import Derived.OwnWalkIn
import Derived.Test.YtekogckmgkodfaaGreatDoorBaseG
import Derived.Test.YtekogckmgkodfaaGreatDoorPathG
import Derived.Shelf.Abstract
import Derived.Shelf.RegionOpen
import Derived.TacticsInMore
import Derived.LoopNIn
import Derived.LoopIn
import Derived.Laws.EntriesVeiled
import Derived.Maps.OwnIn
set_option linter.unusedVariables false
namespace Go.Proofs.YtekogckmgkodfaaGreatDoor.RangeO
open Go.RowKit Mem
variable {F:Fence} {n:Nat} {P:Program}
theorem kept_putObj(W:World)(l:Nat)(o:Obj):Kept (· = l) W (W.putObj l o) :=
 Kept.grown (Kept.refl _ _) (grownBy_putObj' W l o) (fun k e=>by cases e;exact .inl rfl)
def recd(fn:FuncId)(tmps:Array Value)(ps:Array Tmp)(assign body:Code)(D:Nat)(st:LoopState)(pe:Option Code):Loop:={ state:=st,pending:=pe,fn,tmps,params:=ps,assign,body,defers:=D }
theorem recd_name{W:World}{l:Nat}{fn:FuncId}{tmps:Array Value}{ps:Array Tmp}{assign body:Code}{D:Nat}{st:LoopState}{pe:Option Code}(_:W.heap[l]? = some (.loop (recd fn tmps ps assign body D st pe))) :
  ∃ rec:LoopState→Option Code→Loop,∀ st pe,rec st pe=recd fn tmps ps assign body D st pe:=⟨_,fun _ _=>rfl⟩
theorem room_of_none(hd:F.depth=none)(k:Nat):F.room k:=fun d h=>by rw [hd] at h;cases h
theorem any_depth(hd:F.depth=none){m:Nat}(m':Nat){l:Nat}{args:Array Value}{W:World}{R:Ending→World→Prop}(h:YieldAt F m P l args W R):YieldAt F m' P l args W R:=by
 obtain⟨fn,tmps,assign,body,hy,hR⟩:=h
 exact⟨fn,tmps,assign,body,hy,hR.1,fun c cs _=>hR.2 c cs (room_of_none hd _)⟩
def outPost(l:Nat)(busy:Loop)(Go_:World→Prop)(St:Code→World→Prop):Exit→Act→World→Prop
 | .normal,_,W=>W.heap[l]? = some (.loop busy)∧Go_ W
 | .ret,_,W=>W.heap[l]? = some (.loop busy)∧St .ret W
 | .exit id,_,W=>W.heap[l]? = some (.loop busy)∧St (.exit id) W
 | .goto t,_,W=>W.heap[l]? = some (.loop busy)∧St (.goto t) W
 | .panic _,_,_=>False
 | .outgrown,_,_=>False
theorem yieldAt_of{l m:Nat}{fn:FuncId}{tmps:Array Value}{ps:Array Tmp}{assign body:Code}{D:Nat}{W:World}{args:Array Value}{R:Ending→World→Prop}{Go_:World→Prop}{St:Code→World→Prop}
  (hl:W.heap[l]? = some (.loop (recd fn tmps ps assign body D .ready none))) (hfn:F.fn fn) (hsz:args.size=ps.size)
  (h:assign.wpIn (F.inRound l) m P (Exit.then (fun a₁ W₁=>W₁=W∧∀ W₂,Kept (· = l) W W₂→W₂.heap.size=W.heap.size→W₂.heap[l]? = some (.loop (recd fn tmps ps assign body D .busy none))→body.wpIn (F.inRound l) m P (outPost l (recd fn tmps ps assign body D .busy none) Go_ St) a₁ W₂) (fun _ _ _=>False))
   { tmps:=(ps.zip args).foldl (fun t (p,v)=>t.setIfInBounds p v) tmps,defers:=[] } W)
  (hgo:∀ W₁ W₂,Go_ W₁→Kept (· = l) W₁ W₂→W₂.heap[l]? = some (.loop (recd fn tmps ps assign body D .ready none))→R (.returned (.bool true)) W₂)
  (hst:∀ c W₁ W₂,St c W₁→Kept (· = l) W₁ W₂→W₂.heap[l]? = some (.loop (recd fn tmps ps assign body D .done (some c)))→R (.returned (.bool false)) W₂) :
  YieldAt F m P l args W R:=by
 have hlt:l<W.heap.size:=(Array.getElem?_eq_some_iff.1 hl).1
 have hy:=run_yield (P:=P) (args:=args) hl hsz
 refine⟨fn,_,assign,body,hy,roundIn_of_wpIn hfn (wpIn_mono h ?_)⟩
 rintro e a₁ W₁ hp
 cases e with
 | normal =>
  obtain⟨rfl,hbody⟩:=hp
  refine⟨_,run_beginRound hl rfl,wpIn_mono (hbody _ (kept_putObj _ _ _) (by simp [World.putObj]) (World.putObj_heap_same hlt)) ?_⟩
  have fin:∀ (jump:Option Code) (W3:World),W3.heap[l]? = some (.loop (recd fn tmps ps assign body D .busy none)) →
    (Instr.endRound l jump).run P W3=.ok (.bool jump.isNone) (W3.putObj l (.loop (recd fn tmps ps assign body D (if jump.isNone then .ready else .done) jump))) ∧
    (W3.putObj l (.loop (recd fn tmps ps assign body D (if jump.isNone then .ready else .done) jump))).heap[l]? = some (.loop (recd fn tmps ps assign body D (if jump.isNone then .ready else .done) jump)):=fun jump W3 hl3 =>
   ⟨run_endRound (P:=P) jump hl3,World.putObj_heap_same (Array.getElem?_eq_some_iff.1 hl3).1⟩
  rintro e a3 W3 hp
  cases e with
  | normal=>exact⟨_,_,(fin none W3 hp.1).1,hgo _ _ hp.2 (kept_putObj _ _ _) (fin none W3 hp.1).2⟩
  | ret=>exact⟨_,_,(fin (some .ret) W3 hp.1).1,hst _ _ _ hp.2 (kept_putObj _ _ _) (fin (some .ret) W3 hp.1).2⟩
  | exit id=>exact⟨_,_,(fin (some (.exit id)) W3 hp.1).1,hst _ _ _ hp.2 (kept_putObj _ _ _) (fin (some (.exit id)) W3 hp.1).2⟩
  | goto t=>exact⟨_,_,(fin (some (.goto t)) W3 hp.1).1,hst _ _ _ hp.2 (kept_putObj _ _ _) (fin (some (.goto t)) W3 hp.1).2⟩
  | panic ch=>exact hp.elim
  | outgrown=>exact hp.elim
 | exit id=>exact hp.elim
 | goto t=>exact hp.elim
 | ret=>exact hp.elim
 | panic chain=>exact hp.elim
 | outgrown=>exact hp.elim
theorem wpIn_rangeFunc_open{g:Operand}{ps:Array Tmp}{assign body:Code}{Q:Exit→Act→World→Prop}{a:Act}{w:World}
  (hro:F.round=none) (h1:1≤n) {gf:Nat} {fb lb:Array Value} (hg:a.eval g=.func (.func gf) fb lb) (hFg:F.fn gf) (eg:∀ args w,(callFunc gf args).run P w=.ok (.enter gf args) w)
  (Done:World→Prop) (Stop:Code→World→Prop)
  (h:∀ (fn:FuncId) (W:World),F.fn fn→Below w.heap.size w W→W.heap.size=w.heap.size+2→W.heap[w.heap.size]? = some (.deferred (some []))→W.heap[w.heap.size+1]? = some (.loop (recd fn a.tmps ps assign body w.heap.size .ready none)) →
   CallsIn F (n-1) P gf (fb++#[.func (.yield (w.heap.size+1)) #[] #[]]++lb) W fun e W'=>(∃ v,e=.returned v)∧W'.heap[w.heap.size]? = some (.deferred (some [])) ∧
    ((W'.heap[w.heap.size+1]? = some (.loop (recd fn a.tmps ps assign body w.heap.size .ready none))∧Done W')∨∃ c,W'.heap[w.heap.size+1]? = some (.loop (recd fn a.tmps ps assign body w.heap.size .done (some c)))∧Stop c W'))
  (hdone:∀ W W',Done W→Kept (· = w.heap.size+1) W W'→W'.heap[w.heap.size]? = some (.deferred (some []))→Q .normal { a with defers:={ target:=.collected w.heap.size,args:=#[] }::a.defers } W')
  (hstop:∀ c W W',Stop c W→Kept (· = w.heap.size+1) W W'→W'.heap[w.heap.size]? = some (.deferred (some []))→c.wpIn F n P Q { a with defers:={ target:=.collected w.heap.size,args:=#[] }::a.defers } W') :
  (Code.rangeFunc g ps assign body).wpIn F n P Q a w:=by
 refine wpIn_rangeFunc ?_
 intro fn hfn
 rw [hro]
 obtain⟨W1,hW1⟩:∃ W1,(w.alloc (.deferred (some []))).alloc (.loop (recd fn a.tmps ps assign body w.heap.size .ready none))=W1:=⟨_,rfl⟩
 have hL1:W1.heap[w.heap.size+1]? = some (.loop (recd fn a.tmps ps assign body w.heap.size .ready none)):=by
  rw [← hW1];have:=World.alloc_heap_new (w.alloc (.deferred (some []))) (.loop (recd fn a.tmps ps assign body w.heap.size .ready none));rwa [World.size_alloc] at this
 have hK1:W1.heap[w.heap.size]? = some (.deferred (some [])):=by
  rw [← hW1];exact(Below.heap_alloc _ _ _ (by simp)).trans (World.alloc_heap_new w _)
 have hb1:Below w.heap.size w W1:=by
  rw [← hW1];exact((Below.refl _ w).alloc (Nat.le_refl _) _).alloc (by simp) _
 have hs1:W1.heap.size=w.heap.size+2:=by rw [← hW1];simp
 refine⟨w.heap.size+1,[{ target:=.collected w.heap.size,args:=#[] }],W1,{ target:=.fn (.func gf) lb,args:=fb++#[.func (.yield (w.heap.size+1)) #[] #[]] },W1,gf,
  fb++#[.func (.yield (w.heap.size+1)) #[] #[]]++lb,W1,?_,?_,?_,?_,fun _=>h1,?_⟩
 ·rw [← hW1];exact run_enterLoop_outer _ _ _ _ _
 ·simp only [resolve,hg]
  simp [go_sem]
 ·intro f' hf';simp [Target.leads] at hf';subst hf';exact hFg
 ·simp [invoke,go_sem,eg]
 ·refine(h fn W1 hfn hb1 hs1 hK1 hL1).mono ?_
  rintro e W2 ⟨⟨v,rfl⟩,hd,⟨hl,hD⟩ | ⟨c,hl,hS⟩⟩
  ·exact⟨none,_,run_endLoop (P:=P) hl (by simp [recd]),hdone _ _ hD (kept_putObj _ _ _) ((World.putObj_heap_other (by omega)).trans hd)⟩
  ·exact⟨some c,_,run_endLoop (P:=P) hl (by simp [recd]),hstop c _ _ hS (kept_putObj _ _ _) ((World.putObj_heap_other (by omega)).trans hd)⟩
def Marks(B:Nat)(w:World):List Deferred→Prop
 | []=>True
 | d::ds=>(∃ r,d={ target:=.collected r,args:=#[] }∧B≤r∧w.heap[r]? = some (.deferred (some []))∧∀ d'∈ds,∀ r',d'={ target:=.collected r',args:=#[] }→r'≠r)∧Marks B w ds
theorem Marks.keep_{B:Nat}{w w':World}:∀ (ds:List Deferred),Marks B w ds→(∀ r,w.heap[r]? = some (.deferred (some []))→(∃ d∈ds,d={ target:=.collected r,args:=#[] })→w'.heap[r]? = some (.deferred (some [])))→Marks B w' ds
 | [],_,_=>trivial
 | d::ds,⟨⟨r,e,h1,h2,h3⟩,h4⟩,k=>⟨⟨r,e,h1,k r h2 ⟨d,List.mem_cons_self ..,e⟩,h3⟩,keep_ ds h4 (fun r' hr ⟨d',hd,e'⟩=>k r' hr ⟨d',List.mem_cons_of_mem _ hd,e'⟩)⟩
theorem Marks.keep{B:Nat}{w w':World}{ds:List Deferred}(h:Marks B w ds)(k:∀ r,w.heap[r]? = some (.deferred (some []))→(∃ d∈ds,d={ target:=.collected r,args:=#[] })→w'.heap[r]? = some (.deferred (some []))):Marks B w' ds:=keep_ ds h k
theorem Marks.mem_{B:Nat}{w:World}:∀ (ds:List Deferred),Marks B w ds→∀ d'∈ds,∀ r',d'={ target:=.collected r',args:=#[] }→w.heap[r']? = some (.deferred (some []))
 | [],_,_,h,_,_=>absurd h (by simp)
 | d::ds,⟨⟨r,e,h1,h2,h3⟩,h4⟩,d',hd,r',e'=>by
  rcases List.mem_cons.1 hd with rfl | hd
  ·rw [e] at e'
   simp only [Deferred.mk.injEq,Target.collected.injEq,and_true] at e'
   rw [← e'];exact h2
  ·exact mem_ ds h4 d' hd r' e'
theorem Marks.mem{B:Nat}{w:World}{ds:List Deferred}(h:Marks B w ds)(d':Deferred)(hd:d'∈ds)(r':Nat)(e:d'={ target:=.collected r',args:=#[] }):w.heap[r']? = some (.deferred (some [])):=mem_ ds h d' hd r' e
theorem Marks.push{B:Nat}{w w':World}{ds:List Deferred}{D:Nat}(h:Marks B w ds)(hD:w.heap.size≤D)(hB:B≤D)(hw:w'.heap[D]? = some (Obj.deferred (some [])))(k:∀ (r:Nat),w.heap[r]? = some (Obj.deferred (some []))→w'.heap[r]? = some (Obj.deferred (some []))):Marks B w' ({ target:=.collected D,args:=#[] }::ds) :=
 ⟨⟨D,rfl,hB,hw,fun d' hd r' e'=>by have:=(Array.getElem?_eq_some_iff.1 (h.mem d' hd r' e')).1;omega⟩,h.keep (fun r hr _=>k r hr)⟩
theorem leaves_marks{fn:Func}{tmps:Array Value}{R:Ending→World→Prop}{B:Nat}:∀ (ds:List Deferred) (w:World),Marks B w ds→(∀ w',Kept (B≤·) w w'→LeavesIn F n P fn tmps R [] .returning w')→LeavesInM F n P fn tmps R ds .returning w
 | [],w,_,h=>h w (Kept.refl _ _)
 | d::ds,w,⟨⟨r,e,h1,h2,h3⟩,h4⟩,h=>by
  subst e
  have hk:=kept_putObj w r (.deferred none)
  refine⟨by simp,.inl ⟨r,_,rfl,run_takeDeferred h2,leaves_marks ds _ (h4.keep ?_) (fun w' hw=>h w' ((hk.mono (S':=(B≤·)) (fun i q=>by rw [q];exact h1)).trans hw))⟩⟩
  rintro r' hr' ⟨d',hd,e'⟩
  exact(World.putObj_heap_other (fun q=>h3 d' hd r' e' q)).trans hr'
end Go.Proofs.YtekogckmgkodfaaGreatDoor.RangeO
namespace Go.Proofs.YtekogckmgkodfaaGreatDoor.Path
open Go.RowKit Go.Shelf Mem Arena
attribute [local go_sem ↓] Go.wp_at_zero Go.wp_at_succ
theorem row_scan(l:List Nd):∀ (c s n:Nat),scan c (l.drop s)=some n→∀ j,j<c→∃ r m:Nat,scan j (l.drop s)=some r∧(kidsFrom l c s)[j]? = some ((s+r:Nat):Int)∧T l (s+r) m∧scan (j+1) (l.drop s)=some (r+m)∧r+m≤n
 | 0,s,n,h,j,hj=>absurd hj (by omega)
 | c+1,s,n,h,j,hj=>by
  rw [Nat.add_comm,scan_add] at h
  cases h1:scan 1 (l.drop s) with
  | none=>rw [h1] at h;cases h
  | some n1 =>
   rw [h1] at h
   simp only [Option.bind_some,Option.map_eq_some_iff,List.drop_drop] at h
   obtain⟨m,h2,rfl⟩:=h
   have ek:aend l (s:Int)=((s+n1:Nat):Int):=T.end h1
   cases j with
   | zero=>exact⟨0,n1,scan_0 _,by rw [kidsFrom];rfl,h1,by rw [h1,Nat.zero_add],by omega⟩
   | succ j =>
    obtain⟨r,m',r1,r2,r3,r4,r5⟩:=row_scan l c (s+n1) m h2 j (by omega)
    refine⟨n1+r,m',?_,?_,by rw [← Nat.add_assoc];exact r3,?_,by omega⟩
    ·rw [Nat.add_comm j 1,scan_add,h1]
     simp only [Option.bind_some,List.drop_drop,r1,Option.map_some]
    ·rw [kidsFrom,ek,List.getElem?_cons_succ,r2,Nat.add_assoc]
    ·rw [Nat.add_comm (j+1) 1,scan_add,h1]
     simp only [Option.bind_some,List.drop_drop,r4,Option.map_some,Nat.add_assoc]
theorem kid_scan{l:List Nd}{a n:Nat}(h:T l a n):∃ x c,l[a]? = some x∧ar x=((c:Nat):Int)∧c≤200∧(akids l a).length=c∧scan c (l.drop (a+1))=some (n-1)∧1≤n∧a+n≤l.length ∧
  ∀ j,j<c→∃ r m:Nat,scan j (l.drop (a+1))=some r∧(akids l a)[j]? = some ((a+1+r:Nat):Int)∧T l (a+1+r) m∧scan (j+1) (l.drop (a+1))=some (r+m)∧r+m≤n-1:=by
 obtain⟨x,h1,h2,h3,h4,h5,h6⟩:=node_kids h
 have:=(ar_le x).2
 refine⟨x,(ar x).toNat,h1,by omega,by omega,by rw [h3,kids_len],h4,h5,h6,fun j hj=>?_⟩
 rw [h3]
 exact row_scan l _ _ _ h4 j hj
theorem cmp_one(x y:Int)(p q:List Int):cmp (x::p) (y::q)=if(if x<y then(-1:Int) else if y<x then 1 else 0)≠0 then(if x<y then -1 else if y<x then 1 else 0) else cmp p q:=by
 rw [cmp]
 by_cases h:x<y
 ·simp [h]
 ·by_cases h2:y<x
  ·simp [h,h2]
  ·simp [h,h2]
end Go.Proofs.YtekogckmgkodfaaGreatDoor.Path
namespace Go.Proofs.YtekogckmgkodfaaGreatDoor.Path
open Go.RowKit Go.Shelf Mem Arena RangeO
attribute [local go_sem] Oper.semAt_some
def kid(xs:List Nd)(a:Int)(j:Nat):Int:=(akids xs a).getD j 0
theorem kid_some{xs:List Nd}{a:Int}{j:Nat}(h:j<(akids xs a).length):(akids xs a)[j]? = some (kid xs a j):=by
 unfold kid
 rw [List.getD_eq_getElem?_getD,List.getElem?_eq_getElem h]
 rfl
def krow(xs:List Nd)(a:Int):List (Int×Int):=(List.range (akids xs a).length).map fun(j:Nat)=>((j:Int),kid xs a j)
theorem krow_len(xs:List Nd)(a:Int):(krow xs a).length=(akids xs a).length:=by simp [krow]
theorem krow_get{xs:List Nd}{a:Int}{j:Nat}(h:j<(akids xs a).length):(krow xs a)[j]? = some ((j:Int),kid xs a j):=by
 unfold krow
 rw [List.getElem?_map,List.getElem?_range h]
 rfl
theorem krow_snoc{xs:List Nd}{a:Int}{j:Nat}(h:j<(akids xs a).length):(krow xs a).take (j+1)=(krow xs a).take j++[((j:Int),kid xs a j)]:=by
 rw [List.take_add_one,krow_get h]
 rfl
theorem kid_next{xs:List Nd}{a n j:Nat}(h:T xs a n)(hj:j<(akids xs a).length):(j=0→kid xs a j=(a:Int)+1)∧(∀ i,j=i+1→aend xs (kid xs a i)=kid xs a j)∧0≤kid xs a j∧kid xs a j≤(xs.length:Int):=by
 obtain⟨x,c,-,-,-,hc,-,-,hn,hk⟩:=kid_scan h
 obtain⟨r,m,s1,s2,s3,s4,s5⟩:=hk j (by omega)
 rw [kid_some hj] at s2
 have e:=Option.some.inj s2
 have:=s3.pos
 refine⟨fun h0=>?_,fun i hi=>?_,by omega,by omega⟩
 ·subst h0
  rw [scan_0] at s1
  have:=Option.some.inj s1
  omega
 ·subst hi
  obtain⟨r',m',t1,t2,t3,t4,t5⟩:=hk i (by omega)
  rw [kid_some (by omega)] at t2
  have e':=Option.some.inj t2
  rw [t4] at s1
  have:=Option.some.inj s1
  rw [e',T.end t3,e]
  omega
def Turns(G base:Nat)(Φ:Nat→Prop)(k:Nat):Prop:=k=G∨Φ k∨base≤k
theorem kept_setCell{W:World}{G i:Nat}(v:Value):Kept (· = G) W (W.setCell ⟨G,i,none⟩ v):=(Kept.refl (· = G) W).setCell (p:=⟨G,i,none⟩) (.inl rfl) v
theorem own_slice{w:World}{base:Nat}{A:Option Addr}{n c:Nat}{ks:List Int}(hn:ks.length=n)(h:w.ownsRow base 3 1 (.slice A n c) n (icells ks)) :
  n≤c∧(A=none→c=0)∧IRow w w.heap.size A ks∧(∀ ad,A=some ad→base≤ad.block):=by
 subst hn
 obtain⟨A',c',e,h1,h2,h3,h4⟩:=own_ints2' h
 simp only [Value.slice.injEq,true_and] at e
 obtain⟨rfl,rfl⟩:=e
 exact⟨h1,h2,h3,h4⟩
theorem own_form{w:World}{base:Nat}{v:Value}{ks:List Int}(h:w.ownsRow base 3 1 v ks.length (icells ks)):∃ A c,v=.slice A ks.length c:=by
 obtain⟨A,c,e,-⟩:=own_ints2' h
 exact⟨A,c,e⟩
theorem fold_told2(t:Array Value)(x y:Value):Array.foldl (fun t (x:Nat×Value)=>t.setIfInBounds x.1 x.2) t ((#[15,16]:Array Nat).zip #[x,y])=(t.setIfInBounds 15 x).setIfInBounds 16 y:=by
 simp
theorem IRow.kept{S:Nat→Prop}{w w':World}{A:Option Addr}{p:List Int}(h:IRow w w.heap.size A p)(k:Kept S w w')(hn:∀ ad,A=some ad→¬ S ad.block):IRow w' w'.heap.size A p:=by
 intro i x hx
 obtain⟨ad,e,h1,h2⟩:=h i x hx
 refine⟨ad,e,Nat.lt_of_lt_of_le h1 k.size,?_⟩
 have hb:(ad.add i).block=ad.block:=add_blockN ad i
 rw [← h2]
 exact k.cell (by rw [hb];exact h1) (by rw [hb];exact hn ad e)
def J0(w:World)(D:Nat)(b:Int)(a:Nat)(W:World):Prop :=
 W.heap[D]? = some (.deferred (some []))∧Blk W w.heap.size 3 #[.int .i64 b]∧Blk W (w.heap.size+1) 22 #[.slice none 0 0]∧Blk W (w.heap.size+1+1) 4 #[.bool false]∧Below w.heap.size w W∧¬ (0≤b∧b<a)
def X0(w:World)(D base:Nat)(xs:List Nd)(b:Int)(W:World):Prop :=
 W.heap[D]? = some (.deferred (some []))∧Below w.heap.size w W∧∃ p A c,Leads xs b p∧Blk W (w.heap.size+1) 22 #[.slice A p.length c]∧Blk W (w.heap.size+1+1) 4 #[.bool true]∧p.length≤c∧(A=none→c=0)∧IRow W W.heap.size A p∧∀ ad,A=some ad→base≤ad.block
theorem J0.keep{w:World}{D:Nat}{b:Int}{a:Nat}{X Y:World}{S:Nat→Prop}(h:J0 w D b a X)(k:Kept S X Y)(hS:∀ i,S i→w.heap.size+3≤i∧i≠D)(hw:w.heap.size≤X.heap.size):J0 w D b a Y:=by
 obtain⟨h1,h2,h3,h4,h5,h6⟩:=h
 refine⟨(k.block _ (Array.getElem?_eq_some_iff.1 h1).1 (fun q=>(hS _ q).2 rfl)).trans h1,h2.kept k (fun q=>by have:=(hS _ q).1;omega),h3.kept k (fun q=>by have:=(hS _ q).1;omega),h4.kept k (fun q=>by have:=(hS _ q).1;omega),h5.trans (k.to_below hw (fun i q=>by have:=(hS _ q).1;omega)),h6⟩
theorem X0.keep{w:World}{D base:Nat}{xs:List Nd}{b:Int}{X Y:World}{S:Nat→Prop}(h:X0 w D base xs b X)(k:Kept S X Y)(hS:∀ i,S i→w.heap.size+3≤i∧i≠D∧i<base)(hw:w.heap.size≤X.heap.size):X0 w D base xs b Y:=by
 obtain⟨h1,h2,p,A,c,h3,h4,h5,h6,h7,h8,h9⟩:=h
 exact⟨(k.block _ (Array.getElem?_eq_some_iff.1 h1).1 (fun q=>(hS _ q).2.1 rfl)).trans h1,h2.trans (k.to_below hw (fun i q=>by have:=(hS _ q).1;omega)),p,A,c,h3,h4.kept k (fun q=>by have:=(hS _ q).1;omega),h5.kept k (fun q=>by have:=(hS _ q).1;omega),h6,h7,IRow.kept h8 k (fun ad e q=>by have:=h9 ad e;have:=(hS _ q).2.2;omega),h9⟩
theorem krow_last{xs:List Nd}{a x q:Int}{pre:List (Int×Int)}(h:pre++[(x,q)] <+: krow xs a):∃ j:Nat,j<(akids xs a).length∧x=(j:Int)∧q=kid xs a j:=by
 obtain⟨r,hr⟩:=h
 have h1:(krow xs a)[pre.length]? = some (x,q):=by rw [← hr];simp
 have hj:pre.length<(akids xs a).length:=by
  have:=(List.getElem?_eq_some_iff.1 h1).1
  rwa [krow_len] at this
 rw [krow_get hj] at h1
 have e:=Option.some.inj h1
 rw [Prod.mk.injEq] at e
 exact⟨pre.length,hj,e.1.symm,e.2.symm⟩
theorem krow_no{xs:List Nd}{a x:Int}(h:∀ q∈krow xs a,q.1≠x):x<0∨((akids xs a).length:Int)≤x:=by
 rcases Int.lt_or_le x 0 with q | q
 ·exact .inl q
 ·obtain⟨j,rfl⟩:=Int.eq_ofNat_of_zero_le q
  refine .inr ?_
  rcases Nat.lt_or_ge j (akids xs a).length with hj | hj
  ·exact absurd rfl (h _ (List.mem_of_getElem? (krow_get hj)))
  ·omega
theorem fold_told3(t:Array Value)(x:Int×Int):Array.foldl (fun t (x:Nat×Value)=>t.setIfInBounds x.1 x.2) t ((#[22,23]:Array Nat).zip (told x))=(t.setIfInBounds 22 (.int .i64 x.1)).setIfInBounds 23 (.int .i64 x.2):=by
 simp [told]
end Go.Proofs.YtekogckmgkodfaaGreatDoor.Path
namespace Go.Proofs.YtekogckmgkodfaaGreatDoor.Path
open Go.RowKit Mem Arena
end Go.Proofs.YtekogckmgkodfaaGreatDoor.Path
