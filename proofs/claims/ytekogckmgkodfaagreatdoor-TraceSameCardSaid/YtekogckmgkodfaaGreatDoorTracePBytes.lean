/-
  Package trace, walked: a run's bytes, and its digest.
-/
import Derived.Test.YtekogckmgkodfaaGreatDoorTracePIter
import Derived.Test.YtekogckmgkodfaaGreatDoorShaH
import Derived.Deep.RegionHeld3
import Derived.Deep.DrawnRows
set_option maxRecDepth 100000
set_option maxHeartbeats 4000000
set_option linter.unusedVariables false
namespace Go.Proofs.YtekogckmgkodfaaGreatDoor.Trc
open Go.RowKit Go.Shelf Leb Zig Mem Wire Arena Mach RangeO
attribute [local go_sem] Oper.semAt_some
structure TJ (w:World) (a g4 D:Nat) (l0:List UInt8) (pre:List Int) (Φ:Nat→Prop) (W:World):Prop where
 mark:W.heap[D]? = some (.deferred (some []))
 say:Blk W g4 59 #[.func (.func 18) #[.pointer (some ⟨a,0,none⟩)] #[]]
 below:Below w.heap.size w W
 size:D+2≤W.heap.size
 lt:∀ k,Φ k→w.heap.size≤k∧(k<g4∨D+2≤k)∧k<W.heap.size
 wr:∃ R,Wr W a R (l0++pre.flatMap zput)∧Φ=Its a R
section
variable {w:World} {a g4 D:Nat} {l0:List UInt8} {pre:List Int} {Φ:Nat→Prop} {X Y:World}
theorem TJ.kept{S:Nat→Prop}(h:TJ w a g4 D l0 pre Φ X)(k:Kept S X Y)(hw:w.heap.size≤g4)(hg:g4<D)(hS:∀ i,S i→D<i∧¬ Φ i):TJ w a g4 D l0 pre Φ Y:=by
 obtain⟨q1,q2,q3,q4,q5,R,q6,rfl⟩:=h
 refine⟨(k.block _ (Array.getElem?_eq_some_iff.1 q1).1 (fun z=>by have:=hS _ z;omega)).trans q1,q2.kept k (fun z=>by have:=hS _ z;omega),q3.trans (k.to_below q3.size (fun i z=>by have:=hS _ z;omega)),Nat.le_trans q4 k.size,fun i z=>⟨(q5 i z).1,(q5 i z).2.1,Nat.lt_of_lt_of_le (q5 i z).2.2 k.size⟩,R,?_,rfl⟩
 exact q6.kept k (fun z=>(hS _ z).2 (.inl rfl)) (fun i hi z=>(hS _ z).2 (.inr hi))
theorem TJ.step{R:Option Nat}{x:Int}{e:Ending}(h1:X.heap[D]? = some (.deferred (some [])))(h2:Blk X g4 59 #[.func (.func 18) #[.pointer (some ⟨a,0,none⟩)] #[]])(h3:Below w.heap.size w X)(h4:D+2≤X.heap.size)
  (h5:∀ k,Its a R k→w.heap.size≤k∧(k<g4∨D+2≤k)∧k<X.heap.size) (hg:g4<D) (h:WrEnds a R (l0++pre.flatMap zput++zput x) X e Y) :
  e=.returned (.pointer (some ⟨a,0,none⟩))∧(∀ k,D≤k→k<D+2→Y.heap[k]? = X.heap[k]?)∧∃ Φ',TJ w a g4 D l0 (pre++[x]) Φ' Y∧Kept (Its a R) X Y∧∀ k,Φ' k→Its a R k∨X.heap.size≤k:=by
 obtain⟨rfl,hk,R',hw,hr⟩:=h
 have hn:∀ k,Its a R' k→Its a R k∨X.heap.size≤k:=by
  rintro k (q | q)
  ·exact .inl (.inl q)
  ·exact(hr k q).imp .inr id
 have hlt:=hw.its_lt
 refine⟨rfl,fun k q1 q2=>hk.block k (by omega) (fun z=>by have:=h5 k z;omega),_,⟨?_,h2.kept hk (fun z=>by have:=h5 _ z;omega),h3.trans (hk.to_below h3.size fun k q=>(h5 k q).1),Nat.le_trans h4 hk.size,fun k q=>⟨?_,?_,hlt k q⟩,R',by rw [List.flatMap_append,List.flatMap_singleton,← List.append_assoc];exact hw,rfl⟩,hk,hn⟩
 ·exact(hk.block D (by omega) (fun z=>by have:=h5 D z;omega)).trans h1
 ·rcases hn k q with z | z
  ·exact(h5 k z).1
  ·exact Nat.le_trans h3.size z
 ·rcases hn k q with z | z
  ·exact(h5 k z).2.1
  ·exact .inr (Nat.le_trans h4 z)
end
theorem fold_ps(t:Array Value)(p:Nat)(x:Value):Array.foldl (fun t (x:Nat×Value)=>t.setIfInBounds x.1 x.2) t ((#[p]:Array Nat).zip #[x])=t.setIfInBounds p x:=by
 simp
theorem numbers_any(k v st:Int)(A:Option Addr)(n c:Nat)(w:World):Calls Tryz.prog 19 #[.agg #[.int .i64 k,.int .i64 v,.int .i64 st,.slice A n c]] w fun e w'=>e=.returned (.func (.func 40) #[] #[.pointer (some ⟨w.heap.size,0,none⟩)])∧w'=w.alloc (.cells #[.int .i64 k,.int .i64 v,.int .i64 st,.slice A n c] 32):=by
 go_enter Tryz.func19,Tryz.ntmps19
 go_wp2
 go_ret
 exact⟨rfl,rfl⟩
theorem Bytes_in(r:Rn)(w:World)(hr:r.Ok w)(h64:R64 r.ev r.k r.v):CallsIn Fence.wide 4 Tryz.prog 9 #[.agg #[.int .i64 r.k,.int .i64 r.v,.int .i64 r.st,.slice r.A r.ev.length r.c]] w fun e w'=>e=.returned (.string ⟨(bytes r.ev r.k r.v).toArray⟩)∧Below w.heap.size w w':=by
 obtain⟨k,v,st,A,c,ev⟩:=r
 simp only at *
 have HLN:=Lib.hid (zputs_len _ h64.nums)
 have H64:=Lib.hid h64.nums
 have hlen:ev.length≤1000000:=hr.len
 have hu:=u64_len (n:=ev.length) (by omega)
 have hp10:=lput_len10 (n:=ev.length) (by omega)
 obtain⟨n,hn⟩:∃ n,ev.length=n:=⟨_,rfl⟩
 have HN:=Lib.hid hn
 have hrow:ERow w w.heap.size A ev:=hr.row
 have HRow:=Lib.hid hrow
 have HNUM:=Lib.hid (nums_len ev k v)
 have hB1:Below w.heap.size w (w.alloc (.cells #[.int .i64 k,.int .i64 v,.int .i64 st,.slice A n c] 32)):=(Below.refl _ _).alloc (Nat.le_refl _) _
 have bP:=Blk.new w 32 #[.int .i64 k,.int .i64 v,.int .i64 st,.slice A n c]
 rw [show bytes ev k v=lput n++(nums ev k v).flatMap zput by rw [← hn];rfl]
 rw [hn] at hlen hu hp10 ⊢
 clear hn hr hrow h64
 obtain⟨w1,hw1⟩:∃ w1,w.alloc (.cells #[.int .i64 k,.int .i64 v,.int .i64 st,.slice A n c] 32)=w1:=⟨_,rfl⟩
 have hs1:w1.heap.size=w.heap.size+1:=by rw [← hw1];simp
 rw [hw1] at hB1 bP
 have HW1:=Lib.hid hw1
 have HS1:=Lib.hid hs1
 have HB1:=Lib.hid hB1
 have HC:=Lib.hid (fun W (h:Below w1.heap.size w1 W)=>(bP.below h bP.lt).cell 3)
 have HP:=Lib.hid bP
 have c3:w1.drew.cell? ⟨w.heap.size,3,none⟩=some (.slice A n c):=bP.cell 3
 clear hw1 hs1 hB1 bP
 refine callsIn_of_wp_marks Tryz.func9 rfl trivial ?_ rfl
 simp only [Tryz.ntmps9,List.size_toArray,List.length_cons,List.length_nil,Nat.reduceAdd,Nat.reduceSub,Array.replicate_succ,Array.replicate_zero,List.push_toArray,List.append_toArray,List.nil_append,List.cons_append]
 refine(wpIn_wide (n:=4)).2 ?_
 go_upto_region 1 with(fail)
 have H0:=Lib.hid (PW.new w1)
 have H1:=Lib.hid (fun W (h:PW w1 [] W)=>PW.num h (n:Int) (by omega) (by omega) (by simp))
 rw [List.nil_append,Int.toNat_natCast] at H1
 have hC:=HC.out _ (Below.refl _ _)
 rw [HW1.out]
 go_region_held3 (fun w'=>w'.cell? ⟨w.heap.size,3,none⟩=some (.slice A n c)) (first | exact hC | fail) (first
  | (go_at_call 16;(with_reducible refine H0.out.mono ?_);rintro e w2 ⟨rfl,hS⟩;have hC:=HC.out _ hS.to)
  | (go_at_call 17;(with_reducible refine(H1.out _ hS).mono ?_);rintro e w3 ⟨rfl,hS⟩;have hC:=HC.out _ hS.to)
  | fail)
 have hbS:=hS.to
 have bP:=HP.out.below hbS HP.out.lt
 have bPa:=bP.alloc (.cells #[.func (.func 18) #[.pointer (some ⟨w1.heap.size,0,none⟩)] #[]] 59)
 have x0:=bPa.cell 0
 have x1:=bPa.cell 1
 have x2:=bPa.cell 2
 have x3:=bPa.cell 3
 go_wp2_with (go_at_call 19;refine(numbers_any k v st A n c _).mono ?_;rintro e w4 ⟨rfl,rfl⟩)
 clear x0 x1 x2 x3 hC c3
 have hb3:=HB1.out.trans (hbS.mono HB1.out.size)
 have bS:=(Blk.new w3 59 #[.func (.func 18) #[.pointer (some ⟨w1.heap.size,0,none⟩)] #[]]).alloc (.cells #[.int .i64 k,.int .i64 v,.int .i64 st,.slice A n c] 32)
 have bN:=Blk.new (w3.alloc (.cells #[.func (.func 18) #[.pointer (some ⟨w1.heap.size,0,none⟩)] #[]] 59)) 32 #[.int .i64 k,.int .i64 v,.int .i64 st,.slice A n c]
 have hb4:Below w.heap.size w ((w3.alloc (.cells #[.func (.func 18) #[.pointer (some ⟨w1.heap.size,0,none⟩)] #[]] 59)).alloc (.cells #[.int .i64 k,.int .i64 v,.int .i64 st,.slice A n c] 32)):=(hb3.alloc hb3.size _).alloc (by have:=hb3.size;simp;omega) _
 have hb34:Below w3.heap.size w3 ((w3.alloc (.cells #[.func (.func 18) #[.pointer (some ⟨w1.heap.size,0,none⟩)] #[]] 59)).alloc (.cells #[.int .i64 k,.int .i64 v,.int .i64 st,.slice A n c] 32)):=((Below.refl _ _).alloc (Nat.le_refl _) _).alloc (by simp) _
 have hs4:((w3.alloc (.cells #[.func (.func 18) #[.pointer (some ⟨w1.heap.size,0,none⟩)] #[]] 59)).alloc (.cells #[.int .i64 k,.int .i64 v,.int .i64 st,.slice A n c] 32)).heap.size=w3.heap.size+2:=by simp
 rw [World.size_alloc] at bN
 generalize (w3.alloc (.cells #[.func (.func 18) #[.pointer (some ⟨w1.heap.size,0,none⟩)] #[]] 59)).alloc (.cells #[.int .i64 k,.int .i64 v,.int .i64 st,.slice A n c] 32)=w4 at *
 obtain⟨wq,hq1,R,hWr,hKq,hRq⟩:=hS
 have hIts:∀ k,Its w1.heap.size R k→w.heap.size≤k∧k<w3.heap.size:=by
  intro i hi
  have h1:=hWr.its_lt i hi
  have h2:=HS1.out
  have h3:=hq1.size
  rcases hi with rfl | hi
  ·omega
  ·rcases hRq i hi with q | q
   ·cases q
   ·omega
 have hWr4:=hWr.below hb34
 have hw13:=hb3.size
 clear hq1 hKq hRq hWr bPa bP hbS hb34 hb3
 refine(wpIn_wide (n:=4)).1 ?_
 refine wpIn_rangeFunc_open rfl (by omega) (gf:=40) (fb:=#[]) (lb:=#[.pointer (some ⟨w3.heap.size+1,0,none⟩)]) rfl trivial (enters_of Tryz.func40 (by kernel_rfl) rfl)
  (fun W=>∃ Φ,TJ w w1.heap.size w3.heap.size w4.heap.size (lput n) (nums ev k v) Φ W) (fun _ _=>False) ?calls ?done ?stop
 case calls =>
  intro fn W hfn hbW hsW hD hL
  obtain⟨rec,hrec⟩:=recd_name hL
  simp only [← hrec] at hL ⊢
  have hh:∀ (pre:List Int) (Φ:Nat→Prop) (X Y:World) (S:Nat→Prop),TJ w w1.heap.size w3.heap.size w4.heap.size (lput n) pre Φ X→Kept S X Y→(∀ i,S i→w4.heap.size<i∧¬ Φ i)→TJ w w1.heap.size w3.heap.size w4.heap.size (lput n) pre Φ Y:=fun pre Φ X Y S h k hS=>h.kept k (by omega) (by omega) hS
  have hrow4:ERow W w.heap.size A ev:=(HRow.out.below hb4).below (hbW.mono (by omega))
  have hlen':ev.length≤1000000:=by rw [HN.out];exact hlen
  have HTR:=numbers1_in (w4.heap.size+1) w.heap.size (w3.heap.size+1) A c ev k v st (fun pre Φ W'=>W'.heap[w4.heap.size+1]? = some (.loop (rec .ready none))∧TJ w w1.heap.size w3.heap.size w4.heap.size (lput n) pre Φ W') W
  refine CallsIn.mono (HTR ⟨?stay,?lt⟩ ?hY (Its w1.heap.size R) ⟨hL,?h0⟩ (by rw [HN.out];exact bN.below hbW (by omega)) hrow4 hlen' (by omega) (by omega) (by omega)) ?fin
  case h0 =>
   exact⟨hD,bS.below hbW (by omega),hb4.trans (hbW.mono hb4.size),by omega,fun k h=>by have:=hIts k h;omega,R,by simpa using hWr4.below hbW,rfl⟩
  case stay =>
   rintro pre Φ X Y ⟨h1,h2⟩ hk
   have hlx:=(Array.getElem?_eq_some_iff.1 h1).1
   exact⟨(hk.block _ hlx).trans h1,hh _ _ _ _ (X.heap.size≤·) h2 (Kept.of_below hk (Nat.le_refl _)) (fun i q=>⟨by omega,fun z=>by have:=(h2.lt i z).2.2;omega⟩)⟩
  case lt =>
   rintro pre Φ X ⟨h1,h2⟩
   exact⟨h2.below.size,fun k q=>by have:=h2.lt k q;omega⟩
  case fin =>
   rintro e W' ⟨⟨v,rfl⟩,Φ,h1,h2⟩
   exact⟨⟨_,rfl⟩,h2.mark,.inl ⟨h1,Φ,h2⟩⟩
  case hY =>
   rintro pre x Φ W0 ⟨hl0,hJ⟩ hpre
   rw [hrec] at hl0
   refine yieldAt_of hl0 hfn rfl (Go_:=fun W3=>∃ Φ',TJ w w1.heap.size w3.heap.size w4.heap.size (lput n) (pre++[x]) Φ' W3∧Kept (fun k=>k=w4.heap.size+1∨Φ k) W0 W3∧∀ k,Φ' k→Φ k∨W0.heap.size≤k) (St:=fun _ _=>False) ?_ ?ygo ?yst
   case ygo =>
    rintro W1 W2 ⟨Φ',h1,h2,h3⟩ hk hr
    exact⟨rfl,Φ',⟨by rw [hrec];exact hr,hh _ _ _ _ _ h1 hk (fun i q=>⟨by omega,fun z=>by have:=(h1.lt i z).2.1;omega⟩)⟩,h2.trans (hk.mono (fun k q=>.inl q)),h3⟩
   case yst=>exact fun _ _ _ h=>h.elim
   rw [fold_ps]
   simp only [List.setIfInBounds_toArray,List.set_cons_succ,List.set_cons_zero]
   have hx:=H64.out x (hpre.subset (by simp))
   have HPL:Hid ((lput n++pre.flatMap zput).length+10≤1073741824):=Lib.hid (by
    obtain⟨q,hq⟩:=hpre
    have h1:(pre.flatMap zput).length≤((nums ev k v).flatMap zput).length:=by
     rw [← hq,List.append_assoc,List.flatMap_append,List.length_append]
     omega
    have h2:=HLN.out
    rw [HNUM.out,HN.out] at h2
    rw [List.length_append]
    omega)
   have hg4:w3.heap.size<w4.heap.size:=by omega
   clear hD hL hpre hs4 hsW
   gi_wp2
   intro W2 hk2 hs2 hbusy
   generalize (recd fn _ _ _ _ _ LoopState.busy none)=busy at hbusy ⊢
   have hJ2:=hh _ _ _ _ _ hJ hk2 (fun i q=>⟨by omega,fun z=>by have:=(hJ.lt i z).2.1;omega⟩)
   obtain⟨j1,j2,j3,j4,j5,R2,j6,rfl⟩:=hJ2
   have cS:W2.cell? ⟨w3.heap.size,0,none⟩=some (.func (.func 18) #[.pointer (some ⟨w1.heap.size,0,none⟩)] #[]):=j2.cell 0
   have HI:=Lib.hid (WInt_any w1.heap.size R2 _ x hx.1 hx.2 W2 j6 HPL.out)
   clear hJ hs2
   gi_wp2_with fail
   refine⟨trivial,?_⟩
   refine(CallsIn.inRound (w4.heap.size+1) ((callsIn_wide (n:=1)).2 HI.out)).mono ?_
   rintro e W3 hE
   obtain⟨rfl,hq,Φ',hT,hK,hn⟩:=TJ.step j1 j2 j3 j4 j5 (by omega) hE
   gi_wp2
   exact⟨(hq _ (by omega) (by omega)).trans hbusy,Φ',hT,(hk2.mono fun k q=>.inl q).trans (hK.mono fun k q=>.inr q),fun k q=>(hn k q).imp id (Nat.le_trans hk2.size)⟩
 case done =>
  rintro W W' ⟨Φ,hJ⟩ hk hD
  have hJ':=hJ.kept hk (by omega) (by omega) (fun i q=>⟨by omega,fun z=>by have:=(hJ.lt i z).2.1;omega⟩)
  obtain⟨-,d2,hB,d4,d5,R2,d6,-⟩:=hJ'
  have HBs:=Lib.hid (Wire.Bytes_any w1.heap.size R2 _ W' d6)
  have HBl:=Lib.hid hB
  have hg4:w.heap.size≤w4.heap.size:=hb4.size
  clear hJ hk d2 hB d5 d6 hs4
  go_wp2_with (go_at_call 20;refine HBs.out.mono ?_;rintro e w5 ⟨rfl,rfl⟩)
  refine⟨by simp,.inl ⟨_,_,rfl,run_takeDeferred hD,?_⟩⟩
  exact⟨_,results_tmp (t:=2) rfl _ _ _,rfl,HBl.out.trans (belowK_b (w:=w) (Nat.le_refl _) _ w4.heap.size _ (.deferred none) hg4 hD rfl rfl)⟩
 case stop=>exact fun _ _ _ h=>h.elim
theorem Bytes_any(r:Rn)(w:World)(hr:r.Ok w)(h64:R64 r.ev r.k r.v):Calls Tryz.prog 9 #[.agg #[.int .i64 r.k,.int .i64 r.v,.int .i64 r.st,.slice r.A r.ev.length r.c]] w fun e w'=>e=.returned (.string ⟨(bytes r.ev r.k r.v).toArray⟩)∧Below w.heap.size w w' :=
 (callsIn_wide (n:=4)).1 (Bytes_in r w hr h64)
theorem size_of(l:List UInt8):(ByteArray.mk l.toArray).size=l.length:=by simp [ByteArray.size]
def digest(l:List (Int×Int×Int))(k v:Int):List UInt8:=Sha.sum (bytes l k v)
theorem Digest_any(r:Rn)(w:World)(hG:Sha.Cubes w)(hr:r.Ok w)(h64:R64 r.ev r.k r.v):Calls Tryz.prog 8 #[.agg #[.int .i64 r.k,.int .i64 r.v,.int .i64 r.st,.slice r.A r.ev.length r.c]] w fun e w'=>e=.returned (.string ⟨(digest r.ev r.k r.v).toArray⟩)∧Below w.heap.size w w':=by
 have hB1:Below w.heap.size w (w.alloc (.cells #[.int .i64 r.k,.int .i64 r.v,.int .i64 r.st,.slice r.A r.ev.length r.c] 32)):=(Below.refl _ _).alloc (Nat.le_refl _) _
 have bP:=Blk.new w 32 #[.int .i64 r.k,.int .i64 r.v,.int .i64 r.st,.slice r.A r.ev.length r.c]
 have hlb:(bytes r.ev r.k r.v).length≤1073741824:=by have:=bytes_len h64 hr.len;have:=hr.len;omega
 have HD:Hid (digest r.ev r.k r.v=Sha.sum (bytes r.ev r.k r.v)):=Lib.hid rfl
 have HY:=Lib.hid (Bytes_any r _ (hr.at hB1) h64)
 have HS:=Lib.hid (fun W hW=>Sha.Sum_any ⟨(bytes r.ev r.k r.v).toArray⟩ (by rw [size_of];exact hlb) W (hG.below (hB1.trans (Below.mono hW hB1.size))))
 have HB:=Lib.hid hB1
 have x0:=bP.cell 0
 have x1:=bP.cell 1
 have x2:=bP.cell 2
 have x3:=bP.cell 3
 obtain⟨k,v,st,A,c,ev⟩:=r
 simp only at *
 generalize digest ev k v=dd at *
 generalize bytes ev k v=bb at *
 generalize ev.length=n at *
 clear hG hr h64 hB1 bP hlb
 go_enter Tryz.func8,Tryz.ntmps8
 go_wp2_with (first | (go_at_call 9;refine HY.out.mono ?_;rintro e w1 ⟨rfl,hb1⟩) | (go_at_call 10;refine(HS.out _ hb1).mono ?_;rintro e w2 ⟨rfl,hb2⟩) | fail)
 go_ret
 exact⟨by rw [HD.out];rfl,HB.out.trans ((hb1.trans (hb2.mono hb1.size)).mono HB.out.size)⟩
end Go.Proofs.YtekogckmgkodfaaGreatDoor.Trc
