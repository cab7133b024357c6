/-
  Events, in memory; the reference of machine, walked: are events alike, and runs.
  A run's state, in memory, as it is made: a variable more; an array more.
  The reference of machine, walked: a program is run.
  The reference of machine, walked: a program that may be run is run.
  What the functions of machine come to: the reference's, and what is asked of the package's.
-/
import Derived.Test.YtodejloonfkkmaaGreatMachJ
import Derived.Deep.QuietTactic
import Derived.Laws.MakeOwn
import Derived.Deep.RegionLaw
import Derived.Deep.AppendLies
set_option maxRecDepth 100000
set_option maxHeartbeats 2000000
set_option linter.unusedVariables false
namespace Go.Proofs.YtodejloonfkkmaaGreat.Mach
open Go.RowKit Mem Arena Kinds Path Cat Suite
attribute [local go_sem ↓] Go.wp_at_zero Go.wp_at_succ
def ERow(w:World)(B:Nat)(A:Option Addr)(l:List (Int×Int×Int)):Prop :=
 ∀ (i:Nat) (e:Int×Int×Int),l[i]? = some e→∃ ad,A=some ad∧ad.block<B∧w.cell? (ad.add (i*3))=some (.int .i64 e.1) ∧
  w.cell? ⟨(ad.add (i*3)).block,(ad.add (i*3)).off+1,none⟩=some (.int .i64 e.2.1)∧w.cell? ⟨(ad.add (i*3)).block,(ad.add (i*3)).off+2,none⟩=some (.int .i64 e.2.2)
theorem ERow.below{w w':World}{B:Nat}{A:Option Addr}{l:List (Int×Int×Int)}(h:ERow w B A l)(hb:Below B w w'):ERow w' B A l:=by
 intro i b hi
 obtain⟨ad,e,h1,h3,h4,h5⟩:=h i b hi
 have hk:=hb.block (ad.add (i*3)).block (by rw [add_blockN];exact h1)
 refine⟨ad,e,h1,?_,?_,?_⟩
 ·rw [← h3];unfold World.cell?;rw [hk]
 ·rw [← h4];unfold World.cell?;rw [hk]
 ·rw [← h5];unfold World.cell?;rw [hk]
theorem ERow.at{w w':World}{A:Option Addr}{l:List (Int×Int×Int)}(h:ERow w w.heap.size A l)(hb:Below w.heap.size w w'):ERow w' w'.heap.size A l:=by
 intro i b hi
 obtain⟨ad,e,h1,r⟩:=(h.below hb) i b hi
 exact⟨ad,e,Nat.lt_of_lt_of_le h1 hb.size,r⟩
theorem ERow.nil(w:World)(B:Nat)(A:Option Addr):ERow w B A []:=fun i e h=>by simp at h
theorem ERow.take{w:World}{B:Nat}{A:Option Addr}{l:List (Int×Int×Int)}(h:ERow w B A l)(n:Nat):ERow w B A (l.take n):=fun i e hi=>by
 rw [List.getElem?_take] at hi
 split at hi
 ·exact h i e hi
 ·cases hi
theorem ecells_get:∀ (l:List (Int×Int×Int)) (i:Nat) (e:Int×Int×Int),l[i]? = some e→(ecells l)[i*3]? = some (.int .i64 e.1)∧(ecells l)[i*3+1]? = some (.int .i64 e.2.1)∧(ecells l)[i*3+2]? = some (.int .i64 e.2.2)
 | [],i,e,h=>by simp at h
 | x::l,0,e,h=>by
  obtain rfl:x=e:=by simpa using h
  exact⟨rfl,rfl,rfl⟩
 | x::l,i+1,e,h=>by
  have ih:=ecells_get l i e (by simpa using h)
  have hc:ecells (x::l)=ecell x++ecells l:=rfl
  have hl:(ecell x).length=3:=rfl
  rw [hc]
  refine⟨?_,?_,?_⟩
  ·rw [List.getElem?_append_right (by omega),hl,show(i+1)*3-3=i*3 by omega];exact ih.1
  ·rw [List.getElem?_append_right (by omega),hl,show(i+1)*3+1-3=i*3+1 by omega];exact ih.2.1
  ·rw [List.getElem?_append_right (by omega),hl,show(i+1)*3+2-3=i*3+2 by omega];exact ih.2.2
theorem own_events{w:World}{base:Nat}{v:Value}{l:List (Int×Int×Int)}(h:w.ownsRow base 86 3 v l.length (ecells l)) :
  ∃ A c,v=.slice A l.length c∧l.length≤c∧(A=none→c=0)∧ERow w w.heap.size A l∧∀ ad,A=some ad→base≤ad.block:=by
 have hc:=fun g hg=>h.cells (g:=g) hg
 rcases h.2 with⟨rfl,h0⟩ | ⟨g,cap,cur,rfl,hb,hg,hn,-⟩
 ·obtain rfl:=List.length_eq_zero_iff.1 h0
  exact⟨none,0,rfl,Nat.le_refl _,fun _=>rfl,ERow.nil _ _ _,fun ad e=>by cases e⟩
 ·refine⟨_,_,rfl,hn,fun e=>by simp at e,fun i x hx=>⟨_,rfl,(Array.getElem?_eq_some_iff.1 hg).1,?_,?_,?_⟩,fun ad e=>by cases e;exact hb⟩
  ·exact hc g rfl _ _ (ecells_get l i x hx).1
  ·have:=hc g rfl _ _ (ecells_get l i x hx).2.1
   rw [add_off _ _ (by omega)] at this
   rw [← this]
   congr 1
   rcases Nat.eq_zero_or_pos i with rfl | hi
   ·simp [Addr.add]
   ·rw [add_off _ _ (by omega)];simp
  ·have:=hc g rfl _ _ (ecells_get l i x hx).2.2
   rw [add_off _ _ (by omega)] at this
   rw [← this]
   congr 1
   rcases Nat.eq_zero_or_pos i with rfl | hi
   ·simp [Addr.add]
   ·rw [add_off _ _ (by omega)];simp
theorem ref_Events_any(A:Option Addr)(cap:Nat)(xs:List (Int×Int×Int))(A':Option Addr)(cap':Nat)(ys:List (Int×Int×Int))(w:World)(hx:ERow w w.heap.size A xs)(hy:ERow w w.heap.size A' ys)(hlen:xs.length≤1000000) :
  Calls Tryz.prog 19 #[.slice A xs.length cap,.slice A' ys.length cap'] w fun e w'=>e=.returned (.bool (decide (xs=ys)))∧Below w.heap.size w w':=by
 by_cases hll:xs.length=ys.length
 ·have HX:=Lib.hid hx
  have HY:=Lib.hid hy
  clear hx hy
  obtain⟨n,hn⟩:∃ n,n=xs.length:=⟨_,rfl⟩
  have hn':ys.length=n:=by omega
  rw [hn',← hn]
  have HN:=Lib.hid hn
  have HN':=Lib.hid hn'
  rw [← hn] at hlen
  clear hn hn' hll
  go_enter Tryz.func19,Tryz.ntmps19
  go_wp2
  go_loopw [5] (fun i wr=>∃ k:Nat,k≤n∧xs.take k=ys.take k∧i=.int .i64 k∧Below w.heap.size w wr) (fun i _=>n-(intOf i).toNat)
  case atStart=>exact⟨0,by omega,rfl,rfl,Below.refl _ _⟩
  case round =>
   obtain⟨k,hk,hs,rfl,hB⟩:=hrel
   by_cases hlt:k<n
   ·obtain⟨⟨x1,x2,x3⟩,hxk⟩:∃ x,xs[k]? = some x:=⟨_,List.getElem?_eq_getElem (show k<xs.length by rw [← HN.out];exact hlt)⟩
    obtain⟨⟨y1,y2,y3⟩,hyk⟩:∃ y,ys[k]? = some y:=⟨_,List.getElem?_eq_getElem (show k<ys.length by rw [HN'.out];exact hlt)⟩
    obtain⟨ad,rfl,hb,h0,h1,h2⟩:=(ERow.below HX.out hB) k _ hxk
    obtain⟨ad',rfl,hb',g0,g1,g2⟩:=(ERow.below HY.out hB) k _ hyk
    simp only at h0 h1 h2 g0 g1 g2
    by_cases htu:x1=y1
    ·by_cases hdf:x2=y2
     ·by_cases hef:x3=y3
      ·have HS:=Lib.hid (show xs.take (k+1)=ys.take (k+1) by rw [take_snoc xs k _ hxk,take_snoc ys k _ hyk,hs,htu,hdf,hef])
       subst htu hdf hef
       clear hxk hyk hs
       go_wp2
       go_quiet (fail)
       go_wp2
       go_roundw
       case rel=>exact⟨k+1,by omega,HS.out,by go_num,belowN hB _⟩
       case measure=>simp [intOf];omega
      ·have HS:=Lib.hid (rows_differ hxk hyk (by simp;intro _ _;exact hef))
       have e2:(x3==y3)=false:=by simpa using hef
       subst htu hdf
       clear hxk hyk hs hef
       go_wp2
       go_quiet (fail)
       go_wp2
       go_ret
       exact⟨by rw [HS.out];rfl,belowN hB _⟩
     ·have HS:=Lib.hid (rows_differ hxk hyk (by simp;intro _ q;exact absurd q hdf))
      have e2:(x2==y2)=false:=by simpa using hdf
      subst htu
      clear hxk hyk hs hdf
      go_wp2
      go_quiet (fail)
      go_wp2
      go_ret
      exact⟨by rw [HS.out];rfl,belowN hB _⟩
    ·have HS:=Lib.hid (rows_differ hxk hyk (by simp;intro q;exact absurd q htu))
     have e2:(x1==y1)=false:=by simpa using htu
     clear hxk hyk hs htu
     go_wp2
     go_quiet (fail)
     go_wp2
     go_ret
     exact⟨by rw [HS.out];rfl,belowN hB _⟩
   ·have hk9:k=n:=by omega
    subst hk9
    have HF:=Lib.hid (rows_alike hs HN.out HN'.out)
    clear hs
    go_wp2
    go_ret
    exact⟨by rw [HF.out];rfl,hB⟩
 ·have HF:=Lib.hid (show decide (xs=ys)=false by
   apply decide_eq_false
   rintro rfl
   exact hll rfl)
  have hne:((xs.length:Int)==(ys.length:Int))=false:=by rw [beq_eq_false_iff_ne];omega
  have hne2:((xs.length:Int) != (ys.length:Int))=true:=by simp;omega
  go_enter Tryz.func19,Tryz.ntmps19
  go_wp2
  go_ret
  exact⟨by rw [HF.out];rfl,Below.refl _ _⟩
structure Rn where
 k:Int
 v:Int
 st:Int
 A:Option Addr
 c:Nat
 ev:List (Int×Int×Int)
def Rn.val(r:Rn):Value:=.agg #[.int .i64 r.k,.int .i64 r.v,.int .i64 r.st,.slice r.A r.ev.length r.c]
structure Rn.Ok (r:Rn) (w:World):Prop where
 row:ERow w w.heap.size r.A r.ev
 cap:r.ev.length≤r.c
 none:r.A=none→r.c=0
 len:r.ev.length≤1000000
theorem Rn.Ok.at{r:Rn}{w w':World}(h:r.Ok w)(hb:Below w.heap.size w w'):r.Ok w':=⟨h.row.at hb,h.cap,h.none,h.len⟩
def Rn.zero:Rn:=⟨0,0,0,none,0,[]⟩
theorem Rn.zero_ok(w:World):Rn.zero.Ok w:=⟨ERow.nil _ _ _,Nat.le_refl _,fun _=>rfl,by decide⟩
def Rn.same(r q:Rn):Bool:=decide (r.ev=q.ev) && (decide (r.k=q.k∧r.v=q.v) && decide (r.st=q.st))
theorem Rn.same_iff{r q:Rn}:r.same q=true↔r.ev=q.ev∧r.k=q.k∧r.v=q.v∧r.st=q.st:=by
 unfold Rn.same
 rw [Bool.and_eq_true,Bool.and_eq_true,decide_eq_true_eq,decide_eq_true_eq,decide_eq_true_eq]
 exact⟨fun h=>⟨h.1,h.2.1.1,h.2.1.2,h.2.2⟩,fun h=>⟨h.1,⟨h.2.1,h.2.2.1⟩,h.2.2.2⟩⟩
theorem ref_MSame_any(r q:Rn)(w:World)(hr:r.Ok w)(hq:q.Ok w) :
  Calls Tryz.prog 9 #[r.val,q.val] w fun e w'=>e=.returned (.bool (r.same q))∧Below w.heap.size w w':=by
 have hb1:Below w.heap.size w (w.alloc (.cells #[.int .i64 r.k,.int .i64 r.v,.int .i64 r.st,.slice r.A r.ev.length r.c] 32)):=(Below.refl _ _).alloc (Nat.le_refl _) _
 have hb2:=hb1.alloc hb1.size (.cells #[.int .i64 q.k,.int .i64 q.v,.int .i64 q.st,.slice q.A q.ev.length q.c] 32)
 have b1:=(Blk.new w 32 #[.int .i64 r.k,.int .i64 r.v,.int .i64 r.st,.slice r.A r.ev.length r.c]).alloc (.cells #[.int .i64 q.k,.int .i64 q.v,.int .i64 q.st,.slice q.A q.ev.length q.c] 32)
 have b2:=Blk.new (w.alloc (.cells #[.int .i64 r.k,.int .i64 r.v,.int .i64 r.st,.slice r.A r.ev.length r.c] 32)) 32 #[.int .i64 q.k,.int .i64 q.v,.int .i64 q.st,.slice q.A q.ev.length q.c]
 simp only [World.size_alloc] at b2
 have y1:((w.alloc (.cells #[.int .i64 r.k,.int .i64 r.v,.int .i64 r.st,.slice r.A r.ev.length r.c] 32)).alloc (.cells #[.int .i64 q.k,.int .i64 q.v,.int .i64 q.st,.slice q.A q.ev.length q.c] 32)).cell? ⟨w.heap.size,3,none⟩=some (.slice r.A r.ev.length r.c):=b1.cell 3
 have y2:((w.alloc (.cells #[.int .i64 r.k,.int .i64 r.v,.int .i64 r.st,.slice r.A r.ev.length r.c] 32)).alloc (.cells #[.int .i64 q.k,.int .i64 q.v,.int .i64 q.st,.slice q.A q.ev.length q.c] 32)).cell? ⟨w.heap.size+1,3,none⟩=some (.slice q.A q.ev.length q.c):=b2.cell 3
 obtain⟨w2,hw2⟩:∃ w2,(w.alloc (.cells #[.int .i64 r.k,.int .i64 r.v,.int .i64 r.st,.slice r.A r.ev.length r.c] 32)).alloc (.cells #[.int .i64 q.k,.int .i64 q.v,.int .i64 q.st,.slice q.A q.ev.length q.c] 32)=w2:=⟨_,rfl⟩
 rw [hw2] at hb2 b1 b2
 have HW:=Lib.hid hw2
 have HE:=Lib.hid (ref_Events_any r.A r.c r.ev q.A q.c q.ev w2 (hr.row.at hb2) (hq.row.at hb2) hr.len)
 have HB:=Lib.hid hb2
 have HX:=Lib.hid (fun W (hb:Below w2.heap.size w2 W)=>And.intro ((b1.below hb b1.lt).cell 0) (And.intro ((b1.below hb b1.lt).cell 1) (And.intro ((b1.below hb b1.lt).cell 2) (And.intro ((b2.below hb b2.lt).cell 0) (And.intro ((b2.below hb b2.lt).cell 1) ((b2.below hb b2.lt).cell 2))))))
 have hcell1:w2.cell? ⟨w.heap.size,3,none⟩=some (.slice r.A r.ev.length r.c):=b1.cell 3
 have hcell2:w2.cell? ⟨w.heap.size+1,3,none⟩=some (.slice q.A q.ev.length q.c):=b2.cell 3
 obtain⟨rk,rv,rst,rA,rc,rev⟩:=r
 obtain⟨qk,qv,qst,qA,qc,qev⟩:=q
 have HS:Hid (Rn.same ⟨rk,rv,rst,rA,rc,rev⟩ ⟨qk,qv,qst,qA,qc,qev⟩=(decide (rev=qev) && (decide (rk=qk∧rv=qv) && decide (rst=qst)))):=Lib.hid rfl
 generalize Rn.same ⟨rk,rv,rst,rA,rc,rev⟩ ⟨qk,qv,qst,qA,qc,qev⟩=E at *
 unfold Rn.val
 simp only at *
 generalize decide (rev=qev)=ee at *
 clear hr hq hb1 hb2 b1 b2 hw2
 cases ee
 ·have HF:=Lib.hid (show E=false by rw [HS.out];rfl)
  clear HS
  go_enter Tryz.func9,Tryz.ntmps9
  go_wp2_with (first | (go_at_call 19;rw [HW.out];(with_reducible refine HE.out.mono ?_);rintro e w3 ⟨rfl,hb3⟩;obtain⟨x0,x1,x2,z0,z1,z2⟩:=HX.out _ hb3) | fail)
  go_ret
  exact⟨by rw [HF.out];rfl,HB.out.trans (hb3.mono HB.out.size)⟩
 by_cases h1:rk=qk
 ·by_cases h2:rv=qv
  ·by_cases h3:rst=qst
   ·have HF:=Lib.hid (show E=true by rw [HS.out,decide_eq_true ⟨h1,h2⟩,decide_eq_true h3];rfl)
    clear HS
    subst h1 h2 h3
    go_enter Tryz.func9,Tryz.ntmps9
    go_wp2_with (first | (go_at_call 19;rw [HW.out];(with_reducible refine HE.out.mono ?_);rintro e w3 ⟨rfl,hb3⟩;obtain⟨x0,x1,x2,z0,z1,z2⟩:=HX.out _ hb3) | fail)
    go_ret
    exact⟨by rw [HF.out];rfl,HB.out.trans (hb3.mono HB.out.size)⟩
   ·have HF:=Lib.hid (show E=false by rw [HS.out,decide_eq_true ⟨h1,h2⟩,decide_eq_false h3];rfl)
    have e3:(rst==qst)=false:=by simpa using h3
    clear HS
    subst h1 h2
    go_enter Tryz.func9,Tryz.ntmps9
    go_wp2_with (first | (go_at_call 19;rw [HW.out];(with_reducible refine HE.out.mono ?_);rintro e w3 ⟨rfl,hb3⟩;obtain⟨x0,x1,x2,z0,z1,z2⟩:=HX.out _ hb3) | fail)
    go_ret
    exact⟨by rw [HF.out];rfl,HB.out.trans (hb3.mono HB.out.size)⟩
  ·have HF:=Lib.hid (show E=false by rw [HS.out,decide_eq_false (fun z=>h2 z.2)];rfl)
   have e3:(rv==qv)=false:=by simpa using h2
   clear HS
   subst h1
   go_enter Tryz.func9,Tryz.ntmps9
   go_wp2_with (first | (go_at_call 19;rw [HW.out];(with_reducible refine HE.out.mono ?_);rintro e w3 ⟨rfl,hb3⟩;obtain⟨x0,x1,x2,z0,z1,z2⟩:=HX.out _ hb3) | fail)
   go_ret
   exact⟨by rw [HF.out];rfl,HB.out.trans (hb3.mono HB.out.size)⟩
 ·have HF:=Lib.hid (show E=false by rw [HS.out,decide_eq_false (fun z=>h1 z.1)];rfl)
  have e3:(rk==qk)=false:=by simpa using h1
  clear HS
  go_enter Tryz.func9,Tryz.ntmps9
  go_wp2_with (first | (go_at_call 19;rw [HW.out];(with_reducible refine HE.out.mono ?_);rintro e w3 ⟨rfl,hb3⟩;obtain⟨x0,x1,x2,z0,z1,z2⟩:=HX.out _ hb3) | fail)
  go_ret
  exact⟨by rw [HF.out];rfl,HB.out.trans (hb3.mono HB.out.size)⟩
end Go.Proofs.YtodejloonfkkmaaGreat.Mach
namespace Go.Proofs.YtodejloonfkkmaaGreat.Mach
open Go.RowKit Mem Arena Kinds Path Cat Suite
section
variable {T:TypeId} {base g:Nat} {κ:Nat→Nat} {p:Prg} {vv av evv:Value} {Y:List ((Option Addr×Nat)×List Int)} {s:St} {W W':World}
end
end Go.Proofs.YtodejloonfkkmaaGreat.Mach
namespace Go.Proofs.YtodejloonfkkmaaGreat.Mach
open Go.RowKit Mem Arena Kinds Path Cat Suite
attribute [local go_sem ↓] Go.wp_at_zero Go.wp_at_succ
def part_(vs args:List Int)(f k:Nat):St:={ begin_ vs args f with vals:=(begin_ vs args f).vals.take k,arrs:=(begin_ vs args f).arrs.take k }
theorem part_len(vs args:List Int)(f:Nat){k:Nat}(h:k≤vs.length):(part_ vs args f k).vals.length=k∧(part_ vs args f k).arrs.length=k:=by
 unfold part_ begin_
 simp only [List.length_take,List.length_map,List.length_range]
 omega
theorem SM.new(T:TypeId)(p:Prg)(f:Nat)(w:World):SM T w.heap.size w.heap.size (fun k=>if k=w.heap.size then 1 else 0) p (.slice Option.none 0 0) (.slice Option.none 0 0) (.slice Option.none 0 0) [] ⟨[],[],f,0,[],0,0,false⟩ (w.alloc (.cells (stcells p (.slice Option.none 0 0) (.slice Option.none 0 0) (.slice Option.none 0 0) ⟨[],[],f,0,[],0,0,false⟩) T)) where
 lab:={
  g:=if_pos rfl
  v:=fun k e=>by cases e
  a:=fun k e=>by cases e
  e:=fun k e=>by cases e
  y:=fun i y k q e=>by simp at q
  lt:=fun k q=>by
   by_cases z:k=w.heap.size
   ·subst z;simp
   ·rw [if_neg z] at q;exact absurd rfl q }
 blk:=Blk.new _ _ _
 vr:=World.ownsRow_nil _ _ _ _
 ar:=World.ownsRow_nil _ _ _ _
 hY:=rfl
 yr:=fun i y q=>by simp at q
 er:=World.ownsRow_nil _ _ _ _
section
variable {T:TypeId} {base g:Nat} {κ:Nat→Nat} {p:Prg} {vv evv:Value} {Y:List ((Option Addr×Nat)×List Int)} {s:St}
end
theorem ERow.far{w:World}{B:Nat}{A:Option Addr}{l:List (Int×Int×Int)}{g:Nat}(h:ERow w B A l)(i:Nat)(v:Value)(hA:∀ ad,A=some ad→ad.block≠g):ERow (w.setCell ⟨g,i,none⟩ v) B A l:=by
 intro j x hx
 obtain⟨ad,e,hlt,q,q1,q2⟩:=h j x hx
 have hk:∀ a:Addr,a.block=ad.block→(w.setCell ⟨g,i,none⟩ v).cell? a=w.cell? a:=fun a ha=>World.cell?_of_block (Below.heap_setCell _ _ _ _ (by rw [ha];exact hA ad e))
 exact⟨ad,e,hlt,(hk _ (add_blockN _ _)).trans q,(hk ⟨(ad.add (j*3)).block,(ad.add (j*3)).off+1,Option.none⟩ (add_blockN _ _)).trans q1,(hk ⟨(ad.add (j*3)).block,(ad.add (j*3)).off+2,Option.none⟩ (add_blockN _ _)).trans q2⟩
def REnds(vs:List Int)(xs:List Nd)(args:List Int)(f:Nat)(w:World)(e:Ending)(w':World):Prop :=
 Below w.heap.size w w'∧∃ A c,e=.returned (.tuple #[(Rn.mk (mrun vs xs args f).kind (mrun vs xs args f).value (mrun vs xs args f).steps A c (mrun vs xs args f).ev).val,.int .i64 0])∧(Rn.mk (mrun vs xs args f).kind (mrun vs xs args f).value (mrun vs xs args f).steps A c (mrun vs xs args f).ev).Ok w'
end Go.Proofs.YtodejloonfkkmaaGreat.Mach
namespace Go.Proofs.YtodejloonfkkmaaGreat.Mach
open Go.RowKit Mem Arena Kinds Path Cat Suite Delta
def rrun(ps:Int)(vs:List Int)(xs:List Nd)(args:List Int)(f:Int):St :=
 if mcheck ps vs xs args.length f=0 then mrun vs xs args f.toNat else⟨[],[],0,0,[],0,0,false⟩
def rn(A:Option Addr)(c:Nat)(s:St):Rn:=⟨s.kind,s.value,s.steps,A,c,s.ev⟩
def RunEnds(p:Prg)(args:List Int)(f:Int)(w:World)(e:Ending)(w':World):Prop :=
 Below w.heap.size w w'∧∃ A c,e=.returned (.tuple #[(rn A c (rrun p.ps p.vs p.xs args f)).val,.int .i64 (mcheck p.ps p.vs p.xs args.length f)])∧(rn A c (rrun p.ps p.vs p.xs args f)).Ok w'
structure MPkg:Prop where
 check:∀ (p:Prg) (A:Option Addr) (c:Nat) (args:List Int) (f:Int) (w:World),p.Ok w→IRow w w.heap.size A args→args.length≤c→(A=none→c=0)→args.length≤1000000→N64 f →
  Calls Tryz.prog 12 #[.agg #[.int .i64 p.ps,.slice p.A p.vs.length p.c,.slice p.B p.xs.length p.e],.slice A args.length c,.int .i64 f] w fun e w'=>e=.returned (.int .i64 (mcheck p.ps p.vs p.xs args.length f))∧Below w.heap.size w w'
 run:∀ (p:Prg) (A:Option Addr) (c:Nat) (args:List Int) (f:Int) (w:World),p.Ok w→IRow w w.heap.size A args→args.length≤c→(A=none→c=0)→args.length≤1000000→N64 f →
  Calls Tryz.prog 8 #[.agg #[.int .i64 p.ps,.slice p.A p.vs.length p.c,.slice p.B p.xs.length p.e],.slice A args.length c,.int .i64 f] w (RunEnds p args f w)
theorem rrun_ok{ps:Int}{vs:List Int}{xs:List Nd}{args:List Int}{f:Int}(h:mcheck ps vs xs args.length f=0):rrun ps vs xs args f=mrun vs xs args f.toNat:=if_pos h
end Go.Proofs.YtodejloonfkkmaaGreat.Mach
