/-
  Package trace, walked: the numbers of a run, told to a loop's body.
-/
import Derived.Test.YtekogckmgkodfaaGreatDoorTraceMath
import Derived.Test.YtekogckmgkodfaaGreatDoorRunRow
import Derived.Test.YtekogckmgkodfaaGreatDoorPathH
import Derived.Test.YtekogckmgkodfaaGreatDoorWireG
import Derived.RangeFuncNested
import Derived.RangeFuncCalls
import Derived.RangeFuncBound
import Derived.RangeFuncLeaves
import Derived.Shelf.Abstract
import Derived.Shelf.RegionOpen
import Derived.OwnWalkIn
import Derived.TacticsInMore
import Derived.LoopNIn
import Derived.LoopIn
set_option maxRecDepth 100000
set_option maxHeartbeats 4000000
set_option linter.unusedVariables false
namespace Go.Proofs.YtekogckmgkodfaaGreatDoor.Trc
open Go.RowKit Go.Shelf Leb Zig Mem Wire Arena Mach RangeO
attribute [local go_sem] Oper.semAt_some
def NFeeds(lp:Nat)(L:List Int)(J:List Int→(Nat→Prop)→World→Prop):Prop :=
 ∀ pre x Φ W,J pre Φ W→pre++[x] <+: L →
  YieldAt Fence.wide 2 Tryz.prog lp #[.int .i64 x] W fun e W'=>e=.returned (.bool true)∧∃ Φ',J (pre++[x]) Φ' W'∧Kept (fun k=>k=lp∨Φ k) W W'∧∀ k,Φ' k→Φ k∨W.heap.size≤k
structure NHeld (B Bn:Nat) (J:List Int→(Nat→Prop)→World→Prop):Prop where
 stay:∀ pre Φ X Y,J pre Φ X→Below X.heap.size X Y→J pre Φ Y
 lt:∀ pre Φ X,J pre Φ X→B≤X.heap.size∧∀ k,Φ k→B≤k∧k<X.heap.size∧k≠Bn
theorem nums_step{ev:List (Int×Int×Int)}{k v:Int}{j:Nat}{e:Int×Int×Int}(h:ev[j]? = some e):∃ r,nums ev k v=(ev.take j).flatMap enum++(e.1::e.2.1::e.2.2::r):=by
 have h1:ev=ev.take j++(e::ev.drop (j+1)):=by
  obtain⟨hj,rfl⟩:=List.getElem?_eq_some_iff.1 h
  rw [← List.drop_eq_getElem_cons hj,List.take_append_drop]
 refine⟨(ev.drop (j+1)).flatMap enum++[k,v],?_⟩
 unfold nums
 conv=>lhs;rw [h1]
 rw [List.flatMap_append,List.flatMap_cons]
 simp [enum]
theorem take_enum{ev:List (Int×Int×Int)}{j:Nat}{e:Int×Int×Int}(h:ev[j]? = some e):(ev.take (j+1)).flatMap enum=(ev.take j).flatMap enum++[e.1]++[e.2.1]++[e.2.2]:=by
 obtain⟨hj,rfl⟩:=List.getElem?_eq_some_iff.1 h
 rw [List.take_succ_eq_append_getElem hj,List.flatMap_append]
 simp [enum]
theorem numbers1_in(lp B Bn:Nat)(A:Option Addr)(c:Nat)(ev:List (Int×Int×Int))(k v st:Int)(J:List Int→(Nat→Prop)→World→Prop)(W:World)(hH:NHeld B Bn J)(hY:NFeeds lp (nums ev k v) J)(Φ₀:Nat→Prop)(h0:J [] Φ₀ W)
  (hb:Blk W Bn 32 #[.int .i64 k,.int .i64 v,.int .i64 st,.slice A ev.length c]) (hr:ERow W B A ev) (hlen:ev.length≤1000000) (hp1:B≤lp) (hp2:lp≠Bn) (hp3:lp<W.heap.size) :
  CallsIn Fence.wide 3 Tryz.prog 40 #[.func (.yield lp) #[] #[],.pointer (some ⟨Bn,0,none⟩)] W fun e W'=>(∃ v,e=.returned v)∧∃ Φ,J (nums ev k v) Φ W':=by
 obtain⟨n,hn⟩:∃ n,ev.length=n:=⟨_,rfl⟩
 have HN:=Lib.hid hn
 rw [hn] at hb
 rw [hn] at hlen
 have c3:=hb.cell 3
 have HR:=Lib.hid hr
 have HB:=Lib.hid hb
 have hB:=(hH.lt _ _ _ h0).1
 clear hr hn
 refine callsIn_of_wp Tryz.func40 rfl trivial ?_ rfl
 simp only [Tryz.ntmps40,List.size_toArray,List.length_cons,List.length_nil,Nat.reduceAdd,Nat.reduceSub,Array.replicate_succ,Array.replicate_zero,List.push_toArray,List.append_toArray,List.nil_append,List.cons_append]
 gi_wp2
 gi_loopw [8] (fun i wr=>∃ (j:Nat) (Φ:Nat→Prop),j≤n∧i=.int .i64 j∧J ((ev.take j).flatMap enum) Φ wr∧Blk wr Bn 32 #[.int .i64 k,.int .i64 v,.int .i64 st,.slice A n c]∧Below B W wr) (fun i _=>n-(intOf i).toNat)
 case atStart=>exact⟨0,Φ₀,by omega,rfl,h0,HB.out,Below.refl _ _⟩
 case round =>
  obtain⟨j,Φ,hj,rfl,hJ,hbn,hbl⟩:=hrel
  by_cases hlt:j<n
  ·obtain⟨⟨e1,e2,e3⟩,hej⟩:∃ e,ev[j]? = some e:=⟨_,List.getElem?_eq_getElem (show j<ev.length by rw [HN.out];exact hlt)⟩
   obtain⟨ad,rfl,hba,g0,g1,g2⟩:=(ERow.below HR.out hbl) j _ hej
   simp only at g0 g1 g2
   obtain⟨rs,hrs⟩:=nums_step (k:=k) (v:=v) hej
   simp only at hrs
   have HT:=Lib.hid (take_enum hej)
   simp only at HT
   generalize (ev.take j).flatMap enum=pre at *
   have HP1:=Lib.hid (show pre++[e1] <+: nums ev k v from⟨e2::e3::rs,by rw [hrs];simp⟩)
   have HP2:=Lib.hid (show pre++[e1]++[e2] <+: nums ev k v from⟨e3::rs,by rw [hrs];simp⟩)
   have HP3:=Lib.hid (show pre++[e1]++[e2]++[e3] <+: nums ev k v from⟨rs,by rw [hrs];simp⟩)
   have hJ1:=hH.stay _ _ _ _ hJ ((Below.refl wr.heap.size wr).alloc (Nat.le_refl _) (.cells #[.int .i64 e1,.int .i64 e2,.int .i64 e3] 95))
   have bX:=Blk.new wr 95 #[.int .i64 e1,.int .i64 e2,.int .i64 e3]
   have bN:=hbn.alloc (.cells #[.int .i64 e1,.int .i64 e2,.int .i64 e3] 95)
   have hws:=hbl.size
   have nX:¬ (wr.heap.size=lp∨Φ wr.heap.size):=fun q=>by
    rcases q with q | q
    ·omega
    ·have:=((hH.lt _ _ _ hJ).2 _ q).2.1;omega
   have nN:¬ (Bn=lp∨Φ Bn):=fun q=>q.elim (fun z=>hp2 z.symm) (fun q=>((hH.lt _ _ _ hJ).2 _ q).2.2 rfl)
   have hbl1:=hbl.alloc (hH.lt _ _ _ hJ).1 (.cells #[.int .i64 e1,.int .i64 e2,.int .i64 e3] 95)
   have hnb:=hbn.lt
   obtain⟨fn,tmps,assign,body,hy,hR1⟩:=hY _ _ _ _ hJ1 HP1.out
   obtain⟨x0,x1,x2⟩:=bX.three
   clear hrs hej hbn hJ hbl
   gi_wp2
   refine hR1.mono ?_
   rintro e W2 ⟨rfl,Φ2,hJ2,hK2,hs2⟩
   have bX2:=bX.kept hK2 nX
   have bN2:=bN.kept hK2 nN
   have nX2:¬ (wr.heap.size=lp∨Φ2 wr.heap.size):=fun q=>by
    rcases q with q | q
    ·exact nX (.inl q)
    rcases hs2 _ q with z | z
    ·exact nX (.inr z)
    ·simp at z;omega
   have nN2:¬ (Bn=lp∨Φ2 Bn):=fun q=>q.elim (fun z=>hp2 z.symm) (fun q=>((hH.lt _ _ _ hJ2).2 _ q).2.2 rfl)
   have hbl2:=hbl1.trans (hK2.to_below (hH.lt _ _ _ hJ1).1 fun k q=>q.elim (fun z=>z▸hp1) (fun q=>((hH.lt _ _ _ hJ1).2 _ q).1))
   obtain⟨y0,y1,y2⟩:=bX2.three
   clear hy hR1 bX bN nX nN hbl1 x0 x1 x2 hK2 hs2 hJ1
   obtain⟨fn,tmps,assign,body,hy,hR2⟩:=hY _ _ _ _ hJ2 HP2.out
   gi_wp2
   refine hR2.mono ?_
   rintro e W3 ⟨rfl,Φ3,hJ3,hK3,hs3⟩
   have hl2:=bX2.lt
   have bX3:=bX2.kept hK3 nX2
   have bN3:=bN2.kept hK3 nN2
   have nX3:¬ (wr.heap.size=lp∨Φ3 wr.heap.size):=fun q=>by
    rcases q with q | q
    ·exact nX2 (.inl q)
    rcases hs3 _ q with z | z
    ·exact nX2 (.inr z)
    ·omega
   have nN3:¬ (Bn=lp∨Φ3 Bn):=fun q=>q.elim (fun z=>hp2 z.symm) (fun q=>((hH.lt _ _ _ hJ3).2 _ q).2.2 rfl)
   have hbl3:=hbl2.trans (hK3.to_below (hH.lt _ _ _ hJ2).1 fun k q=>q.elim (fun z=>z▸hp1) (fun q=>((hH.lt _ _ _ hJ2).2 _ q).1))
   obtain⟨z0,z1,z2⟩:=bX3.three
   clear hy hR2 bX2 bN2 nX2 nN2 hbl2 y0 y1 y2 hK3 hs3 hJ2 hl2
   obtain⟨fn,tmps,assign,body,hy,hR3⟩:=hY _ _ _ _ hJ3 HP3.out
   gi_wp2
   refine hR3.mono ?_
   rintro e W4 ⟨rfl,Φ4,hJ4,hK4,hs4⟩
   have bN4:=bN3.kept hK4 nN3
   have hbl4:=hbl3.trans (hK4.to_below (hH.lt _ _ _ hJ3).1 fun k q=>q.elim (fun z=>z▸hp1) (fun q=>((hH.lt _ _ _ hJ3).2 _ q).1))
   clear hy hR3 bX3 bN3 nX3 nN3 hbl3 z0 z1 z2 hK4 hs4 hJ3
   gi_wp2
   go_roundw
   case rel=>exact⟨j+1,Φ4,by omega,by go_num,by rw [HT.out];exact hJ4,bN4,hbl4⟩
   case measure=>simp [intOf];omega
  ·have hjn:j=n:=by omega
   subst hjn
   have hpre:(ev.take j).flatMap enum=ev.flatMap enum:=by rw [List.take_of_length_le (by rw [HN.out];exact Nat.le_refl _)]
   rw [hpre] at hJ
   have HP1:=Lib.hid (show ev.flatMap enum++[k] <+: nums ev k v from⟨[v],by unfold nums;simp⟩)
   have HP2:=Lib.hid (show ev.flatMap enum++[k]++[v]=nums ev k v by unfold nums;simp)
   have nN:¬ (Bn=lp∨Φ Bn):=fun q=>q.elim (fun z=>hp2 z.symm) (fun q=>((hH.lt _ _ _ hJ).2 _ q).2.2 rfl)
   have x0:=hbn.cell 0
   have x1:=hbn.cell 1
   obtain⟨fn,tmps,assign,body,hy,hR1⟩:=hY _ _ _ _ hJ HP1.out
   clear hpre
   gi_wp2
   refine hR1.mono ?_
   rintro e W2 ⟨rfl,Φ2,hJ2,hK2,hs2⟩
   have bN2:=hbn.kept hK2 nN
   have y0:=bN2.cell 0
   have y1:=bN2.cell 1
   clear hy hR1 x0 x1 hbn
   obtain⟨fn,tmps,assign,body,hy,hR2⟩:=hY _ _ _ _ hJ2 (by rw [HP2.out];exact List.prefix_refl _)
   gi_wp2
   refine hR2.mono ?_
   rintro e W3 ⟨rfl,Φ3,hJ3,-,-⟩
   gi_wp2
   go_end0
   exact⟨⟨_,rfl⟩,Φ3,by rw [← HP2.out];exact hJ3⟩
end Go.Proofs.YtekogckmgkodfaaGreatDoor.Trc
