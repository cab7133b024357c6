/-
  A region that draws its order and puts a row, and one thing more, behind an empty literal, for a box: what has been made so far, in whatever order.
-/
import Derived.Test.YtekogckmgkodfaaDoorOrdersU
import Derived.Test.YtekogckmgkodfaaDoorWireG
import Derived.Laws.AppendOwnNone
import Derived.Laws.OwnMore
import Derived.Deep.AppendLies
set_option linter.unusedVariables false
namespace Go.Proofs.YtekogckmgkodfaaDoor.RegA
open Go.RowKit Mem
structure SS (b:World) (e:TypeId) (m:Nat) (lc:Array Value) (tb:TypeId) (bz:Array Value) (v:Option (Value×Nat×List Value)) (L X:Option Nat) (W:World):Prop where
 below:Below b.heap.size b W
 own:∀ u n xs,v=some (u,n,xs)→W.ownsRow b.heap.size e m u n xs
 lit:∀ g,L=some g→b.heap.size≤g∧Blk W g e lc∧∀ u n xs,v=some (u,n,xs)→u.ownBlock≠some g
 box:∀ h,X=some h→b.heap.size≤h∧Blk W h tb bz∧(∀ u n xs,v=some (u,n,xs)→u.ownBlock≠some h)∧L≠some h
section
variable {b:World} {e:TypeId} {m:Nat} {lc:Array Value} {tb:TypeId} {bz:Array Value} {v:Option (Value×Nat×List Value)} {L X:Option Nat} {W:World}
theorem SS.start:SS b e m lc tb bz none none none b:=⟨Below.refl _ _,(fun _ _ _ h=>by cases h),(fun _ h=>by cases h),fun _ h=>by cases h⟩
theorem SS.drew(h:SS b e m lc tb bz v L X W):SS b e m lc tb bz v L X W.drew:=⟨h.below.drew,h.own,h.lit,h.box⟩
theorem SS.empty(h:SS b e m lc tb bz none L X W):SS b e m lc tb bz (some (.slice (some ⟨W.heap.size,0,none⟩) 0 0,0,[])) L X (W.alloc (.cells #[] e)):=by
 have hb:=h.below.size
 refine⟨h.below.alloc hb _,?_,fun g hg=>?_,fun g hg=>?_⟩
 ·rintro u n xs ⟨⟩
  exact⟨by simp,.inr ⟨W.heap.size,0,#[],rfl,hb,Blk.new W e #[],Nat.le_refl _,by simp,by simp,by simp⟩⟩
 ·obtain⟨h1,h2,-⟩:=h.lit g hg
  refine⟨h1,h2.alloc _,?_⟩
  rintro u n xs ⟨⟩ q
  have:=Option.some.inj q
  have:=h2.lt
  simp only at *
  omega
 ·obtain⟨h1,h2,-,h4⟩:=h.box g hg
  refine⟨h1,h2.alloc _,?_,h4⟩
  rintro u n xs ⟨⟩ q
  have:=Option.some.inj q
  have:=h2.lt
  simp only at *
  omega
theorem SS.one(h:SS b e m lc tb bz v none X W):SS b e m lc tb bz v (some W.heap.size) X (W.alloc (.cells lc e)):=by
 have hb:=h.below.size
 refine⟨h.below.alloc hb _,fun u n xs q=>(h.own u n xs q).alloc _,fun g hg=>?_,fun g hg=>?_⟩
 ·cases hg
  exact⟨hb,Blk.new W e lc,fun u n xs q r=>by have:=((h.own u n xs q).lt _ r).2;omega⟩
 ·obtain⟨h1,h2,h3,-⟩:=h.box g hg
  exact⟨h1,h2.alloc _,h3,fun r=>by have:=Option.some.inj r;have:=h2.lt;omega⟩
theorem SS.boxed(h:SS b e m lc tb bz v L none W):SS b e m lc tb bz v L (some W.heap.size) (W.alloc (.cells bz tb)):=by
 have hb:=h.below.size
 refine⟨h.below.alloc hb _,fun u n xs q=>(h.own u n xs q).alloc _,fun g hg=>?_,fun g hg=>?_⟩
 ·obtain⟨h1,h2,h3⟩:=h.lit g hg
  exact⟨h1,h2.alloc _,h3⟩
 ·cases hg
  refine⟨hb,Blk.new W tb bz,fun u n xs q r=>by have:=((h.own u n xs q).lt _ r).2;omega,fun r=>?_⟩
  have:=(h.lit _ r).2.1.lt
  omega
theorem SS.app{u u':Value}{n n':Nat}{xs ys:List Value}{W':World}(h:SS b e m lc tb bz (some (u,n,xs)) L X W)(hg:W.grownBy W' u.ownBlock)(ho:W'.ownsRow b.heap.size e m u' n' ys)(ha:u'.ownBlock=u.ownBlock∨u'.ownBlock=some W.heap.size) :
  SS b e m lc tb bz (some (u',n',ys)) L X W':=by
 have hO:=h.own u n xs rfl
 have far:∀ g,g<W.heap.size→u.ownBlock≠some g→u'.ownBlock≠some g:=fun g h1 h2 h3=>by
  rcases ha with q | q
  ·exact h2 (q▸h3)
  ·rw [q] at h3;have:=Option.some.inj h3;omega
 refine⟨h.below.grown hg h.below.size (fun k q=>(hO.lt k q).1),?_,fun g hg'=>?_,fun g hg'=>?_⟩
 ·rintro u n xs ⟨⟩
  exact ho
 ·obtain⟨h1,h2,h3⟩:=h.lit g hg'
  refine⟨h1,h2.grown hg (fun q=>h3 _ _ _ rfl q.symm),?_⟩
  rintro u n xs ⟨⟩
  exact far g h2.lt (h3 _ _ _ rfl)
 ·obtain⟨h1,h2,h3,h4⟩:=h.box g hg'
  refine⟨h1,h2.grown hg (fun q=>h3 _ _ _ rfl q.symm),?_,h4⟩
  rintro u n xs ⟨⟩
  exact far g h2.lt (h3 _ _ _ rfl)
end
theorem SS.put{P:Program}{ops:Array Oper}{o:Oper}{a:Act}{K:Act→World→Prop}{Q:Exit→Act→World→Prop}{E:Prop}{b:World}{e:TypeId}{m:Nat}{lc:Array Value}{tb:TypeId}{bz:Array Value}{L X:Option Nat}{W:World}{u:Value}{n:Nat}{xs:List Value}
  (h:SS b e m lc tb bz (some (u,n,xs)) L X W) (hgd:o.guard=none) (s x:Operand) (t:TypeId) (ho:o.op=.call { callee:=.builtin .append,args:=#[s,x],argTypes:=#[t,t] })
  (i:TypeInfo) (z:Value) (bytes:Nat) (ht:P.underlying t=some (.slice e)) (hi:P.info? e=some i) (hz:i.zero=some z) (hsize:i.size=m) (hby:i.bytes=bytes) (hzs:z.cells.size=m) (hsz:0<m)
  (hs:a.eval s=u) (A:Option Addr) (k c:Nat) (news:List Value) (hx:a.eval x=.slice A k c) (hA:A=none→c=0∧k=0) (hl:news.length=k*m) (hnews:∀ ad,A=some ad→∀ j y,news[j]? = some y→W.cell? (ad.add j)=some y) (h1:∀ y∈news,y.oneCell'=true)
  (h63:n+k≤maxLen) (hb:(n+k)*bytes≤140737488355328) (N:Nat) (hN:n+k=N) (ys:List Value) (hys:xs++news=ys)
  (hK:∀ A' c' W',SS b e m lc tb bz (some (.slice A' N c',N,ys)) L X W'→K (a.put o.dst (.slice A' N c')) W') :
  if Region.wanted o (yielded ops a.tmps)=true then Oper.wp P o a W K Q else E:=by
 have hw:Region.wanted o (yielded ops a.tmps)=true:=by simp [Region.wanted,hgd]
 rw [if_pos hw]
 subst hN hys
 cases A with
 | none =>
  obtain⟨rfl,rfl⟩:=hA rfl
  obtain rfl:news=[]:=List.eq_nil_of_length_eq_zero (by omega)
  have hrun:=run_append_owned_none (P:=P) (w:=W) b.heap.size t o.type e i m ht hi u n xs (h.own _ _ _ rfl)
  obtain⟨A',c',rfl⟩:=Wire.owns_form (h.own _ _ _ rfl)
  unfold Oper.wp
  simp [execOp,ho,resolve,invoke,builtin,hs,hx,hrun,Result.andThen]
  exact hK A' c' W (by rw [List.append_nil];exact h)
 | some ad =>
  obtain⟨v',w',hr,hown',hg,-,hat⟩:=run_append_own_at (P:=P) W b.heap.size t o.type e i z m bytes ht hi hz hsize hby hzs hsz u n xs (h.own _ _ _ rfl) ad k c news hl (hnews ad rfl) h1 h63 hb h.below.size
  obtain⟨A',c',rfl⟩:=Wire.owns_form hown'
  unfold Oper.wp
  simp [execOp,ho,resolve,invoke,builtin,hs,hx,hr,Result.andThen]
  exact hK A' c' w' (h.app hg hown' hat)
end Go.Proofs.YtekogckmgkodfaaDoor.RegA
