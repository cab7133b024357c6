/-
  Nodes, and numbers, in a row: are two rows alike? The reference's, and the package's by slices.Equal, walked.
  Package arena, walked: lists put together, one behind the other.
  Package arena, walked: a part, and what is replaced.
  Package arena, walked: a node's kids.
  Plain facts on depths: read from the right, a node's kids' depths lie on top of a row of depths. No program is met here.
  Package arena, walked: how deep a node is, by a row of depths.
  Package arena, walked: whether nodes may be.
  The reference of arenas, walked: how deep a node is (by recursion), parts, what is replaced, whether nodes may be.
  The reference of arenas, walked: whether nodes may be.
  The laws of layer 8, walked: the document's examples.
  Arguments that are nodes, one by value or a slice of them: what they hold.
  Plain facts on nodes: whatever is told of a node by itself and by what is told of its kids, is told by the part alone; a part that tells the same may stand instead. No program is met here.
-/
import Derived.Test.YtodejloonfkkmaaGreatArenaG
import Derived.Deep.QuietTactic
import Derived.Laws.AppendOwnNone
import Derived.Deep.RegionHeld3
import Derived.Deep.DrawnRows
import Derived.Laws.MakeOwn
import Derived.Laws.OwnMore
import Derived.Deep.AppendLies
import Derived.WalkKit
import Derived.Deep.Slices
import Derived.Lib.SmallJoins
import Derived.SizedLaws
import Derived.Carry
import Derived.OpenShut
import Derived.ChangeOld
import Derived.ShutString
import Derived.ProofKit
set_option maxRecDepth 100000
set_option maxHeartbeats 4000000
set_option linter.unusedVariables false
namespace Go.Proofs.YtodejloonfkkmaaGreat.Arena
open Go.RowKit Mem
theorem take_snoc{α:Type}(xs:List α)(k:Nat)(x:α)(h:xs[k]? = some x):xs.take (k+1)=xs.take k++[x]:=by
 obtain⟨hk,rfl⟩:=List.getElem?_eq_some_iff.1 h
 rw [List.take_succ_eq_append_getElem hk]
theorem rows_differ{α:Type} [DecidableEq α]{xs ys:List α}{i:Nat}{x y:α}(hx:xs[i]? = some x)(hy:ys[i]? = some y)(h:x≠y):decide (xs=ys)=false:=by
 apply decide_eq_false
 rintro rfl
 rw [hx] at hy
 exact h (Option.some.inj hy)
theorem rows_alike{α:Type} [DecidableEq α]{xs ys:List α}{n:Nat}(h:xs.take n=ys.take n)(h1:n=xs.length)(h2:ys.length=n):decide (xs=ys)=true:=by
 apply decide_eq_true
 rwa [List.take_of_length_le (by omega),List.take_of_length_le (by omega)] at h
def IRow(w:World)(B:Nat)(A:Option Addr)(ks:List Int):Prop :=
 ∀ (i:Nat) (x:Int),ks[i]? = some x→∃ ad,A=some ad∧ad.block<B∧w.cell? (ad.add i)=some (.int .i64 x)
theorem IRow.keep{w w':World}{B:Nat}{A:Option Addr}{xs:List Int}(h:IRow w B A xs)(hb:∀ k,k<B→w'.heap[k]? = w.heap[k]?):IRow w' B A xs:=by
 intro i x hx
 obtain⟨ad,h0,h1,h3⟩:=h i x hx
 refine⟨ad,h0,h1,?_⟩
 rw [← h3]
 unfold World.cell?
 rw [add_blockN,hb _ h1]
theorem IRow.below{w w':World}{B:Nat}{A:Option Addr}{xs:List Int}(h:IRow w B A xs)(hb:Below B w w'):IRow w' B A xs:=h.keep hb.block
theorem IRow.at{w w':World}{A:Option Addr}{xs:List Int}(h:IRow w w.heap.size A xs)(hb:Below w.heap.size w w'):IRow w' w'.heap.size A xs:=by
 intro i x hx
 obtain⟨ad,e,hlt,r⟩:=(IRow.below h hb) i x hx
 exact⟨ad,e,Nat.lt_of_lt_of_le hlt hb.size,r⟩
def ncells(xs:List Nd):List Value:=xs.flatMap fun x=>[Value.int .i64 x.1,.int .i64 x.2]
theorem ncells_append(xs ys:List Nd):ncells (xs++ys)=ncells xs++ncells ys:=by simp [ncells]
theorem ncells_len(xs:List Nd):(ncells xs).length=xs.length*2:=by
 induction xs with
 | nil=>rfl
 | cons x l ih=>rw [show ncells (x::l)=[Value.int .i64 x.1,.int .i64 x.2]++ncells l from rfl,List.length_append,ih,List.length_cons];simp;omega
theorem ncells_get:∀ (xs:List Nd) (i:Nat) (x:Nd),xs[i]? = some x→(ncells xs)[i*2]? = some (.int .i64 x.1)∧(ncells xs)[i*2+1]? = some (.int .i64 x.2)
 | y::l,0,x,h=>by simp at h;subst h;exact⟨rfl,rfl⟩
 | y::l,i+1,x,h=>by
  have h':l[i]? = some x:=by simpa using h
  obtain⟨a,b⟩:=ncells_get l i x h'
  rw [show ncells (y::l)=.int .i64 y.1::.int .i64 y.2::ncells l from rfl,show(i+1)*2=i*2+1+1 by omega,List.getElem?_cons_succ,List.getElem?_cons_succ]
  exact⟨a,by rw [List.getElem?_cons_succ,List.getElem?_cons_succ];exact b⟩
theorem ncells_at:∀ (xs:List Nd) (j:Nat) (u:Value),(ncells xs)[j]? = some u→∃ x,xs[j / 2]? = some x∧u=.int .i64 (if j%2=0 then x.1 else x.2)
 | [],j,u,h=>by simp [ncells] at h
 | y::l,0,u,h=>by
  rw [show ncells (y::l)=.int .i64 y.1::.int .i64 y.2::ncells l from rfl] at h
  simp at h;exact⟨y,rfl,h.symm⟩
 | y::l,1,u,h=>by
  rw [show ncells (y::l)=.int .i64 y.1::.int .i64 y.2::ncells l from rfl] at h
  simp at h;exact⟨y,rfl,h.symm⟩
 | y::l,j+2,u,h=>by
  rw [show ncells (y::l)=.int .i64 y.1::.int .i64 y.2::ncells l from rfl,List.getElem?_cons_succ,List.getElem?_cons_succ] at h
  obtain⟨x,h1,h2⟩:=ncells_at l j u h
  refine⟨x,?_,?_⟩
  ·rw [show(j+2) / 2=j / 2+1 by omega,List.getElem?_cons_succ];exact h1
  ·rw [show(j+2)%2=j%2 by omega];exact h2
theorem add_off(a:Addr)(j:Nat)(h:0<j):a.add j=⟨a.block,a.off+j,none⟩:=by unfold Addr.add;rw [if_neg (by omega)]
theorem add_add(a:Addr)(i j:Nat):(a.add i).add j=a.add (i+j):=by
 unfold Addr.add
 by_cases hj:j=0
 ·subst hj;simp
 ·by_cases hi:i=0
  ·subst hi;simp
  ·rw [if_neg hi,if_neg hj,if_neg (by omega)];simp;omega
theorem Nodes.cells{w:World}{B:Nat}{ad:Addr}{xs:List Nd}(h:Nodes w B (some ad) xs):∀ j u,(ncells xs)[j]? = some u→w.cell? (ad.add j)=some u:=by
 intro j u hu
 obtain⟨x,h1,rfl⟩:=ncells_at xs j u hu
 obtain⟨ad',e,-,h3,h4⟩:=h _ _ h1
 cases e
 by_cases hj:j%2=0
 ·rw [if_pos hj]
  rwa [show j / 2*2=j by omega] at h3
 ·rw [if_neg hj]
  have:ad.add j=⟨(ad.add (j / 2*2)).block,(ad.add (j / 2*2)).off+1,none⟩:=by
   rw [add_off ad j (by omega)]
   by_cases h0:j / 2*2=0
   ·rw [h0];simp [Addr.add];omega
   ·rw [add_off ad _ (by omega)];simp;omega
  rw [this];exact h4
theorem Nodes.nil(w:World)(B:Nat)(A:Option Addr):Nodes w B A []:=fun i x h=>by simp at h
theorem Nodes.empty{w:World}{B:Nat}{xs:List Nd}(h:Nodes w B none xs):xs=[]:=by
 cases xs with
 | nil=>rfl
 | cons x l=>obtain⟨ad,e,-⟩:=h 0 x rfl;cases e
theorem Nodes.part{w:World}{B:Nat}{ad:Addr}{xs:List Nd}(h:Nodes w B (some ad) xs)(k n:Nat):Nodes w B (some (ad.add (k*2))) ((xs.drop k).take n):=by
 intro i x hi
 have hx:xs[k+i]? = some x:=by
  have hin:i<n:=by
   rcases Nat.lt_or_ge i n with q | q
   ·exact q
   ·rw [List.getElem?_eq_none (by rw [List.length_take];omega)] at hi;cases hi
  rwa [List.getElem?_take_of_lt hin,List.getElem?_drop] at hi
 obtain⟨ad',e,h1,h3,h4⟩:=h _ _ hx
 cases e
 refine⟨_,rfl,by rw [add_blockN];exact h1,?_,?_⟩
 ·rw [add_add,← Nat.add_mul];exact h3
 ·rw [add_add,← Nat.add_mul];exact h4
theorem info_node:(Tryz.prog.info? 47).map (fun i=>(i.zero,i.size,i.bytes))=some (some (.agg #[.int .i64 0,.int .i64 0]),2,16):=by kernel_rfl
theorem own_nodes{w:World}{base:Nat}{v:Value}{xs:List Nd}(h:w.ownsRow base 47 2 v xs.length (ncells xs)) :
  ∃ A c,v=.slice A xs.length c∧xs.length≤c∧(A=none→c=0)∧Nodes w w.heap.size A xs:=by
 have hc:=fun g hg=>h.cells (g:=g) hg
 rcases h.2 with⟨rfl,h0⟩ | ⟨g,cap,cur,rfl,-,hg,hn,-⟩
 ·obtain rfl:=List.length_eq_zero_iff.1 h0
  exact⟨none,0,rfl,Nat.le_refl _,fun _=>rfl,Nodes.nil _ _ _⟩
 ·refine⟨_,_,rfl,hn,fun e=>by simp at e,fun i x hx=>⟨_,rfl,(Array.getElem?_eq_some_iff.1 hg).1,?_,?_⟩⟩
  ·exact hc g rfl _ _ (ncells_get xs i x hx).1
  ·have:=hc g rfl _ _ (ncells_get xs i x hx).2
   rw [add_off _ _ (by omega)] at this
   rw [← this]
   congr 1
   rcases Nat.eq_zero_or_pos i with rfl | hi
   ·simp [Addr.add]
   ·rw [add_off _ _ (by omega)];simp
theorem append_nodes{w:World}{ops:Array Oper}{rest:List Oper}{o:Oper}{a:Act}{Q:Exit→Act→World→Prop}(hgd:o.guard=none)(s x:Operand)
  (ho:o.op=.call { callee:=.builtin .append,args:=#[s,x],argTypes:=#[23,23] })
  (base:Nat) (hbase:base≤w.heap.size) (v:Value) (ys:List Nd) (hs:a.eval s=v) (hown:w.ownsRow base 47 2 v ys.length (ncells ys))
  (B:Nat) (A:Option Addr) (c:Nat) (xs:List Nd) (n:Nat) (hn:xs.length=n) (hx:a.eval x=.slice A n c) (hA:A=none→c=0) (hN:Nodes w B A xs) (hlen:ys.length+xs.length≤100000000)
  (h:∀ v' w',w'.ownsRow base 47 2 v' (ys++xs).length (ncells (ys++xs))→w.grownBy w' v.ownBlock→(v'.ownBlock=v.ownBlock∨v'.ownBlock=some w.heap.size)→wpList Tryz.prog ops Q rest (a.put o.dst v') w') :
  wpList Tryz.prog ops Q (o::rest) a w:=by
 subst hn
 obtain⟨ig,hig,hz0,hz1,hz2⟩:=info_parts info_node
 cases A with
 | none =>
  obtain rfl:=hN.empty
  obtain rfl:=hA rfl
  refine wpList_append_own_none hgd s x 23 ho base 47 ig 2 Tryz.underlying23 hig v ys.length (ncells ys) hs hown hx ?_
  refine h v w ?_ ⟨rfl,rfl,rfl,Nat.le_refl _,fun _ _ _=>rfl⟩ (.inl rfl)
  rw [List.append_nil];exact hown
 | some ad =>
  refine wpList_append_own_at _ hgd s x 23 ho base 47 ig _ 2 16 Tryz.underlying23 hig hz0 hz1 hz2 rfl (by decide) v ys.length (ncells ys) hs hown ad xs.length c (ncells xs) hx (ncells_len xs) hN.cells ?_ (by simp only [maxLen];omega) (by omega) hbase ?_
  ·intro u hu
   obtain⟨j,hj⟩:=List.getElem?_of_mem hu
   obtain⟨x,-,rfl⟩:=ncells_at xs j u hj
   rfl
  ·intro v' w' hown' hg _ hat
   refine h v' w' ?_ hg hat
   rw [List.length_append,ncells_append];exact hown'
def NodesEnds(ys:List Nd)(w:World)(e:Ending)(w':World):Prop :=
 Below w.heap.size w w'∧∃ A c,e=.returned (.slice A ys.length c)∧ys.length≤c∧(A=none→c=0)∧Nodes w' w'.heap.size A ys
structure Sl where
 A:Option Addr
 c:Nat
 xs:List Nd
def Sl.val(l:Sl):Value:=.slice l.A l.xs.length l.c
def Sl.Ok(w:World)(B:Nat)(l:Sl):Prop:=(l.A=none→l.c=0)∧Nodes w B l.A l.xs
def allOf(ls:List Sl):List Nd:=ls.flatMap Sl.xs
theorem allOf_snoc(ls:List Sl)(k:Nat)(l:Sl)(h:ls[k]? = some l):allOf (ls.take (k+1))=allOf (ls.take k)++l.xs:=by
 rw [take_snoc ls k l h];simp [allOf]
theorem allOf_take_le(ls:List Sl)(k:Nat):(allOf (ls.take k)).length≤(allOf ls).length:=by
 have:allOf ls=allOf (ls.take k)++allOf (ls.drop k):=by
  conv=>lhs;rw [← List.take_append_drop k ls]
  unfold allOf
  rw [List.flatMap_append]
 rw [this,List.length_append];omega
theorem together_any(g:Nat)(ls:List Sl)(w:World)(hg:Blk w g 23 (ls.map Sl.val).toArray)(hls:∀ l∈ls,l.Ok w w.heap.size)(hl:(allOf ls).length≤50000000)(hn:ls.length≤1000) :
  Calls Tryz.prog 148 #[.slice (some ⟨g,0,none⟩) ls.length ls.length] w (NodesEnds (allOf ls) w):=by
 have HG:=Lib.hid hg
 have HS:=Lib.hid hls
 clear hg hls
 have hgl:=HG.out.lt
 go_enter Tryz.func148,Tryz.ntmps148
 go_wp2
 go_loopw [3,8] (fun v i wr=>∃ k:Nat,k≤ls.length∧i=.int .i64 k∧wr.ownsRow w.heap.size 47 2 v (allOf (ls.take k)).length (ncells (allOf (ls.take k)))∧Below w.heap.size w wr) (fun _ i _=>ls.length-(intOf i).toNat)
 case atStart=>exact⟨0,by omega,rfl,World.ownsRow_nil _ _ _ _,Below.refl _ _⟩
 case round =>
  obtain⟨k,hk,rfl,hO,hB⟩:=hrel
  by_cases hlt:k<ls.length
  ·obtain⟨l,hlk⟩:∃ l,ls[k]? = some l:=⟨_,List.getElem?_eq_getElem hlt⟩
   have hb:=(HG.out.below hB hgl)
   have hcell:wr.cell? ⟨g,k,none⟩=some (.slice l.A l.xs.length l.c):=by
    rw [hb.cell k];simp [hlk];rfl
   obtain⟨hA,hN⟩:=HS.out l (List.mem_of_getElem? hlk)
   have hN':=hN.below hB
   have hsn:=allOf_snoc ls k l hlk
   have hle:=allOf_take_le ls (k+1)
   rw [hsn,List.length_append] at hle
   have j1:(k:Int)<(ls.length:Int):=by omega
   have HSN:=Lib.hid hsn
   have hrow:=fun i (hi:u3.ownBlock=some i)=>(hO.lt i hi).1
   clear hlk hN hsn
   go_wp2_with (at_builtin;refine append_nodes rfl _ _ rfl w.heap.size hB.size _ _ rfl hO w.heap.size l.A l.c l.xs _ rfl rfl hA hN' (by omega) ?_;intro v7 w7 hown hgr _;have hB7:Below w.heap.size w w7:=hB.grown hgr hB.size hrow)
   go_roundw
   case rel=>exact⟨k+1,by omega,by go_num,by rw [HSN.out];exact hown,hB7⟩
   case measure=>simp [intOf];omega
  ·have hk9:k=ls.length:=by omega
   subst hk9
   rw [List.take_length] at hO
   obtain⟨A,c,rfl,hc,hA,hN⟩:=own_nodes hO
   have j1:¬ (ls.length:Int)<(ls.length:Int):=by omega
   go_wp2
   go_ret
   exact⟨hB,A,c,rfl,hc,hA,hN⟩
end Go.Proofs.YtodejloonfkkmaaGreat.Arena
namespace Go.Proofs.YtodejloonfkkmaaGreat.Arena
open Go.RowKit Mem
attribute [local go_sem ↓] Go.wp_at_zero Go.wp_at_succ
theorem NodesEnds.from{ys:List Nd}{w w1 w2:World}{e:Ending}(h:NodesEnds ys w1 e w2)(hb:Below w.heap.size w w1):Below w.heap.size w w2∧∃ A c,e=.returned (.slice A ys.length c)∧ys.length≤c∧(A=none→c=0)∧Nodes w2 w2.heap.size A ys :=
 ⟨hb.trans (h.1.mono hb.size),h.2⟩
theorem together_one(A:Option Addr)(c:Nat)(xs:List Nd)(n:Nat)(hn:xs.length=n)(w:World)(hA:A=none→c=0)(hx:Nodes w w.heap.size A xs)(hl:xs.length≤1000000) :
  Calls Tryz.prog 148 #[.slice (some ⟨w.heap.size,0,none⟩) 1 1] (w.alloc (.cells #[.slice A n c] 23)) (NodesEnds xs w):=by
 subst hn
 have hb:Below w.heap.size w (w.alloc (.cells #[.slice A xs.length c] 23)):=(Below.refl _ _).alloc (Nat.le_refl _) _
 have h:=together_any w.heap.size [⟨A,c,xs⟩] _ (Blk.new w 23 #[.slice A xs.length c]) (fun l hl=>by
  rw [List.mem_singleton] at hl;subst hl;exact⟨hA,hx.at hb⟩) (by simp [allOf];omega) (by simp)
 rw [show allOf [⟨A,c,xs⟩]=xs by simp [allOf]] at h
 exact h.mono (fun e w' h=>h.from hb)
set_option linter.unusedVariables false
theorem Nodes.front{w:World}{B:Nat}{ad:Addr}{xs:List Nd}(h:Nodes w B (some ad) xs)(k:Nat):Nodes w B (some ad) (xs.take k):=by
 have:=h.part 0 k
 simpa [Addr.add] using this
theorem Nodes.back{w:World}{B:Nat}{ad:Addr}{xs:List Nd}(h:Nodes w B (some ad) xs)(k cap:Nat)(hc:xs.length≤cap):Nodes w B (if cap=k then some ad else some (ad.add (k*2))) (xs.drop k):=by
 by_cases hk:cap=k
 ·rw [List.drop_eq_nil_of_le (by omega)];exact Nodes.nil _ _ _
 ·rw [if_neg hk]
  have:=h.part k (xs.length-k)
  rwa [List.take_of_length_le (by rw [List.length_drop];omega)] at this
theorem together_three(A1:Option Addr)(c1:Nat)(xs1:List Nd)(n1:Nat)(h1:xs1.length=n1)(A2:Option Addr)(c2:Nat)(xs2:List Nd)(A3:Option Addr)(c3:Nat)(xs3:List Nd)(n3:Nat)(h3:xs3.length=n3)(w:World)
  (hA1:A1=none→c1=0) (hx1:Nodes w w.heap.size A1 xs1) (hA2:A2=none→c2=0) (hx2:Nodes w w.heap.size A2 xs2) (hA3:A3=none→c3=0) (hx3:Nodes w w.heap.size A3 xs3) (hl1:xs1.length≤1000000) (hl2:xs2.length≤1000000) (hl3:xs3.length≤1000000) :
  Calls Tryz.prog 148 #[.slice (some ⟨w.heap.size,0,none⟩) 3 3] (w.alloc (.cells #[.slice A1 n1 c1,.slice A2 xs2.length c2,.slice A3 n3 c3] 23)).drew (NodesEnds (xs1++(xs2++xs3)) w):=by
 subst h1 h3
 have hb:Below w.heap.size w (w.alloc (.cells #[.slice A1 xs1.length c1,.slice A2 xs2.length c2,.slice A3 xs3.length c3] 23)).drew:=((Below.refl _ _).alloc (Nat.le_refl _) _).drew
 have h:=together_any w.heap.size [⟨A1,c1,xs1⟩,⟨A2,c2,xs2⟩,⟨A3,c3,xs3⟩] _ (Blk.drew (Blk.new w 23 #[.slice A1 xs1.length c1,.slice A2 xs2.length c2,.slice A3 xs3.length c3])) (fun l hl=>by
  simp only [List.mem_cons,List.not_mem_nil,or_false] at hl
  rcases hl with rfl | rfl | rfl
  ·exact⟨hA1,hx1.at hb⟩
  ·exact⟨hA2,hx2.at hb⟩
  ·exact⟨hA3,hx3.at hb⟩) (by simp [allOf];omega) (by simp)
 rw [show allOf [⟨A1,c1,xs1⟩,⟨A2,c2,xs2⟩,⟨A3,c3,xs3⟩]=xs1++(xs2++xs3) by simp [allOf]] at h
 exact h.mono (fun e w' h=>h.from hb)
theorem Replace_any(A:Option Addr)(cap:Nat)(xs:List Nd)(a:Int)(A':Option Addr)(cap':Nat)(ms:List Nd)(w:World)(hx:Nodes w w.heap.size A xs)(hA:A=none→cap=0)(hcap:xs.length≤cap)(hl:xs.length≤1000000)
  (hm:Nodes w w.heap.size A' ms) (hA':A'=none→cap'=0) (hl':ms.length≤1000000) :
  Calls Tryz.prog 133 #[.slice A xs.length cap,.int .i64 a,.slice A' ms.length cap'] w (NodesEnds (arep xs a ms) w):=by
 have HE:=Lib.hid (fun W hW=>End_any A cap xs a W hW hl)
 have HX:=Lib.hid hx
 have HM:=Lib.hid hm
 clear hx hm
 rcases aend_cases xs a with he | ⟨k,n,rfl,hs,he,hn1,hn2⟩
 ·have hp:arep xs a ms=xs:=by unfold arep;rw [if_pos (by omega)]
  rw [hp]
  rw [he] at HE
  have HP:=Lib.hid (fun W (hW:Nodes W W.heap.size A xs)=>together_one A cap xs xs.length rfl W hA hW hl)
  clear he hp
  go_enter Tryz.func133,Tryz.ntmps133
  go_wp2_with (first
   | (go_at_call 51;refine(HE.out _ HX.out).mono ?_;rintro e w1 ⟨rfl,hb1⟩)
   | (go_at_call 148;refine(HP.out _ (HX.out.at hb1)).mono ?_;rintro e w2 h2;obtain⟨hb2,A2,c2,rfl,hc2,hA2,hN2⟩:=h2.from hb1))
  go_ret
  exact⟨hb2,A2,c2,rfl,hc2,hA2,hN2⟩
 ·have hp:=rep_is hs ms
  rw [hp]
  rw [he] at HE
  have hne:((k:Int)+(n:Int) == -1)=false:=by rw [beq_eq_false_iff_ne];omega
  obtain⟨x,hxk⟩:∃ x,xs[k]? = some x:=⟨_,List.getElem?_eq_getElem (by omega)⟩
  obtain⟨ad,rfl,-⟩:=HX.out k x hxk
  obtain⟨to,hto⟩:∃ to,k+n=to:=⟨_,rfl⟩
  have hto2:(k:Int)+(n:Int)=(to:Int):=by omega
  rw [hto2] at hne HE
  rw [hto]
  have i1:(0:Int)≤(k:Int):=by omega
  have i2:(k:Int)≤(cap:Int):=by omega
  have i3:(0:Int)≤(to:Int):=by omega
  have i4:(to:Int)≤(xs.length:Int):=by omega
  have l1:(xs.take k).length=k:=by rw [List.length_take];omega
  have l2:(xs.drop to).length=xs.length-to:=by rw [List.length_drop]
  have HP:=Lib.hid (fun W (hW:Nodes W W.heap.size (some ad) xs) (hW':Nodes W W.heap.size A' ms)=>together_three (some ad) cap (xs.take k) k l1 A' cap' ms (if cap=to then some ad else some (ad.add (to*2))) (cap-to) (xs.drop to) (xs.length-to) l2 W (fun e=>by simp at e) (hW.front k) hA' hW' (fun e=>by split at e<;>simp at e) (hW.back to cap hcap) (by omega) hl' (by omega))
  generalize xs.take k++(ms++xs.drop to)=R at *
  clear he hp hxk hs l1 l2 hto2 hto
  by_cases hct:cap=to
  ·subst hct
   rw [if_pos rfl,show xs.length-cap=0 by omega,Nat.sub_self] at HP
   go_enter Tryz.func133,Tryz.ntmps133
   go_wp2_with (first
    | (go_at_call 51;refine(HE.out _ HX.out).mono ?_;rintro e w1 ⟨rfl,hb1⟩))
   go_region_held3 (fun _=>True) (trivial) (first
    | (go_at_call 148;with_reducible refine(HP.out _ (HX.out.at hb1) (HM.out.at hb1)).mono ?_;rintro e w2 h2;obtain⟨hb2,A2,c2,rfl,hc2,hA2,hN2⟩:=h2.from hb1))
   go_wp2
   go_ret
   exact⟨hb2,A2,c2,rfl,hc2,hA2,hN2⟩
  ·rw [if_neg hct] at HP
   go_enter Tryz.func133,Tryz.ntmps133
   go_wp2_with (first
    | (go_at_call 51;refine(HE.out _ HX.out).mono ?_;rintro e w1 ⟨rfl,hb1⟩))
   go_region_held3 (fun _=>True) (trivial) (first
    | (go_at_call 148;with_reducible refine(HP.out _ (HX.out.at hb1) (HM.out.at hb1)).mono ?_;rintro e w2 h2;obtain⟨hb2,A2,c2,rfl,hc2,hA2,hN2⟩:=h2.from hb1))
   go_wp2
   go_ret
   exact⟨hb2,A2,c2,rfl,hc2,hA2,hN2⟩
end Go.Proofs.YtodejloonfkkmaaGreat.Arena
namespace Go.Proofs.YtodejloonfkkmaaGreat.Arena
open Go.RowKit Mem
theorem own_ints{w:World}{base:Nat}{v:Value}{ks:List Int}(h:w.ownsRow base 3 1 v ks.length (icells ks)) :
  ∃ A c,v=.slice A ks.length c∧IRow w w.heap.size A ks∧∀ ad,A=some ad→base≤ad.block:=by
 have hc:=fun g hg=>h.cells (g:=g) hg
 rcases h.2 with⟨rfl,h0⟩ | ⟨g,cap,cur,rfl,hbg,hg,hn,-⟩
 ·obtain rfl:=List.length_eq_zero_iff.1 h0
  exact⟨none,0,rfl,fun i x h=>by simp at h,fun ad e=>by cases e⟩
 ·refine⟨_,_,rfl,fun i x hx=>⟨_,rfl,(Array.getElem?_eq_some_iff.1 hg).1,?_⟩,fun ad e=>by cases e;exact hbg⟩
  exact hc g rfl _ _ (by unfold icells;rw [List.getElem?_map,hx];rfl)
def IntsEnds(ks:List Int)(w:World)(e:Ending)(w':World):Prop :=
 Below w.heap.size w w'∧∃ A c,e=.returned (.slice A ks.length c)∧IRow w' w'.heap.size A ks∧∀ ad,A=some ad→w.heap.size≤ad.block
theorem icells_set(done:List Int)(p:Int)(m:Nat):(icells (done++List.replicate (m+1) 0)).set done.length (.int .i64 p)=icells ((done++[p])++List.replicate m 0):=by
 unfold icells
 rw [List.replicate_succ]
 simp
theorem Kids_anyL(A:Option Addr)(cap:Nat)(xs:List Nd)(a:Int)(w:World)(hx:Nodes w w.heap.size A xs)(hl:xs.length≤10000000000000) :
  Calls Tryz.prog 128 #[.slice A xs.length cap,.int .i64 a] w (IntsEnds (akids xs a) w):=by
 have HX:=Lib.hid hx
 have HE:=Lib.hid (fun b W hW=>End_anyL A cap xs b W hW hl)
 clear hx
 rcases aend_cases xs a with he | ⟨k0,n,rfl,hs,he,hn1,hn2⟩
 ·rw [kids_neg (by omega)]
  have HE0:=Lib.hid (fun W (hW:Nodes W W.heap.size A xs)=>HE.out a W hW)
  rw [he] at HE0
  clear he HE
  go_enter Tryz.func128,Tryz.ntmps128
  go_wp2_with (go_at_call 51;refine(HE0.out _ HX.out).mono ?_;rintro e w1 ⟨rfl,hb1⟩)
  go_ret
  exact⟨hb1,none,0,rfl,fun i x h=>by simp at h,fun ad e=>by cases e⟩
 ·obtain⟨x,hxk,h0,hk,-,-,-⟩:=node_kids hs
  obtain⟨c,hc⟩:=Int.eq_ofNat_of_zero_le h0
  rw [hc,Int.toNat_natCast] at hk
  have hc2:=(ar_le x).2
  have hc200:c≤200:=by omega
  have HK:=Lib.hid hk
  have HE0:=Lib.hid (fun W (hW:Nodes W W.heap.size A xs)=>HE.out (k0:Int) W hW)
  rw [he] at HE0
  have hne:((k0:Int)+(n:Int) == -1)=false:=by rw [beq_eq_false_iff_ne];omega
  have v1:IntKind.i64.wrap ((k0:Int)+1)=(k0:Int)+1:=IntWalk.i64_in _ (by omega)
  have i1:(k0:Int)<(xs.length:Int):=by omega
  have i2:(0:Int)≤(k0:Int):=by omega
  have HA:=Lib.hid (fun W=>Arity_any x.1 x.2 W)
  rw [show ar (x.1,x.2)=(c:Int) from hc] at HA
  obtain⟨ig,hig,hz0,hz1,hz2⟩:=info_parts info_int
  have hmk:∀ W:World,(Instr.makeSlice 22 (.int .i64 (c:Int)) (.int .i64 (c:Int))).run Tryz.prog W=.ok (.slice (some ⟨W.heap.size,0,none⟩) c c) (W.alloc (.cells (madeCells #[.int .i64 0] c) 3)):=fun W=>by
   have:=run_make (P:=Tryz.prog) W 22 3 ig _ Tryz.underlying22 hig hz0 .i64 .i64 (c:Int) (c:Int) (by omega) (by omega) (by rw [hz2];omega) (by omega)
   rw [hz1,Int.toNat_natCast,Nat.mul_one] at this
   exact this
  rw [show((k0+1:Nat):Int)=(k0:Int)+1 by omega] at HK
  obtain⟨ad,rfl,hbk,h0',h1'⟩:=HX.out k0 x hxk
  have HXK:=Lib.hid hxk
  clear he hk hc hxk h0 hs
  go_enter Tryz.func128,Tryz.ntmps128
  go_wp2_with (first
   | (go_at_call 51;refine(HE0.out _ HX.out).mono ?_;rintro e w1 ⟨rfl,hb1⟩;obtain⟨ad',q,hbk',g0,g1⟩:=(HX.out.below hb1) k0 x HXK.out;cases q)
   | (go_at_call 52;refine(HA.out _).mono ?_;rintro e w2 ⟨rfl,hb2⟩))
  have hB2:=hb1.trans (hb2.mono hb1.size)
  have hO:=World.ownsRow_lit (e:=3) (size:=1) (base:=w.heap.size) w2 (madeCells #[.int .i64 0] c) c hB2.size (by simp only [maxLen];omega) (by rw [size_madeCells,Nat.mul_one])
  have hB3:=hB2.alloc hB2.size (.cells (madeCells #[.int .i64 0] c) 3)
  rw [toList_madeCells_one] at hO
  obtain⟨g,hg⟩:∃ g,w2.heap.size=g:=⟨_,rfl⟩
  rw [hg] at hO ⊢
  have hgb:w.heap.size≤g:=hg▸hB2.size
  generalize w2.alloc (.cells (madeCells #[.int .i64 0] c) 3)=w3 at *
  clear hmk HE0 HA hb1 hb2 hB2 hg g0 g1 h0' h1'
  go_loopw [6,22] (fun q i wr=>∃ (j:Nat) (done:List Int) (p:Int),j≤c∧i=.int .i64 j∧q=.int .i64 p∧done.length=j∧akids xs k0=done++kidsFrom xs (c-j) p∧wr.ownsRow w.heap.size 3 1 (.slice (some ⟨g,0,none⟩) c c) c (icells (done++List.replicate (c-j) 0))∧Below w.heap.size w wr) (fun _ i _=>c-(intOf i).toNat)
  case atStart=>exact⟨0,[],(k0:Int)+1,by omega,rfl,rfl,rfl,HK.out,by simpa [icells] using hO,hB3⟩
  case round =>
   obtain⟨j,done,p,hj,rfl,rfl,hdl,hdn,hO,hB⟩:=hrel
   by_cases hlt:j<c
   ·have hst:akids xs k0=(done++[p])++kidsFrom xs (c-(j+1)) (aend xs p):=by
     rw [hdn,show c-j=(c-(j+1))+1 by omega,kidsFrom,List.append_assoc];rfl
    have hcell:wr.cell? ⟨g,j,none⟩=some (.int .i64 0):=by
     rw [hO.cellAt j (by omega)]
     unfold icells
     rw [List.getElem?_map,List.getElem?_append_right (by omega),hdl,Nat.sub_self,show c-j=(c-(j+1))+1 by omega]
     rfl
    have hfz:=hO.frozenAt j
    obtain⟨hO1,hg1⟩:=hO.stored j (.int .i64 p)
    have hB1:=hB.grown hg1 hB.size (fun i e=>by cases e;exact hgb)
    rw [show c-j=(c-(j+1))+1 by omega] at hO1
    have hO2:=hO1
    rw [show(icells (done++List.replicate ((c-(j+1))+1) 0)).set j (.int .i64 p)=icells ((done++[p])++List.replicate (c-(j+1)) 0) by rw [← hdl,icells_set]] at hO2
    have HS:=Lib.hid hst
    have HDL:=Lib.hid hdl
    have j1:(j:Int)<(c:Int):=by omega
    have j2:(0:Int)≤(j:Int):=by omega
    clear hst hdn hO1 hO hdl
    go_wp2_with (first
     | (go_at_call 51;refine(HE.out _ _ (Nodes.at HX.out hB1)).mono ?_;rintro e w8 ⟨rfl,hb8⟩))
    go_roundw
    case rel=>exact⟨j+1,done++[p],_,by omega,by go_num,rfl,by rw [List.length_append,HDL.out];rfl,HS.out,own_of_block hO2 (fun i hi=>hb8.block i (hO2.lt i hi).2),hB1.trans (hb8.mono hB1.size)⟩
    case measure=>simp [intOf];omega
   ·have hj9:j=c:=by omega
    subst hj9
    have hd:akids xs k0=done:=by rw [hdn,Nat.sub_self,kidsFrom,List.append_nil]
    rw [Nat.sub_self,List.replicate_zero,List.append_nil] at hO
    have hO':=hO
    rw [← hdl] at hO'
    obtain⟨A2,c2,hv,hR,hF⟩:=own_ints hO'
    rw [hdl] at hv
    have HD:=Lib.hid hdl
    have HV:=Lib.hid hv
    have HK2:=Lib.hid hd
    have j1:¬ (j:Int)<(j:Int):=by omega
    clear hdl hv hO hO' hdn hd
    go_wp2
    go_ret
    exact⟨hB,A2,c2,by rw [HK2.out,HD.out,← HV.out];rfl,by rw [HK2.out];exact hR,hF⟩
theorem Kids_any(A:Option Addr)(cap:Nat)(xs:List Nd)(a:Int)(w:World)(hx:Nodes w w.heap.size A xs)(hl:xs.length≤1000000) :
  Calls Tryz.prog 128 #[.slice A xs.length cap,.int .i64 a] w (IntsEnds (akids xs a) w):=Kids_anyL A cap xs a w hx (by omega)
end Go.Proofs.YtodejloonfkkmaaGreat.Arena
namespace Go.Proofs.YtodejloonfkkmaaGreat.Arena
def stk:List Nd→List Nat
 | []=>[]
 | x::X=>(1+most ((stk X).take (ar x).toNat))::(stk X).drop (ar x).toNat
theorem most_append(a b:List Nat):most (a++b)=max (most a) (most b):=by
 induction a with
 | nil=>simp [most]
 | cons x a ih =>
  show max x (most (a++b))=max (max x (most a)) (most b)
  rw [ih];omega
theorem most_one(x:Nat):most [x]=x:=by simp [most]
theorem most_reverse(l:List Nat):most l.reverse=most l:=by
 induction l with
 | nil=>rfl
 | cons x l ih =>
  rw [List.reverse_cons,most_append,ih,most_one]
  show max (most l) x=max x (most l)
  omega
theorem most_le_all{l:List Nat}{n:Nat}(h:∀ x∈l,x≤n):most l≤n:=by
 induction l with
 | nil=>simp [most]
 | cons x l ih =>
  have h1:=h x (List.mem_cons_self ..)
  have h2:=ih (fun y hy=>h y (List.mem_cons_of_mem _ hy))
  show max x (most l)≤n
  omega
theorem stk_le:∀ (X:List Nd),∀ d∈stk X,d≤X.length
 | [],d,h=>by cases h
 | x::X,d,h=>by
  rw [stk] at h
  rcases List.mem_cons.1 h with rfl | h
  ·have:=most_le_all (l:=(stk X).take (ar x).toNat) (n:=X.length) (fun y hy=>stk_le X y (List.mem_of_mem_take hy))
   rw [List.length_cons];omega
  ·have:=stk_le X d (List.mem_of_mem_drop h)
   rw [List.length_cons];omega
theorem kids_add(l:List Nd):∀ (a b p n:Nat),scan a (l.drop p)=some n→kidsFrom l (a+b) (p:Int)=kidsFrom l a (p:Int)++kidsFrom l b ((p+n:Nat):Int)
 | 0,b,p,n,h=>by rw [scan_0] at h;simp at h;subst h;simp [kidsFrom]
 | a+1,b,p,n,h=>by
  rw [Nat.add_comm,scan_add] at h
  cases h1:scan 1 (l.drop p) with
  | none=>rw [h1] at h;cases h
  | some n1 =>
   rw [h1] at h
   simp only [Option.bind_some,Option.map_eq_some_iff,List.drop_drop] at h
   obtain⟨m,h2,rfl⟩:=h
   have ek:aend l (p:Int)=((p+n1:Nat):Int):=by rw [aend_some h1];omega
   rw [show a+1+b=(a+b)+1 by omega,kidsFrom,kidsFrom,ek,kids_add l a b (p+n1) m h2,List.cons_append,Nat.add_assoc]
theorem stk_kids(l:List Nd):∀ (n c j:Nat),scan c ((l.drop j).take n)=some n→stk ((l.drop j).take n)=(kidsFrom l c (j:Int)).map (adep l)
 | 0,0,j,_=>by simp [stk,kidsFrom]
 | 0,c+1,j,h=>by rw [List.take_zero,scan_nil] at h;cases h
 | n+1,0,j,h=>by rw [scan_0] at h;simp at h
 | n+1,c+1,j,h=>by
  have hle:=(scan_le _ _ _ h).2
  rw [List.length_take,List.length_drop] at hle
  have hj:j<l.length:=by omega
  have hd:l.drop j=l[j]::l.drop (j+1):=List.drop_eq_getElem_cons hj
  have hX:(l.drop j).take (n+1)=l[j]::(l.drop (j+1)).take n:=by rw [hd,List.take_succ_cons]
  have hx:0≤ar l[j]:=by
   rcases Int.lt_or_le (ar l[j]) 0 with q | q
   ·rw [hX,scan_bad q] at h;cases h
   ·exact q
  have h0:=h
  rw [hX,scan_good hx,Option.map_eq_some_iff] at h
  obtain⟨n',h,hn'⟩:=h
  obtain rfl:n'=n:=by omega
  have ih:=stk_kids l n' (c+(ar l[j]).toNat) (j+1) h
  rw [hX,stk,ih]
  rw [Nat.add_comm c 1,scan_add] at h0
  cases h1:scan 1 ((l.drop j).take (n'+1)) with
  | none=>rw [h1] at h0;cases h0
  | some m =>
   have hp:=scan_prefix _ _ _ ((((l.drop j).take (n'+1)).drop m)++(l.drop j).drop (n'+1)) h1
   rw [← List.append_assoc,List.take_append_drop,List.take_append_drop] at hp
   obtain⟨x,hxj,hx0,ek,hsk,hm1,hm2⟩:=node_kids hp
   obtain rfl:l[j]=x:=by rw [List.getElem?_eq_getElem hj] at hxj;exact Option.some.inj hxj
   have ea:=kids_add l (ar l[j]).toNat c (j+1) (m-1) hsk
   rw [show c+(ar l[j]).toNat=(ar l[j]).toNat+c by omega,ea,List.map_append]
   have hlen:((kidsFrom l (ar l[j]).toNat ((j+1:Nat):Int)).map (adep l)).length=(ar l[j]).toNat:=by rw [List.length_map,kids_len]
   rw [List.take_left' hlen,List.drop_left' hlen,kidsFrom,List.map_cons,adep_good hp,ek,aend_some hp,Nat.add_comm 1]
   congr 3
   rw [show j+1+(m-1)=j+m by omega]
   omega
theorem scan_rest:∀ (X:List Nd) (c i:Nat),scan c X=some X.length→i≤X.length→∃ c',scan c' (X.drop i)=some (X.length-i)
 | X,c,0,h,_=>⟨c,by rw [List.drop_zero,Nat.sub_zero];exact h⟩
 | [],c,i+1,h,hi=>by simp at hi
 | x::X,c,i+1,h,hi=>by
  cases c with
  | zero=>rw [scan_0] at h;simp at h
  | succ c =>
   have hx:0≤ar x:=by
    rcases Int.lt_or_le (ar x) 0 with q | q
    ·rw [scan_bad q] at h;cases h
    ·exact q
   rw [scan_good hx,Option.map_eq_some_iff] at h
   obtain⟨n,h,hn⟩:=h
   rw [List.length_cons] at hn hi
   obtain rfl:n=X.length:=by omega
   obtain⟨c',h'⟩:=scan_rest X _ i h (by omega)
   exact⟨c',by rw [List.drop_succ_cons,List.length_cons,h'];congr 1;omega⟩
theorem stk_enough{l:List Nd}{k n:Nat}(h:scan 1 (l.drop k)=some n)(t:Nat)(ht:t<n):∃ x,l[k+t]? = some x∧0≤ar x∧((l.drop k).take n).drop t=x::((l.drop k).take n).drop (t+1)∧(ar x).toNat≤(stk (((l.drop k).take n).drop (t+1))).length:=by
 have hle:=(scan_le _ _ _ h).2
 rw [List.length_drop] at hle
 have hp:=scan_prefix _ _ _ [] h
 rw [List.append_nil] at hp
 have hlen:((l.drop k).take n).length=n:=by rw [List.length_take,List.length_drop];omega
 obtain⟨c,hc⟩:=scan_rest _ 1 t (by rw [hlen];exact hp) (by omega)
 rw [hlen] at hc
 have hkt:k+t<l.length:=by omega
 have hx:((l.drop k).take n)[t]? = some l[k+t]:=by
  rw [List.getElem?_take_of_lt ht,List.getElem?_drop,List.getElem?_eq_getElem hkt]
 obtain⟨h1,h2⟩:=List.getElem?_eq_some_iff.1 hx
 have hd:((l.drop k).take n).drop t=l[k+t]::((l.drop k).take n).drop (t+1):=by rw [List.drop_eq_getElem_cons h1,h2]
 refine⟨l[k+t],List.getElem?_eq_getElem hkt,?_,hd,?_⟩
 ·rcases Int.lt_or_le (ar l[k+t]) 0 with q | q
  ·cases c with
   | zero=>rw [scan_0] at hc;simp at hc;omega
   | succ c=>rw [hd,scan_bad q] at hc;cases hc
  ·exact q
 ·cases c with
  | zero=>rw [scan_0] at hc;simp at hc;omega
  | succ c =>
   have h0:0≤ar l[k+t]:=by
    rcases Int.lt_or_le (ar l[k+t]) 0 with q | q
    ·rw [hd,scan_bad q] at hc;cases hc
    ·exact q
   rw [hd,scan_good h0,Option.map_eq_some_iff] at hc
   obtain⟨n',hc,hn'⟩:=hc
   have e:((l.drop k).take n).drop (t+1)=(l.drop (k+t+1)).take n':=by
    rw [List.drop_take,List.drop_drop]
    congr 1
    omega
   rw [e] at hc ⊢
   have hc':scan (c+(ar l[k+t]).toNat) ((l.drop (k+t+1)).take n')=some n':=hc
   rw [stk_kids l n' _ (k+t+1) hc',List.length_map,kids_len]
   omega
theorem stk_whole{l:List Nd}{k n:Nat}(h:scan 1 (l.drop k)=some n):stk ((l.drop k).take n)=[adep l k]:=by
 have hp:=scan_prefix _ _ _ [] h
 rw [List.append_nil] at hp
 rw [stk_kids l n 1 k hp]
 rfl
end Go.Proofs.YtodejloonfkkmaaGreat.Arena
namespace Go.Proofs.YtodejloonfkkmaaGreat.Arena
open Go.RowKit Mem
attribute [local go_sem ↓] Go.wp_at_zero Go.wp_at_succ
def dcells(D:List Nat):List Value:=icells (D.map Int.ofNat)
theorem greatest_any(A:Option Addr)(cap:Nat)(D:List Nat)(n:Nat)(hn:D.length=n)(w:World)(hx:IRow w w.heap.size A (D.map Int.ofNat))(hl:D.length≤1000000) :
  Calls Tryz.prog 118 #[.slice A n cap] w fun e w'=>e=.returned (.int .i64 (most D))∧Below w.heap.size w w':=by
 have HX:=Lib.hid hx
 subst hn
 clear hx
 go_enter Tryz.func118,Tryz.ntmps118
 go_wp2
 go_loop [3,8] (fun m i=>∃ k:Nat,k≤D.length∧i=.int .i64 k∧m=.int .i64 (most (D.take k):Int)) (fun _ i=>D.length-(intOf i).toNat)
 case atStart=>exact⟨0,by omega,rfl,rfl⟩
 case round =>
  obtain⟨k,hk,rfl,rfl⟩:=hrel
  by_cases hlt:k<D.length
  ·obtain⟨d,hd⟩:∃ d,D[k]? = some d:=⟨_,List.getElem?_eq_getElem hlt⟩
   obtain⟨ad,rfl,hb,h0⟩:=HX.out k (d:Int) (by rw [List.getElem?_map,hd];rfl)
   have hm:most (D.take (k+1))=max (most (D.take k)) d:=by rw [take_snoc D k d hd,most_append,most_one]
   have HM:=Lib.hid hm
   have j1:(k:Int)<(D.length:Int):=by omega
   clear hm hd
   go_wp2
   go_round
   case rel=>exact⟨k+1,by omega,by go_num,by rw [HM.out];first | rfl | (simp;omega)⟩
   case measure=>simp [intOf];omega
  ·have hk9:k=D.length:=by omega
   subst hk9
   rw [List.take_length]
   have j1:¬ (D.length:Int)<(D.length:Int):=by omega
   go_wp2
   go_ret
   exact⟨rfl,Below.refl _ _⟩
theorem own_take{w:World}{base:Nat}{e:TypeId}{g n cap:Nat}{cs:List Value}(h:w.ownsRow base e 1 (.slice (some ⟨g,0,none⟩) n cap) n cs)(k:Nat)(hk:k≤n):w.ownsRow base e 1 (.slice (some ⟨g,0,none⟩) k cap) k (cs.take k):=by
 obtain⟨hl,h⟩:=h
 rcases h with⟨h,-⟩ | ⟨g',cap',cur,h',hb,hg,hnc,hcm,hcs,htake⟩
 ·cases h
 ·simp only [Value.slice.injEq,Option.some.injEq,Addr.mk.injEq,and_true,true_and] at h'
  obtain⟨rfl,rfl⟩:=h'
  refine⟨by rw [List.length_take];omega,.inr ⟨g,cap,cur,rfl,hb,hg,by omega,hcm,hcs,?_⟩⟩
  rw [← htake,List.take_take,Nat.mul_one,Nat.mul_one]
  congr 1
  omega
theorem dcells_len(D:List Nat):(dcells D).length=D.length:=by simp [dcells,icells]
theorem dcells_take(D:List Nat)(k:Nat):(dcells D).take k=dcells (D.take k):=by simp [dcells,icells]
theorem dcells_snoc(D:List Nat)(d:Nat):dcells D++[.int .i64 (d:Int)]=dcells (D++[d]):=by simp [dcells,icells]
theorem own_tail{w:World}{base:Nat}{g n cap:Nat}{D:List Nat}(h:w.ownsRow base 3 1 (.slice (some ⟨g,0,none⟩) n cap) n (dcells D))(o:Nat):IRow w w.heap.size (some ⟨g,o,none⟩) ((D.drop o).map Int.ofNat):=by
 have hg:g<w.heap.size:=(h.lt g rfl).2
 intro i x hx
 rw [List.getElem?_map,List.getElem?_drop,Option.map_eq_some_iff] at hx
 obtain⟨d,hd,rfl⟩:=hx
 refine⟨_,rfl,hg,?_⟩
 have hc:=h.cells (g:=g) rfl (o+i) (.int .i64 (d:Int)) (by unfold dcells icells;rw [List.getElem?_map,List.getElem?_map,hd];rfl)
 refine Eq.trans ?_ hc
 congr 1
 unfold Addr.add
 by_cases hi:i=0
 ·subst hi
  by_cases ho:o=0
  ·subst ho;simp
  ·rw [if_pos rfl,if_neg (by omega)];simp
 ·rw [if_neg hi,if_neg (by omega)];simp
theorem own_cap{w:World}{base:Nat}{e:TypeId}{g n cap:Nat}{cs:List Value}(h:w.ownsRow base e 1 (.slice (some ⟨g,0,none⟩) n cap) n cs):n≤cap:=by
 rcases h.2 with⟨h,-⟩ | ⟨g',cap',cur,h',hb,hg,hnc,-⟩
 ·cases h
 ·simp only [Value.slice.injEq,Option.some.injEq,Addr.mk.injEq,and_true,true_and] at h'
  obtain⟨rfl,rfl⟩:=h'
  exact hnc
theorem stk_len:∀ X:List Nd,(stk X).length≤X.length
 | []=>Nat.le_refl _
 | x::X=>by
  have:=stk_len X
  rw [stk,List.length_cons,List.length_drop,List.length_cons]
  omega
theorem Depth_any(A:Option Addr)(cap:Nat)(xs:List Nd)(a:Int)(w:World)(hx:Nodes w w.heap.size A xs)(hl:xs.length≤1000000) :
  Calls Tryz.prog 83 #[.slice A xs.length cap,.int .i64 a] w fun e w'=>e=.returned (.int .i64 (adep xs a))∧Below w.heap.size w w':=by
 have HE:=Lib.hid (fun W hW=>End_any A cap xs a W hW hl)
 have HX:=Lib.hid hx
 clear hx
 rcases aend_cases xs a with he | ⟨k,n,rfl,hs,he,hn1,hn2⟩
 ·rw [adep_bad (by omega)]
  rw [he] at HE
  clear he
  go_enter Tryz.func83,Tryz.ntmps83
  go_wp2_with (go_at_call 51;refine(HE.out _ HX.out).mono ?_;rintro e w1 ⟨rfl,hb1⟩)
  go_ret
  exact⟨rfl,hb1⟩
 ·rw [he] at HE
  have hne:((k:Int)+(n:Int) == -1)=false:=by rw [beq_eq_false_iff_ne];omega
  have hlX:((xs.drop k).take n).length=n:=by rw [List.length_take,List.length_drop];omega
  have HW:=Lib.hid (stk_whole hs)
  have HEN:=Lib.hid (fun t ht=>stk_enough hs t ht)
  have HLE:=Lib.hid (fun t=>(fun d hd=>stk_le (((xs.drop k).take n).drop t) d hd))
  obtain⟨X,hX⟩:∃ X,(xs.drop k).take n=X:=⟨_,rfl⟩
  rw [hX] at HW HEN HLE hlX
  have v0:IntKind.i64.wrap ((k:Int)+(n:Int)-1)=(k:Int)+(n:Int)-1:=IntWalk.i64_in _ (by omega)
  obtain⟨ig,hig,hz0,hz1,hz2⟩:=info_parts info_int
  clear he hs hX
  go_enter Tryz.func83,Tryz.ntmps83
  go_wp2_with (go_at_call 51;refine(HE.out _ HX.out).mono ?_;rintro e w1 ⟨rfl,hb1⟩)
  go_loopw [6,7] (fun v i wr=>∃ r:Nat,r≤n∧i=.int .i64 ((k:Int)+(r:Int)-1)∧wr.ownsRow w.heap.size 3 1 v (stk (X.drop r)).reverse.length (dcells (stk (X.drop r)).reverse)∧Below w.heap.size w wr) (fun _ i _=>(intOf i+1-k).toNat)
  case atStart=>exact⟨n,by omega,rfl,by rw [List.drop_eq_nil_of_le (by omega)];exact World.ownsRow_nil _ _ _ _,hb1⟩
  case round =>
   obtain⟨r,hr,rfl,hO,hB⟩:=hrel
   rcases r with _ | t
   ·have j1:(k:Int)+((0:Nat):Int)-1<(k:Int):=by omega
    rw [List.drop_zero,HW.out] at hO
    simp only [List.reverse_singleton] at hO
    obtain⟨g,c,rfl,-⟩:=hO.form (by simp)
    have hc:=hO.cellAt 0 (by simp)
    rw [show(dcells [adep xs (k:Int)])[0]? = some (.int .i64 (adep xs (k:Int))) from rfl] at hc
    obtain⟨d,hd⟩:∃ d,adep xs (k:Int)=d:=⟨_,rfl⟩
    rw [hd] at hc
    have HD:=Lib.hid hd
    clear hd
    have j2:(k:Int)+(0:Int)-1<(k:Int):=by omega
    rw [show([adep xs (k:Int)]:List Nat).length=1 from rfl]
    rw [show(k:Int)+((0:Nat):Int)-1=(k:Int)+(0:Int)-1 by omega]
    go_wp2
    go_ret
    exact⟨by rw [HD.out];rfl,hB⟩
   ·obtain⟨x,hxk,hx0,hd,hen⟩:=HEN.out t (by omega)
    obtain⟨m,hm⟩:=Int.eq_ofNat_of_zero_le hx0
    obtain⟨ad,rfl,hbk,h0',h1'⟩:=(HX.out.below hB) (k+t) x hxk
    have hi:(k:Int)+((t+1:Nat):Int)-1=((k+t:Nat):Int):=by omega
    rw [hi]
    have hnext:((k+t:Nat):Int)-1=(k:Int)+(t:Int)-1:=by omega
    have v5:IntKind.i64.wrap (((k+t:Nat):Int)-1)=(k:Int)+(t:Int)-1:=by rw [hnext];exact IntWalk.i64_in _ (by omega)
    have j1:(k:Int)≤((k+t:Nat):Int):=by omega
    have j2:(0:Int)≤((k+t:Nat):Int):=by omega
    have j3:((k+t:Nat):Int)<(xs.length:Int):=by omega
    have hst:stk (X.drop t)=(1+most ((stk (X.drop (t+1))).take m))::(stk (X.drop (t+1))).drop m:=by rw [hd,stk,hm,Int.toNat_natCast]
    have hle:=HLE.out (t+1)
    rw [List.length_drop,hlX] at hle
    rw [hm,Int.toNat_natCast] at hen
    have HA:=Lib.hid (fun W=>Arity_any x.1 x.2 W)
    rw [show ar (x.1,x.2)=(m:Int) from hm] at HA
    generalize hS:stk (X.drop (t+1))=S at *
    have hS2:=hS
    clear hS
    obtain⟨o,ho⟩:∃ o,S.length=o+m:=⟨S.length-m,by omega⟩
    have hlS:S.length≤1000000:=by
     have:=stk_len (X.drop (t+1))
     rw [hS2,List.length_drop,hlX] at this
     omega
    have hmax:most (S.take m)≤1000000:=most_le_all (fun y hy=>by have:=hle y (List.mem_of_mem_take hy);omega)
    have hdrop:S.reverse.drop o=(S.take m).reverse:=by
     rw [List.drop_reverse,ho,Nat.add_sub_cancel_left]
    have htake:S.reverse.take o=(S.drop m).reverse:=by
     rw [List.take_reverse,ho,Nat.add_sub_cancel_left]
    have hnew:S.reverse.take o++[1+most (S.reverse.drop o)]=(stk (X.drop t)).reverse:=by
     rw [hst,List.reverse_cons,htake,hdrop,most_reverse]
    rw [← most_reverse,← hdrop] at hmax
    generalize hDD:S.reverse=D at *
    have hND:D.length=o+m:=by rw [← hDD,List.length_reverse];exact ho
    rw [hND] at hO
    have v6:IntKind.i64.wrap (((o+m:Nat):Int)-(m:Int))=(o:Int):=by rw [IntWalk.i64_in _ (by omega)];omega
    have HN:=Lib.hid hnew
    have v7:IntKind.i64.wrap (1+(most (D.drop o):Int))=1+(most (D.drop o):Int):=IntWalk.i64_in _ (by omega)
    clear hst hnew hdrop htake hDD hS2 hd hxk hm hle HEN HLE hnext hi
    have HG:=Lib.hid (fun(W:World) A c' (h:IRow W W.heap.size A ((D.drop o).map Int.ofNat))=>greatest_any A c' (D.drop o) m (by rw [List.length_drop,hND];omega) W h (by rw [List.length_drop];omega))
    have HT:=Lib.hid (show ∀ (W:World) g c,W.ownsRow w.heap.size 3 1 (.slice (some ⟨g,0,none⟩) (o+m) c) (o+m) (dcells D)→W.ownsRow w.heap.size 3 1 (.slice (some ⟨g,0,none⟩) o c) o (dcells (D.take o)) from fun W g c h=>by
     have:=own_take h o (by omega)
     rwa [dcells_take] at this)
    have HL:=Lib.hid (show(D.take o).length=o by rw [List.length_take];omega)
    obtain⟨M,hM⟩:∃ M,most (D.drop o)=M:=⟨_,rfl⟩
    rw [hM] at HG v7 HN hmax
    clear hM
    have z9:=Lib.hid (show(1:Int)+(M:Int)=((1+M:Nat):Int) by omega)
    have HF:=Lib.hid (show ∀ (W:World) v,W.ownsRow w.heap.size 3 1 v (o+1) (dcells (D.take o)++[.int .i64 (1+(M:Int))])→W.ownsRow w.heap.size 3 1 v (stk (X.drop t)).reverse.length (dcells (stk (X.drop t)).reverse) from fun W v h=>by
     have hlen:(stk (X.drop t)).reverse.length=o+1:=by rw [← HN.out,List.length_append,HL.out];rfl
     rw [hlen,← HN.out,← dcells_snoc,← z9.out]
     exact h)
    rcases hO.2 with⟨hv,hz⟩ | ⟨g,c,cur,hv,-⟩
    ·obtain rfl:o=0:=by omega
     obtain rfl:m=0:=by omega
     subst hv
     have hD0:D=[]:=List.length_eq_zero_iff.1 (by omega)
     subst hD0
     have hI:∀ (W:World) A,IRow W W.heap.size A ((([]:List Nat).drop 0).map Int.ofNat):=fun W A i x h=>by simp at h
     replace HT:=Lib.hid (show ∀ (W:World) (u:Nat),W.ownsRow w.heap.size 3 1 (.slice none 0 0) 0 (dcells (([]:List Nat).take 0)) from fun W _=>World.ownsRow_nil _ _ _ _)
     go_wp2_with (go_at_call 52;refine(HA.out _).mono ?_;rintro e w2 ⟨rfl,hb2⟩)
     have hB2:=hB.trans (hb2.mono hB.size)
     have hO2:=own_of_block hO (fun i hi=>hb2.block i (hO.lt i hi).2)
     go_region_held3 (fun _=>True) (trivial) (first
      | (go_at_call 118;refine(HG.out _ _ _ (hI _ _)).mono ?_;rintro e w3 ⟨rfl,hb3⟩;have hB3:=(hB2.drew).trans (hb3.mono hB2.size);have hO3:=own_of_block (hO2.drew) (fun i hi=>hb3.block i (hO2.lt i hi).2))
      | (refine step_append_lies _ (by rfl) _ _ _ (by rfl) w.heap.size 3 ig _ 1 8 Tryz.underlying22 hig hz0 hz1 hz2 rfl (by omega) _ 0 _ (by rfl) ((HT.out _ 0).alloc _) ⟨w3.heap.size,0,none⟩ 1 1 [.int .i64 (1+(M:Int))] (by rfl) (by rfl) (World.news_of_block (cs:=#[.int .i64 (1+(M:Int))]) (t:=3) (fr:=(0,0)) (heap_alloc_new w3 _)) (by simp [Value.oneCell']) (by omega) (by simp only [maxLen];omega) (by omega) (by have:=hB3.size;simp;omega) (w3.heap.size+1) (by simp) ?_;intro gg cap4 w4 hown4 hgrow hat hlt4)
       | fail)
     all_goals have hB4:Below w.heap.size w w4:=(hB3.alloc hB3.size _).grown hgrow (by have:=hB3.size;simp;omega) (fun k e=>(hO3.lt k e).1)
     all_goals have hown5:=HF.out _ _ hown4
     all_goals clear hgrow hat hown4
     all_goals go_wp2_with fail
     all_goals go_roundw
     all_goals first
      | exact⟨t,by omega,by go_num,hown5,hB4⟩
      | (simp [intOf];omega)
    ·subst hv
     have hcap:=own_cap hO
     by_cases hco:c=o
     ·obtain rfl:m=0:=by omega
      subst hco
      have hnil:D.drop c=[]:=List.drop_eq_nil_of_le (by omega)
      have hI:∀ (W:World) A,IRow W W.heap.size A ((D.drop c).map Int.ofNat):=fun W A i x h=>by rw [hnil] at h;simp at h
      clear hnil
      have o1:(0:Int)≤(c:Int):=by omega
      have o2:(c:Int)≤(c:Int)+(0:Int):=by omega
      go_wp2_with (go_at_call 52;refine(HA.out _).mono ?_;rintro e w2 ⟨rfl,hb2⟩)
      have hB2:=hB.trans (hb2.mono hB.size)
      have hO2:=own_of_block hO (fun i hi=>hb2.block i (hO.lt i hi).2)
      go_region_held3 (fun _=>True) (trivial) (first
       | (go_at_call 118;refine(HG.out _ _ _ (hI _ _)).mono ?_;rintro e w3 ⟨rfl,hb3⟩;have hB3:=(hB2.drew).trans (hb3.mono hB2.size);have hO3:=own_of_block (hO2.drew) (fun i hi=>hb3.block i (hO2.lt i hi).2))
       | (refine step_append_lies _ (by rfl) _ _ _ (by rfl) w.heap.size 3 ig _ 1 8 Tryz.underlying22 hig hz0 hz1 hz2 rfl (by omega) _ c _ (by rfl) ((HT.out _ _ _ hO3).alloc _) ⟨w3.heap.size,0,none⟩ 1 1 [.int .i64 (1+(M:Int))] (by rfl) (by rfl) (World.news_of_block (cs:=#[.int .i64 (1+(M:Int))]) (t:=3) (fr:=(0,0)) (heap_alloc_new w3 _)) (by simp [Value.oneCell']) (by omega) (by simp only [maxLen];omega) (by omega) (by have:=hB3.size;simp;omega) (w3.heap.size+1) (by simp) ?_;intro gg cap4 w4 hown4 hgrow hat hlt4)
       | fail)
      all_goals have hB4:Below w.heap.size w w4:=(hB3.alloc hB3.size _).grown hgrow (by have:=hB3.size;simp;omega) (fun k e=>(hO3.lt k e).1)
      all_goals have hown5:=HF.out _ _ hown4
      all_goals clear hgrow hat hown4
      all_goals go_wp2_with fail
      all_goals go_roundw
      all_goals first
       | exact⟨t,by omega,by go_num,hown5,hB4⟩
       | (simp [intOf];omega)
     ·have o1:(0:Int)≤(o:Int):=by omega
      have o2:(o:Int)≤(o:Int)+(m:Int):=by omega
      have o3:(o:Int)≤(c:Int):=by omega
      go_wp2_with (go_at_call 52;refine(HA.out _).mono ?_;rintro e w2 ⟨rfl,hb2⟩)
      have hB2:=hB.trans (hb2.mono hB.size)
      have hO2:=own_of_block hO (fun i hi=>hb2.block i (hO.lt i hi).2)
      go_region_held3 (fun _=>True) (trivial) (first
       | (go_at_call 118;refine(HG.out _ _ _ (own_tail (hO2.drew) o)).mono ?_;rintro e w3 ⟨rfl,hb3⟩;have hB3:=(hB2.drew).trans (hb3.mono hB2.size);have hO3:=own_of_block (hO2.drew) (fun i hi=>hb3.block i (hO2.lt i hi).2))
       | (refine step_append_lies _ (by rfl) _ _ _ (by rfl) w.heap.size 3 ig _ 1 8 Tryz.underlying22 hig hz0 hz1 hz2 rfl (by omega) _ o _ (by rfl) ((HT.out _ _ _ hO3).alloc _) ⟨w3.heap.size,0,none⟩ 1 1 [.int .i64 (1+(M:Int))] (by rfl) (by rfl) (World.news_of_block (cs:=#[.int .i64 (1+(M:Int))]) (t:=3) (fr:=(0,0)) (heap_alloc_new w3 _)) (by simp [Value.oneCell']) (by omega) (by simp only [maxLen];omega) (by omega) (by have:=hB3.size;simp;omega) (w3.heap.size+1) (by simp) ?_;intro gg cap4 w4 hown4 hgrow hat hlt4)
       | fail)
      all_goals have hB4:Below w.heap.size w w4:=(hB3.alloc hB3.size _).grown hgrow (by have:=hB3.size;simp;omega) (fun k e=>(hO3.lt k e).1)
      all_goals have hown5:=HF.out _ _ hown4
      all_goals clear hgrow hat hown4
      all_goals go_wp2_with fail
      all_goals go_roundw
      all_goals first
       | exact⟨t,by omega,by go_num,hown5,hB4⟩
       | (simp [intOf];omega)
end Go.Proofs.YtodejloonfkkmaaGreat.Arena
namespace Go.Proofs.YtodejloonfkkmaaGreat.Arena
open Go.RowKit Mem
def bads(xs:List Nd):Bool:=xs.any fun x=>decide (ar x<0)
def acheck(xs:List Nd):Int:=if xs.length=0 then 10 else if 200<xs.length then 4 else if bads xs=true then 11 else if aend xs 0≠xs.length then 12 else if 30<adep xs 0 then 13 else 0
theorem bads_snoc(xs:List Nd)(k:Nat)(x:Nd)(h:xs[k]? = some x):bads (xs.take (k+1))=(bads (xs.take k) || decide (ar x<0)):=by
 rw [take_snoc xs k x h];simp [bads]
theorem bads_at{xs:List Nd}{k:Nat}{x:Nd}(h:xs[k]? = some x)(hx:ar x<0):bads xs=true:=by
 unfold bads
 rw [List.any_eq_true]
 exact⟨x,List.mem_of_getElem? h,by simpa using hx⟩
theorem index_any(A:Option Addr)(cap:Nat)(xs:List Nd)(w:World)(hx:Nodes w w.heap.size A xs)(hl:xs.length≤1000000) :
  Calls Tryz.prog 117 #[.slice A xs.length cap,.func (.func 82) #[] #[]] w fun e w'=>(∃ r:Int,e=.returned (.int .i64 r)∧decide (0≤r)=bads xs)∧Below w.heap.size w w':=by
 have HX:=Lib.hid hx
 have HS:=Lib.hid (fun x W=>strange_any x W)
 clear hx
 go_enter Tryz.func117,Tryz.ntmps117
 go_wp2
 go_loopw [8] (fun i wr=>∃ k:Nat,k≤xs.length∧i=.int .i64 k∧bads (xs.take k)=false∧Below w.heap.size w wr) (fun i _=>xs.length-(intOf i).toNat)
 case atStart=>exact⟨0,by omega,rfl,rfl,Below.refl _ _⟩
 case round =>
  obtain⟨k,hk,rfl,hb0,hB⟩:=hrel
  by_cases hlt:k<xs.length
  ·obtain⟨x,hxk⟩:∃ x,xs[k]? = some x:=⟨_,List.getElem?_eq_getElem hlt⟩
   obtain⟨ad,rfl,hbk,h0',h1'⟩:=(Nodes.below HX.out hB) k x hxk
   have hsn:=bads_snoc xs k x hxk
   have j1:(k:Int)<(xs.length:Int):=by omega
   have j2:(0:Int)≤(k:Int):=by omega
   have HB0:=Lib.hid hb0
   by_cases hbad:ar x<0
   ·have HT:=Lib.hid (bads_at hxk hbad)
    have hs:=fun W=>HS.out x W
    rw [decide_eq_true hbad] at hs
    have HS2:=Lib.hid hs
    clear hsn hb0 hxk hs hbad
    go_wp2_with (go_at_call 82;refine(HS2.out _).mono ?_;rintro e w2 ⟨rfl,hb2⟩)
    go_ret
    exact⟨⟨_,rfl,by rw [HT.out];simp⟩,hB.trans (hb2.mono hB.size)⟩
   ·rw [hb0,decide_eq_false hbad] at hsn
    have HSN:=Lib.hid hsn
    have hs:=fun W=>HS.out x W
    rw [decide_eq_false hbad] at hs
    have HS2:=Lib.hid hs
    clear hsn hb0 hxk hs hbad
    go_wp2_with (go_at_call 82;refine(HS2.out _).mono ?_;rintro e w2 ⟨rfl,hb2⟩)
    go_roundw
    case rel=>exact⟨k+1,by omega,by go_num,HSN.out,hB.trans (hb2.mono hB.size)⟩
    case measure=>simp [intOf];omega
  ·have hk9:k=xs.length:=by omega
   subst hk9
   rw [List.take_length] at hb0
   have HB0:=Lib.hid hb0
   have j1:¬ (xs.length:Int)<(xs.length:Int):=by omega
   clear hb0
   go_wp2
   go_ret
   exact⟨⟨_,rfl,by rw [HB0.out];rfl⟩,hB⟩
theorem contains_any(A:Option Addr)(cap:Nat)(xs:List Nd)(w:World)(hx:Nodes w w.heap.size A xs)(hl:xs.length≤1000000) :
  Calls Tryz.prog 81 #[.slice A xs.length cap,.func (.func 82) #[] #[]] w fun e w'=>e=.returned (.bool (bads xs))∧Below w.heap.size w w':=by
 have HI:=Lib.hid (index_any A cap xs w hx hl)
 clear hx
 go_enter Tryz.func81,Tryz.ntmps81
 go_wp2_with (go_at_call 117;refine HI.out.mono ?_;rintro e w1 ⟨⟨r,rfl,hr⟩,hb1⟩)
 go_ret
 exact⟨by rw [← hr];rfl,hb1⟩
theorem Check_any(A:Option Addr)(cap:Nat)(xs:List Nd)(w:World)(hx:Nodes w w.heap.size A xs)(hl:xs.length≤1000000) :
  Calls Tryz.prog 37 #[.slice A xs.length cap] w fun e w'=>e=.returned (.int .i64 (acheck xs))∧Below w.heap.size w w':=by
 have HX:=Lib.hid hx
 have HC:=Lib.hid (fun W hW=>contains_any A cap xs W hW hl)
 have HE:=Lib.hid (fun W hW=>End_any A cap xs 0 W hW hl)
 have HD:=Lib.hid (fun W hW=>Depth_any A cap xs 0 W hW hl)
 clear hx
 obtain⟨c,hc⟩:∃ c,acheck xs=c:=⟨_,rfl⟩
 rw [hc]
 by_cases h0:xs.length=0
 ·have HA:=Lib.hid (show c=10 by rw [← hc];unfold acheck;rw [if_pos h0])
  have e0:((xs.length:Int)==0)=true:=by rw [beq_iff_eq];omega
  clear hc
  go_enter Tryz.func37,Tryz.ntmps37
  go_wp2
  go_ret
  exact⟨by rw [HA.out];rfl,Below.refl _ _⟩
 have e0:((xs.length:Int)==0)=false:=by rw [beq_eq_false_iff_ne];omega
 by_cases h1:200<xs.length
 ·have HA:=Lib.hid (show c=4 by rw [← hc];unfold acheck;rw [if_neg h0,if_pos h1])
  have e1:(200:Int)<(xs.length:Int):=by omega
  clear hc
  go_enter Tryz.func37,Tryz.ntmps37
  go_wp2
  go_ret
  exact⟨by rw [HA.out];rfl,Below.refl _ _⟩
 have e1:¬ (200:Int)<(xs.length:Int):=by omega
 by_cases h2:bads xs=true
 ·have HA:=Lib.hid (show c=11 by rw [← hc];unfold acheck;rw [if_neg h0,if_neg h1,if_pos h2])
  rw [h2] at HC
  clear hc h2
  go_enter Tryz.func37,Tryz.ntmps37
  go_wp2_with (go_at_call 81;refine(HC.out _ HX.out).mono ?_;rintro e w1 ⟨rfl,hb1⟩)
  go_ret
  exact⟨by rw [HA.out];rfl,hb1⟩
 have h2':bads xs=false:=by simpa using h2
 rw [h2'] at HC
 by_cases h3:aend xs 0=xs.length
 ·have e3:((xs.length:Int) != (xs.length:Int))=false:=by simp
  rw [h3] at HE
  by_cases h4:30<adep xs 0
  ·have HA:=Lib.hid (show c=13 by rw [← hc];unfold acheck;rw [if_neg h0,if_neg h1,if_neg h2,if_neg (by simpa using h3),if_pos h4])
   obtain⟨d,hd⟩:∃ d,adep xs 0=d:=⟨_,rfl⟩
   rw [hd] at HD h4
   have e4:(30:Int)<(d:Int):=by omega
   clear hc h2 h2' h3 hd
   go_enter Tryz.func37,Tryz.ntmps37
   go_wp2_with (first
    | (go_at_call 81;refine(HC.out _ HX.out).mono ?_;rintro e w1 ⟨rfl,hb1⟩)
    | (go_at_call 51;refine(HE.out _ (HX.out.at hb1)).mono ?_;rintro e w2 ⟨rfl,hb2⟩)
    | (go_at_call 83;refine(HD.out _ ((HX.out.at hb1).at hb2)).mono ?_;rintro e w3 ⟨rfl,hb3⟩))
   go_ret
   exact⟨by rw [HA.out];rfl,below2 (below2 hb1 hb2) hb3⟩
  ·have HA:=Lib.hid (show c=0 by rw [← hc];unfold acheck;rw [if_neg h0,if_neg h1,if_neg h2,if_neg (by simpa using h3),if_neg h4])
   obtain⟨d,hd⟩:∃ d,adep xs 0=d:=⟨_,rfl⟩
   rw [hd] at HD h4
   have e4:¬ (30:Int)<(d:Int):=by omega
   clear hc h2 h2' h3 hd
   go_enter Tryz.func37,Tryz.ntmps37
   go_wp2_with (first
    | (go_at_call 81;refine(HC.out _ HX.out).mono ?_;rintro e w1 ⟨rfl,hb1⟩)
    | (go_at_call 51;refine(HE.out _ (HX.out.at hb1)).mono ?_;rintro e w2 ⟨rfl,hb2⟩)
    | (go_at_call 83;refine(HD.out _ ((HX.out.at hb1).at hb2)).mono ?_;rintro e w3 ⟨rfl,hb3⟩))
   go_ret
   exact⟨by rw [HA.out];rfl,below2 (below2 hb1 hb2) hb3⟩
 ·have HA:=Lib.hid (show c=12 by rw [← hc];unfold acheck;rw [if_neg h0,if_neg h1,if_neg h2,if_pos h3])
  obtain⟨d,hd⟩:∃ d,aend xs 0=d:=⟨_,rfl⟩
  rw [hd] at HE h3
  have e3:(d != (xs.length:Int))=true:=by simpa using h3
  clear hc h2 h2' hd h3
  go_enter Tryz.func37,Tryz.ntmps37
  go_wp2_with (first
   | (go_at_call 81;refine(HC.out _ HX.out).mono ?_;rintro e w1 ⟨rfl,hb1⟩)
   | (go_at_call 51;refine(HE.out _ (HX.out.at hb1)).mono ?_;rintro e w2 ⟨rfl,hb2⟩))
  go_ret
  exact⟨by rw [HA.out];rfl,below2 hb1 hb2⟩
end Go.Proofs.YtodejloonfkkmaaGreat.Arena
namespace Go.Proofs.YtodejloonfkkmaaGreat.Arena
open Go.RowKit Mem
attribute [local go_sem ↓] Go.wp_at_zero Go.wp_at_succ
theorem Nodes.of_blk{w:World}{g B:Nat}{xs:List Nd}(h:Blk w g 47 (ncells xs).toArray)(hB:g<B):Nodes w B (some ⟨g,0,none⟩) xs:=by
 intro i x hx
 obtain⟨h1,h2⟩:=ncells_get xs i x hx
 refine⟨_,rfl,hB,?_,?_⟩
 ·have:(⟨g,0,none⟩:Addr).add (i*2)=⟨g,i*2,none⟩:=by unfold Addr.add;split<;>simp_all
  rw [this,h.cell];simpa using h1
 ·have:(⟨g,0,none⟩:Addr).add (i*2)=⟨g,i*2,none⟩:=by unfold Addr.add;split<;>simp_all
  rw [this]
  show w.cell? ⟨g,i*2+1,none⟩=_
  rw [h.cell];simpa using h2
theorem IRow.of_blk{w:World}{g B:Nat}{ks:List Int}(h:Blk w g 3 (icells ks).toArray)(hB:g<B):IRow w B (some ⟨g,0,none⟩) ks:=by
 intro i x hx
 refine⟨_,rfl,hB,?_⟩
 have:(⟨g,0,none⟩:Addr).add i=⟨g,i,none⟩:=by unfold Addr.add;split<;>simp_all
 rw [this,h.cell];simp [icells,hx]
theorem Nodes.drewAt{w:World}{A:Option Addr}{xs:List Nd}(h:Nodes w w.heap.size A xs):Nodes w.drew w.drew.heap.size A xs:=h
theorem Nodes.drew{w:World}{B:Nat}{A:Option Addr}{xs:List Nd}(h:Nodes w B A xs):Nodes w.drew B A xs:=h
def L4:List Nd:=[(7,0),(1,1),(5,0),(1,2)]
end Go.Proofs.YtodejloonfkkmaaGreat.Arena
namespace Go.Proofs.YtodejloonfkkmaaGreat.Arena
open Go.RowKit Mem Go.ChangeShapes Go.WideShapes Go.Deep Go.Joins
theorem cells_atN{w:World}{base n:Nat}{a:Addr}{cs:List Value}(h:w.cells? base a n=some cs):∀ j v,cs[j]? = some v→w.cell? (a.add j)=some v:=by
 obtain⟨_,hl,hat⟩:=World.cells?_some h
 intro j v hj
 have hlt:=(List.getElem?_eq_some_iff.1 hj).1
 rw [hat j (by omega),hj]
section
variable {H:Type} {enc:TypeId×Value→H} {W:World} {spare:Nat→Bool} {held:Bool}
theorem node_of{n:Nat}{cs:List Value}{x:DataW H×List MemPlace}(h:DataW.trod enc Tryz.prog W 0 spare held n 47 cs=some x):∃ y:Nd,cs=[.int .i64 y.1,.int .i64 y.2]:=by
 have hC:Tryz.prog.cellsOf 47=2:=by kernel_rfl
 obtain⟨y0,y1,m,hx,hl,h0,h1⟩:=trod_struct2 Tryz.underlying47 h
 rw [hC] at hl
 match cs,hl with
 | [c0,c1],_ =>
  obtain⟨k,e0,-,-⟩:=DataW.trod_int Tryz.underlying3 h0
  obtain⟨n,e1,-,-⟩:=DataW.trod_int Tryz.underlying3 h1
  have hC0:Tryz.prog.cellsOf 3=1:=by kernel_rfl
  simp only [hC0] at e0 e1
  simp at e0 e1
  exact⟨⟨k,n⟩,by simp [e0,e1]⟩
end
end Go.Proofs.YtodejloonfkkmaaGreat.Arena
namespace Go.Proofs.YtodejloonfkkmaaGreat.Arena
section
variable {β:Type} (f:Nd→List β→β) (d:β)
def fold:List Nd→List β
 | []=>[]
 | x::X=>f x ((fold X).take (ar x).toNat)::(fold X).drop (ar x).toNat
theorem fold_cons(x:Nd)(X:List Nd):fold f (x::X)=f x ((fold f X).take (ar x).toNat)::(fold f X).drop (ar x).toNat:=rfl
def val(l:List Nd)(a:Int):β:=(fold f (apart l a)).headD d
theorem fold_len:∀ (X:List Nd) (c:Nat),scan c X=some X.length→(fold f X).length=c
 | [],0,_=>rfl
 | [],c+1,h=>by rw [scan_nil] at h;cases h
 | x::X,0,h=>by rw [scan_0] at h;simp at h
 | x::X,c+1,h=>by
  by_cases hx:ar x<0
  ·rw [scan_bad hx] at h;cases h
  ·rw [scan_good (by omega),Option.map_eq_some_iff] at h
   obtain⟨m,h,hm⟩:=h
   rw [List.length_cons] at hm
   obtain rfl:m=X.length:=by omega
   rw [fold_cons,List.length_cons,List.length_drop,fold_len X _ h]
   omega
theorem fold_append:∀ (P:List Nd) (c:Nat) (Z:List Nd),scan c P=some P.length→fold f (P++Z)=fold f P++fold f Z
 | [],_,Z,_=>rfl
 | x::P,0,Z,h=>by rw [scan_0] at h;simp at h
 | x::P,c+1,Z,h=>by
  by_cases hx:ar x<0
  ·rw [scan_bad hx] at h;cases h
  ·rw [scan_good (by omega),Option.map_eq_some_iff] at h
   obtain⟨m,h,hm⟩:=h
   rw [List.length_cons] at hm
   obtain rfl:m=P.length:=by omega
   have hl:=fold_len f P _ h
   rw [List.cons_append,fold_cons,fold_cons,fold_append P _ Z h,List.take_append_of_le_length (by omega),List.drop_append_of_le_length (by omega),List.cons_append]
theorem fold_congr(X:List Nd){A B:List Nd}(h:fold f A=fold f B):fold f (X++A)=fold f (X++B):=by
 induction X with
 | nil=>exact h
 | cons x X ih=>rw [List.cons_append,List.cons_append,fold_cons,fold_cons,ih]
theorem fold_part{l:List Nd}{k n:Nat}(h:scan 1 (l.drop k)=some n):fold f (apart l k)=[val f d l k]:=by
 have hp:=part_scan h
 rw [← part_len h] at hp
 have hl:=fold_len f _ 1 hp
 unfold val
 match hf:fold f (apart l k),hl with
 | [y],_=>rfl
theorem fold_kids{l:List Nd}(qs:List Int)(hq:∀ q∈qs,0≤aend l q):fold f (qs.flatMap (apart l))=qs.map (val f d l):=by
 induction qs with
 | nil=>rfl
 | cons q qs ih =>
  have h0:=hq q (List.mem_cons_self ..)
  rcases aend_cases l q with h | ⟨k,n,rfl,hs,he,h1,h2⟩
  ·omega
  ·have hp:=part_scan hs
   rw [← part_len hs] at hp
   rw [List.flatMap_cons,fold_append f _ 1 _ hp,fold_part f d hs,ih (fun q h=>hq q (List.mem_cons_of_mem _ h))]
   rfl
theorem val_kids{l:List Nd}{k n:Nat}(h:scan 1 (l.drop k)=some n):∃ x,l[k]? = some x∧0≤ar x∧(akids l k).length=(ar x).toNat∧val f d l k=f x ((akids l k).map (val f d l)):=by
 obtain⟨x,hx,hl,h0,hp⟩:=part_kids h
 refine⟨x,hx,h0,hl,?_⟩
 have hk:=fold_kids f d (l:=l) (akids l k) (fun q hq=>(kids_in h q hq).2.2)
 unfold val at hk ⊢
 rw [hp,fold_cons,hk,List.take_of_length_le (by rw [List.length_map];omega)]
 rfl
theorem val_bad{l:List Nd}{a:Int}(h:aend l a<0):val f d l a=d:=by
 unfold val apart;rw [if_pos h];rfl
theorem whole_part{l:List Nd}(h:scan 1 l=some l.length):apart l 0=l:=by
 have e:=aend_some (l:=l) (a:=0) (n:=l.length) h
 show apart l ((0:Nat):Int)=l
 unfold apart
 rw [if_neg (by rw [e];omega),e]
 rw [show(((0:Nat):Int)+(l.length:Int)).toNat-((0:Nat):Int).toNat=l.length by omega,show((0:Nat):Int).toNat=0 from rfl,List.drop_zero,List.take_length]
theorem val_part{l:List Nd}{k n:Nat}(h:scan 1 (l.drop k)=some n):val f d (apart l k) 0=val f d l k:=by
 have e:apart (apart l k) 0=apart l k:=whole_part (by rw [part_len h];exact part_scan h)
 unfold val
 rw [e]
theorem fold_good(G:β→Prop)(hG:∀ (x:Nd) (ks:List β),0≤ar x→ks.length=(ar x).toNat→G (f x ks)→∀ y∈ks,G y):∀ (X:List Nd) (c i:Nat),scan c X=some X.length→(∀ y∈fold f X,G y)→i≤X.length→∀ y∈fold f (X.drop i),G y
 | X,c,0,_,hg,_=>by rw [List.drop_zero];exact hg
 | [],c,i+1,_,_,hi=>by simp at hi
 | x::X,0,i+1,h,_,_=>by rw [scan_0] at h;simp at h
 | x::X,c+1,i+1,h,hg,hi=>by
  by_cases hx:ar x<0
  ·rw [scan_bad hx] at h;cases h
  ·rw [scan_good (by omega),Option.map_eq_some_iff] at h
   obtain⟨m,h,hm⟩:=h
   rw [List.length_cons] at hm hi
   obtain rfl:m=X.length:=by omega
   have hl:=fold_len f X _ h
   rw [List.drop_succ_cons]
   refine fold_good G hG X _ i h ?_ (by omega)
   intro y hy
   rw [← List.take_append_drop (ar x).toNat (fold f X)] at hy
   rcases List.mem_append.1 hy with hy | hy
   ·exact hG x _ (by omega) (by rw [List.length_take];omega) (hg _ (by rw [fold_cons];exact List.mem_cons_self ..)) y hy
   ·exact hg y (by rw [fold_cons];exact List.mem_cons_of_mem _ hy)
theorem val_good(G:β→Prop)(hG:∀ (x:Nd) (ks:List β),0≤ar x→ks.length=(ar x).toNat→G (f x ks)→∀ y∈ks,G y){l:List Nd}(hw:scan 1 l=some l.length)(h0:G (val f d l 0)){k n:Nat}(h:scan 1 (l.drop k)=some n):G (val f d l k):=by
 have e0:fold f l=[val f d l 0]:=by
  have:=fold_part f d (l:=l) (k:=0) (n:=l.length) hw
  rw [show((0:Nat):Int)=0 from rfl,whole_part hw] at this
  exact this
 have hk:k≤l.length:=by have:=scan_le _ _ _ h;rw [List.length_drop] at this;omega
 have hg:=fold_good f G hG l 1 k hw (by rw [e0];intro y hy;rw [List.mem_singleton] at hy;rw [hy];exact h0) hk
 have hp:=part_scan h
 rw [← part_len h] at hp
 have hsp:l.drop k=apart l k++l.drop (k+n):=by
  obtain⟨hs,ht⟩:=split3 h
  conv=>lhs;rw [hs]
  rw [List.drop_left' ht]
 rw [hsp,fold_append f _ 1 _ hp,fold_part f d h] at hg
 exact hg _ (List.mem_append_left _ (List.mem_singleton.2 rfl))
end
end Go.Proofs.YtodejloonfkkmaaGreat.Arena
