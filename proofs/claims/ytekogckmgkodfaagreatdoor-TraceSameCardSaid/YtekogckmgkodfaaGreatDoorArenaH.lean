/-
  Nodes, and numbers, in a row: are two rows alike? The reference's, and the package's by slices.Equal, walked.
  Package arena, walked: lists put together, one behind the other.
  Package arena, walked: a part, and what is replaced.
  Package arena, walked: a node's kids.
  Plain facts on depths: read from the right, a node's kids' depths lie on top of a row of depths. No program is met here.
  Package arena, walked: how deep a node is, by a row of depths.
  Package arena, walked: whether nodes may be.
  The reference of arenas, walked: how deep a node is (by recursion), parts, what is replaced, whether nodes may be.
  The reference of arenas, walked: whether nodes may be.
  The laws of layer 8, walked: the document's examples.
  Arguments that are nodes, one by value or a slice of them: what they hold.
  Plain facts on nodes: whatever is told of a node by itself and by what is told of its kids, is told by the part alone; a part that tells the same may stand instead. No program is met here.
-/
import Derived.Test.YtekogckmgkodfaaGreatDoorArenaG
import Derived.Deep.QuietTactic
import Derived.Laws.AppendOwnNone
import Derived.Deep.RegionHeld3
import Derived.Deep.DrawnRows
import Derived.Laws.MakeOwn
import Derived.Laws.OwnMore
import Derived.Deep.AppendLies
import Derived.WalkKit
import Derived.Deep.Slices
import Derived.Lib.SmallJoins
import Derived.SizedLaws
import Derived.Carry
import Derived.OpenShut
import Derived.ChangeOld
import Derived.ShutString
import Derived.ProofKit
set_option linter.unusedVariables false
set_option maxRecDepth 100000
namespace Go.Proofs.YtekogckmgkodfaaGreatDoor.Arena
open Go.RowKit Mem
theorem take_snoc{α:Type}(xs:List α)(k:Nat)(x:α)(h:xs[k]? = some x):xs.take (k+1)=xs.take k++[x]:=by
 obtain⟨hk,rfl⟩:=List.getElem?_eq_some_iff.1 h
 rw [List.take_succ_eq_append_getElem hk]
theorem rows_differ{α:Type} [DecidableEq α]{xs ys:List α}{i:Nat}{x y:α}(hx:xs[i]? = some x)(hy:ys[i]? = some y)(h:x≠y):decide (xs=ys)=false:=by
 apply decide_eq_false
 rintro rfl
 rw [hx] at hy
 exact h (Option.some.inj hy)
theorem rows_alike{α:Type} [DecidableEq α]{xs ys:List α}{n:Nat}(h:xs.take n=ys.take n)(h1:n=xs.length)(h2:ys.length=n):decide (xs=ys)=true:=by
 apply decide_eq_true
 rwa [List.take_of_length_le (by omega),List.take_of_length_le (by omega)] at h
def IRow(w:World)(B:Nat)(A:Option Addr)(ks:List Int):Prop :=
 ∀ (i:Nat) (x:Int),ks[i]? = some x→∃ ad,A=some ad∧ad.block<B∧w.cell? (ad.add i)=some (.int .i64 x)
theorem IRow.keep{w w':World}{B:Nat}{A:Option Addr}{xs:List Int}(h:IRow w B A xs)(hb:∀ k,k<B→w'.heap[k]? = w.heap[k]?):IRow w' B A xs:=by
 intro i x hx
 obtain⟨ad,h0,h1,h3⟩:=h i x hx
 refine⟨ad,h0,h1,?_⟩
 rw [← h3]
 unfold World.cell?
 rw [add_blockN,hb _ h1]
theorem IRow.below{w w':World}{B:Nat}{A:Option Addr}{xs:List Int}(h:IRow w B A xs)(hb:Below B w w'):IRow w' B A xs:=h.keep hb.block
theorem IRow.at{w w':World}{A:Option Addr}{xs:List Int}(h:IRow w w.heap.size A xs)(hb:Below w.heap.size w w'):IRow w' w'.heap.size A xs:=by
 intro i x hx
 obtain⟨ad,e,hlt,r⟩:=(IRow.below h hb) i x hx
 exact⟨ad,e,Nat.lt_of_lt_of_le hlt hb.size,r⟩
def ncells(xs:List Nd):List Value:=xs.flatMap fun x=>[Value.int .i64 x.1,.int .i64 x.2]
theorem ncells_append(xs ys:List Nd):ncells (xs++ys)=ncells xs++ncells ys:=by simp [ncells]
theorem ncells_len(xs:List Nd):(ncells xs).length=xs.length*2:=by
 induction xs with
 | nil=>rfl
 | cons x l ih=>rw [show ncells (x::l)=[Value.int .i64 x.1,.int .i64 x.2]++ncells l from rfl,List.length_append,ih,List.length_cons];simp;omega
theorem ncells_get:∀ (xs:List Nd) (i:Nat) (x:Nd),xs[i]? = some x→(ncells xs)[i*2]? = some (.int .i64 x.1)∧(ncells xs)[i*2+1]? = some (.int .i64 x.2)
 | y::l,0,x,h=>by simp at h;subst h;exact⟨rfl,rfl⟩
 | y::l,i+1,x,h=>by
  have h':l[i]? = some x:=by simpa using h
  obtain⟨a,b⟩:=ncells_get l i x h'
  rw [show ncells (y::l)=.int .i64 y.1::.int .i64 y.2::ncells l from rfl,show(i+1)*2=i*2+1+1 by omega,List.getElem?_cons_succ,List.getElem?_cons_succ]
  exact⟨a,by rw [List.getElem?_cons_succ,List.getElem?_cons_succ];exact b⟩
theorem ncells_at:∀ (xs:List Nd) (j:Nat) (u:Value),(ncells xs)[j]? = some u→∃ x,xs[j / 2]? = some x∧u=.int .i64 (if j%2=0 then x.1 else x.2)
 | [],j,u,h=>by simp [ncells] at h
 | y::l,0,u,h=>by
  rw [show ncells (y::l)=.int .i64 y.1::.int .i64 y.2::ncells l from rfl] at h
  simp at h;exact⟨y,rfl,h.symm⟩
 | y::l,1,u,h=>by
  rw [show ncells (y::l)=.int .i64 y.1::.int .i64 y.2::ncells l from rfl] at h
  simp at h;exact⟨y,rfl,h.symm⟩
 | y::l,j+2,u,h=>by
  rw [show ncells (y::l)=.int .i64 y.1::.int .i64 y.2::ncells l from rfl,List.getElem?_cons_succ,List.getElem?_cons_succ] at h
  obtain⟨x,h1,h2⟩:=ncells_at l j u h
  refine⟨x,?_,?_⟩
  ·rw [show(j+2) / 2=j / 2+1 by omega,List.getElem?_cons_succ];exact h1
  ·rw [show(j+2)%2=j%2 by omega];exact h2
theorem add_off(a:Addr)(j:Nat)(h:0<j):a.add j=⟨a.block,a.off+j,none⟩:=by unfold Addr.add;rw [if_neg (by omega)]
theorem add_add(a:Addr)(i j:Nat):(a.add i).add j=a.add (i+j):=by
 unfold Addr.add
 by_cases hj:j=0
 ·subst hj;simp
 ·by_cases hi:i=0
  ·subst hi;simp
  ·rw [if_neg hi,if_neg hj,if_neg (by omega)];simp;omega
theorem Nodes.cells{w:World}{B:Nat}{ad:Addr}{xs:List Nd}(h:Nodes w B (some ad) xs):∀ j u,(ncells xs)[j]? = some u→w.cell? (ad.add j)=some u:=by
 intro j u hu
 obtain⟨x,h1,rfl⟩:=ncells_at xs j u hu
 obtain⟨ad',e,-,h3,h4⟩:=h _ _ h1
 cases e
 by_cases hj:j%2=0
 ·rw [if_pos hj]
  rwa [show j / 2*2=j by omega] at h3
 ·rw [if_neg hj]
  have:ad.add j=⟨(ad.add (j / 2*2)).block,(ad.add (j / 2*2)).off+1,none⟩:=by
   rw [add_off ad j (by omega)]
   by_cases h0:j / 2*2=0
   ·rw [h0];simp [Addr.add];omega
   ·rw [add_off ad _ (by omega)];simp;omega
  rw [this];exact h4
theorem Nodes.nil(w:World)(B:Nat)(A:Option Addr):Nodes w B A []:=fun i x h=>by simp at h
theorem Nodes.empty{w:World}{B:Nat}{xs:List Nd}(h:Nodes w B none xs):xs=[]:=by
 cases xs with
 | nil=>rfl
 | cons x l=>obtain⟨ad,e,-⟩:=h 0 x rfl;cases e
theorem Nodes.part{w:World}{B:Nat}{ad:Addr}{xs:List Nd}(h:Nodes w B (some ad) xs)(k n:Nat):Nodes w B (some (ad.add (k*2))) ((xs.drop k).take n):=by
 intro i x hi
 have hx:xs[k+i]? = some x:=by
  have hin:i<n:=by
   rcases Nat.lt_or_ge i n with q | q
   ·exact q
   ·rw [List.getElem?_eq_none (by rw [List.length_take];omega)] at hi;cases hi
  rwa [List.getElem?_take_of_lt hin,List.getElem?_drop] at hi
 obtain⟨ad',e,h1,h3,h4⟩:=h _ _ hx
 cases e
 refine⟨_,rfl,by rw [add_blockN];exact h1,?_,?_⟩
 ·rw [add_add,← Nat.add_mul];exact h3
 ·rw [add_add,← Nat.add_mul];exact h4
theorem info_node:(Tryz.prog.info? 105).map (fun i=>(i.zero,i.size,i.bytes))=some (some (.agg #[.int .i64 0,.int .i64 0]),2,16):=by kernel_rfl
theorem own_nodes{w:World}{base:Nat}{v:Value}{xs:List Nd}(h:w.ownsRow base 105 2 v xs.length (ncells xs)) :
  ∃ A c,v=.slice A xs.length c∧xs.length≤c∧(A=none→c=0)∧Nodes w w.heap.size A xs:=by
 have hc:=fun g hg=>h.cells (g:=g) hg
 rcases h.2 with⟨rfl,h0⟩ | ⟨g,cap,cur,rfl,-,hg,hn,-⟩
 ·obtain rfl:=List.length_eq_zero_iff.1 h0
  exact⟨none,0,rfl,Nat.le_refl _,fun _=>rfl,Nodes.nil _ _ _⟩
 ·refine⟨_,_,rfl,hn,fun e=>by simp at e,fun i x hx=>⟨_,rfl,(Array.getElem?_eq_some_iff.1 hg).1,?_,?_⟩⟩
  ·exact hc g rfl _ _ (ncells_get xs i x hx).1
  ·have:=hc g rfl _ _ (ncells_get xs i x hx).2
   rw [add_off _ _ (by omega)] at this
   rw [← this]
   congr 1
   rcases Nat.eq_zero_or_pos i with rfl | hi
   ·simp [Addr.add]
   ·rw [add_off _ _ (by omega)];simp
theorem append_nodes{w:World}{ops:Array Oper}{rest:List Oper}{o:Oper}{a:Act}{Q:Exit→Act→World→Prop}(hgd:o.guard=none)(s x:Operand)
  (ho:o.op=.call { callee:=.builtin .append,args:=#[s,x],argTypes:=#[23,23] })
  (base:Nat) (hbase:base≤w.heap.size) (v:Value) (ys:List Nd) (hs:a.eval s=v) (hown:w.ownsRow base 105 2 v ys.length (ncells ys))
  (B:Nat) (A:Option Addr) (c:Nat) (xs:List Nd) (n:Nat) (hn:xs.length=n) (hx:a.eval x=.slice A n c) (hA:A=none→c=0) (hN:Nodes w B A xs) (hlen:ys.length+xs.length≤100000000)
  (h:∀ v' w',w'.ownsRow base 105 2 v' (ys++xs).length (ncells (ys++xs))→w.grownBy w' v.ownBlock→(v'.ownBlock=v.ownBlock∨v'.ownBlock=some w.heap.size)→wpList Tryz.prog ops Q rest (a.put o.dst v') w') :
  wpList Tryz.prog ops Q (o::rest) a w:=by
 subst hn
 obtain⟨ig,hig,hz0,hz1,hz2⟩:=info_parts info_node
 cases A with
 | none =>
  obtain rfl:=hN.empty
  obtain rfl:=hA rfl
  refine wpList_append_own_none hgd s x 23 ho base 105 ig 2 Tryz.underlying23 hig v ys.length (ncells ys) hs hown hx ?_
  refine h v w ?_ ⟨rfl,rfl,rfl,Nat.le_refl _,fun _ _ _=>rfl⟩ (.inl rfl)
  rw [List.append_nil];exact hown
 | some ad =>
  refine wpList_append_own_at _ hgd s x 23 ho base 105 ig _ 2 16 Tryz.underlying23 hig hz0 hz1 hz2 rfl (by decide) v ys.length (ncells ys) hs hown ad xs.length c (ncells xs) hx (ncells_len xs) hN.cells ?_ (by simp only [maxLen];omega) (by omega) hbase ?_
  ·intro u hu
   obtain⟨j,hj⟩:=List.getElem?_of_mem hu
   obtain⟨x,-,rfl⟩:=ncells_at xs j u hj
   rfl
  ·intro v' w' hown' hg _ hat
   refine h v' w' ?_ hg hat
   rw [List.length_append,ncells_append];exact hown'
def NodesEnds(ys:List Nd)(w:World)(e:Ending)(w':World):Prop :=
 Below w.heap.size w w'∧∃ A c,e=.returned (.slice A ys.length c)∧ys.length≤c∧(A=none→c=0)∧Nodes w' w'.heap.size A ys
structure Sl where
 A:Option Addr
 c:Nat
 xs:List Nd
def Sl.val(l:Sl):Value:=.slice l.A l.xs.length l.c
def Sl.Ok(w:World)(B:Nat)(l:Sl):Prop:=(l.A=none→l.c=0)∧Nodes w B l.A l.xs
def allOf(ls:List Sl):List Nd:=ls.flatMap Sl.xs
theorem allOf_snoc(ls:List Sl)(k:Nat)(l:Sl)(h:ls[k]? = some l):allOf (ls.take (k+1))=allOf (ls.take k)++l.xs:=by
 rw [take_snoc ls k l h];simp [allOf]
theorem allOf_take_le(ls:List Sl)(k:Nat):(allOf (ls.take k)).length≤(allOf ls).length:=by
 have:allOf ls=allOf (ls.take k)++allOf (ls.drop k):=by
  conv=>lhs;rw [← List.take_append_drop k ls]
  unfold allOf
  rw [List.flatMap_append]
 rw [this,List.length_append];omega
end Go.Proofs.YtekogckmgkodfaaGreatDoor.Arena
namespace Go.Proofs.YtekogckmgkodfaaGreatDoor.Arena
open Go.RowKit Mem
attribute [local go_sem ↓] Go.wp_at_zero Go.wp_at_succ
theorem NodesEnds.from{ys:List Nd}{w w1 w2:World}{e:Ending}(h:NodesEnds ys w1 e w2)(hb:Below w.heap.size w w1):Below w.heap.size w w2∧∃ A c,e=.returned (.slice A ys.length c)∧ys.length≤c∧(A=none→c=0)∧Nodes w2 w2.heap.size A ys :=
 ⟨hb.trans (h.1.mono hb.size),h.2⟩
set_option linter.unusedVariables false
theorem Nodes.front{w:World}{B:Nat}{ad:Addr}{xs:List Nd}(h:Nodes w B (some ad) xs)(k:Nat):Nodes w B (some ad) (xs.take k):=by
 have:=h.part 0 k
 simpa [Addr.add] using this
theorem Nodes.back{w:World}{B:Nat}{ad:Addr}{xs:List Nd}(h:Nodes w B (some ad) xs)(k cap:Nat)(hc:xs.length≤cap):Nodes w B (if cap=k then some ad else some (ad.add (k*2))) (xs.drop k):=by
 by_cases hk:cap=k
 ·rw [List.drop_eq_nil_of_le (by omega)];exact Nodes.nil _ _ _
 ·rw [if_neg hk]
  have:=h.part k (xs.length-k)
  rwa [List.take_of_length_le (by rw [List.length_drop];omega)] at this
end Go.Proofs.YtekogckmgkodfaaGreatDoor.Arena
namespace Go.Proofs.YtekogckmgkodfaaGreatDoor.Arena
open Go.RowKit Mem
theorem own_ints{w:World}{base:Nat}{v:Value}{ks:List Int}(h:w.ownsRow base 3 1 v ks.length (icells ks)) :
  ∃ A c,v=.slice A ks.length c∧IRow w w.heap.size A ks∧∀ ad,A=some ad→base≤ad.block:=by
 have hc:=fun g hg=>h.cells (g:=g) hg
 rcases h.2 with⟨rfl,h0⟩ | ⟨g,cap,cur,rfl,hbg,hg,hn,-⟩
 ·obtain rfl:=List.length_eq_zero_iff.1 h0
  exact⟨none,0,rfl,fun i x h=>by simp at h,fun ad e=>by cases e⟩
 ·refine⟨_,_,rfl,fun i x hx=>⟨_,rfl,(Array.getElem?_eq_some_iff.1 hg).1,?_⟩,fun ad e=>by cases e;exact hbg⟩
  exact hc g rfl _ _ (by unfold icells;rw [List.getElem?_map,hx];rfl)
def IntsEnds(ks:List Int)(w:World)(e:Ending)(w':World):Prop :=
 Below w.heap.size w w'∧∃ A c,e=.returned (.slice A ks.length c)∧IRow w' w'.heap.size A ks∧∀ ad,A=some ad→w.heap.size≤ad.block
theorem KidsEnds.ints{ks:List Int}{w w':World}{e:Ending}(h:KidsEnds ks w e w'):IntsEnds ks w e w':=by
 obtain⟨hb,v,rfl,ho⟩:=h
 obtain⟨A,c,rfl,hr,hf⟩:=own_ints ho
 exact⟨hb,A,c,rfl,hr,hf⟩
theorem icells_set(done:List Int)(p:Int)(m:Nat):(icells (done++List.replicate (m+1) 0)).set done.length (.int .i64 p)=icells ((done++[p])++List.replicate m 0):=by
 unfold icells
 rw [List.replicate_succ]
 simp
end Go.Proofs.YtekogckmgkodfaaGreatDoor.Arena
namespace Go.Proofs.YtekogckmgkodfaaGreatDoor.Arena
def stk:List Nd→List Nat
 | []=>[]
 | x::X=>(1+most ((stk X).take (ar x).toNat))::(stk X).drop (ar x).toNat
theorem most_append(a b:List Nat):most (a++b)=max (most a) (most b):=by
 induction a with
 | nil=>simp [most]
 | cons x a ih =>
  show max x (most (a++b))=max (max x (most a)) (most b)
  rw [ih];omega
theorem most_one(x:Nat):most [x]=x:=by simp [most]
theorem most_reverse(l:List Nat):most l.reverse=most l:=by
 induction l with
 | nil=>rfl
 | cons x l ih =>
  rw [List.reverse_cons,most_append,ih,most_one]
  show max (most l) x=max x (most l)
  omega
theorem most_le_all{l:List Nat}{n:Nat}(h:∀ x∈l,x≤n):most l≤n:=by
 induction l with
 | nil=>simp [most]
 | cons x l ih =>
  have h1:=h x (List.mem_cons_self ..)
  have h2:=ih (fun y hy=>h y (List.mem_cons_of_mem _ hy))
  show max x (most l)≤n
  omega
theorem stk_le:∀ (X:List Nd),∀ d∈stk X,d≤X.length
 | [],d,h=>by cases h
 | x::X,d,h=>by
  rw [stk] at h
  rcases List.mem_cons.1 h with rfl | h
  ·have:=most_le_all (l:=(stk X).take (ar x).toNat) (n:=X.length) (fun y hy=>stk_le X y (List.mem_of_mem_take hy))
   rw [List.length_cons];omega
  ·have:=stk_le X d (List.mem_of_mem_drop h)
   rw [List.length_cons];omega
theorem kids_add(l:List Nd):∀ (a b p n:Nat),scan a (l.drop p)=some n→kidsFrom l (a+b) (p:Int)=kidsFrom l a (p:Int)++kidsFrom l b ((p+n:Nat):Int)
 | 0,b,p,n,h=>by rw [scan_0] at h;simp at h;subst h;simp [kidsFrom]
 | a+1,b,p,n,h=>by
  rw [Nat.add_comm,scan_add] at h
  cases h1:scan 1 (l.drop p) with
  | none=>rw [h1] at h;cases h
  | some n1 =>
   rw [h1] at h
   simp only [Option.bind_some,Option.map_eq_some_iff,List.drop_drop] at h
   obtain⟨m,h2,rfl⟩:=h
   have ek:aend l (p:Int)=((p+n1:Nat):Int):=by rw [aend_some h1];omega
   rw [show a+1+b=(a+b)+1 by omega,kidsFrom,kidsFrom,ek,kids_add l a b (p+n1) m h2,List.cons_append,Nat.add_assoc]
theorem stk_kids(l:List Nd):∀ (n c j:Nat),scan c ((l.drop j).take n)=some n→stk ((l.drop j).take n)=(kidsFrom l c (j:Int)).map (adep l)
 | 0,0,j,_=>by simp [stk,kidsFrom]
 | 0,c+1,j,h=>by rw [List.take_zero,scan_nil] at h;cases h
 | n+1,0,j,h=>by rw [scan_0] at h;simp at h
 | n+1,c+1,j,h=>by
  have hle:=(scan_le _ _ _ h).2
  rw [List.length_take,List.length_drop] at hle
  have hj:j<l.length:=by omega
  have hd:l.drop j=l[j]::l.drop (j+1):=List.drop_eq_getElem_cons hj
  have hX:(l.drop j).take (n+1)=l[j]::(l.drop (j+1)).take n:=by rw [hd,List.take_succ_cons]
  have hx:0≤ar l[j]:=by
   rcases Int.lt_or_le (ar l[j]) 0 with q | q
   ·rw [hX,scan_bad q] at h;cases h
   ·exact q
  have h0:=h
  rw [hX,scan_good hx,Option.map_eq_some_iff] at h
  obtain⟨n',h,hn'⟩:=h
  obtain rfl:n'=n:=by omega
  have ih:=stk_kids l n' (c+(ar l[j]).toNat) (j+1) h
  rw [hX,stk,ih]
  rw [Nat.add_comm c 1,scan_add] at h0
  cases h1:scan 1 ((l.drop j).take (n'+1)) with
  | none=>rw [h1] at h0;cases h0
  | some m =>
   have hp:=scan_prefix _ _ _ ((((l.drop j).take (n'+1)).drop m)++(l.drop j).drop (n'+1)) h1
   rw [← List.append_assoc,List.take_append_drop,List.take_append_drop] at hp
   obtain⟨x,hxj,hx0,ek,hsk,hm1,hm2⟩:=node_kids hp
   obtain rfl:l[j]=x:=by rw [List.getElem?_eq_getElem hj] at hxj;exact Option.some.inj hxj
   have ea:=kids_add l (ar l[j]).toNat c (j+1) (m-1) hsk
   rw [show c+(ar l[j]).toNat=(ar l[j]).toNat+c by omega,ea,List.map_append]
   have hlen:((kidsFrom l (ar l[j]).toNat ((j+1:Nat):Int)).map (adep l)).length=(ar l[j]).toNat:=by rw [List.length_map,kids_len]
   rw [List.take_left' hlen,List.drop_left' hlen,kidsFrom,List.map_cons,adep_good hp,ek,aend_some hp,Nat.add_comm 1]
   congr 3
   rw [show j+1+(m-1)=j+m by omega]
   omega
theorem scan_rest:∀ (X:List Nd) (c i:Nat),scan c X=some X.length→i≤X.length→∃ c',scan c' (X.drop i)=some (X.length-i)
 | X,c,0,h,_=>⟨c,by rw [List.drop_zero,Nat.sub_zero];exact h⟩
 | [],c,i+1,h,hi=>by simp at hi
 | x::X,c,i+1,h,hi=>by
  cases c with
  | zero=>rw [scan_0] at h;simp at h
  | succ c =>
   have hx:0≤ar x:=by
    rcases Int.lt_or_le (ar x) 0 with q | q
    ·rw [scan_bad q] at h;cases h
    ·exact q
   rw [scan_good hx,Option.map_eq_some_iff] at h
   obtain⟨n,h,hn⟩:=h
   rw [List.length_cons] at hn hi
   obtain rfl:n=X.length:=by omega
   obtain⟨c',h'⟩:=scan_rest X _ i h (by omega)
   exact⟨c',by rw [List.drop_succ_cons,List.length_cons,h'];congr 1;omega⟩
theorem stk_enough{l:List Nd}{k n:Nat}(h:scan 1 (l.drop k)=some n)(t:Nat)(ht:t<n):∃ x,l[k+t]? = some x∧0≤ar x∧((l.drop k).take n).drop t=x::((l.drop k).take n).drop (t+1)∧(ar x).toNat≤(stk (((l.drop k).take n).drop (t+1))).length:=by
 have hle:=(scan_le _ _ _ h).2
 rw [List.length_drop] at hle
 have hp:=scan_prefix _ _ _ [] h
 rw [List.append_nil] at hp
 have hlen:((l.drop k).take n).length=n:=by rw [List.length_take,List.length_drop];omega
 obtain⟨c,hc⟩:=scan_rest _ 1 t (by rw [hlen];exact hp) (by omega)
 rw [hlen] at hc
 have hkt:k+t<l.length:=by omega
 have hx:((l.drop k).take n)[t]? = some l[k+t]:=by
  rw [List.getElem?_take_of_lt ht,List.getElem?_drop,List.getElem?_eq_getElem hkt]
 obtain⟨h1,h2⟩:=List.getElem?_eq_some_iff.1 hx
 have hd:((l.drop k).take n).drop t=l[k+t]::((l.drop k).take n).drop (t+1):=by rw [List.drop_eq_getElem_cons h1,h2]
 refine⟨l[k+t],List.getElem?_eq_getElem hkt,?_,hd,?_⟩
 ·rcases Int.lt_or_le (ar l[k+t]) 0 with q | q
  ·cases c with
   | zero=>rw [scan_0] at hc;simp at hc;omega
   | succ c=>rw [hd,scan_bad q] at hc;cases hc
  ·exact q
 ·cases c with
  | zero=>rw [scan_0] at hc;simp at hc;omega
  | succ c =>
   have h0:0≤ar l[k+t]:=by
    rcases Int.lt_or_le (ar l[k+t]) 0 with q | q
    ·rw [hd,scan_bad q] at hc;cases hc
    ·exact q
   rw [hd,scan_good h0,Option.map_eq_some_iff] at hc
   obtain⟨n',hc,hn'⟩:=hc
   have e:((l.drop k).take n).drop (t+1)=(l.drop (k+t+1)).take n':=by
    rw [List.drop_take,List.drop_drop]
    congr 1
    omega
   rw [e] at hc ⊢
   have hc':scan (c+(ar l[k+t]).toNat) ((l.drop (k+t+1)).take n')=some n':=hc
   rw [stk_kids l n' _ (k+t+1) hc',List.length_map,kids_len]
   omega
theorem stk_whole{l:List Nd}{k n:Nat}(h:scan 1 (l.drop k)=some n):stk ((l.drop k).take n)=[adep l k]:=by
 have hp:=scan_prefix _ _ _ [] h
 rw [List.append_nil] at hp
 rw [stk_kids l n 1 k hp]
 rfl
end Go.Proofs.YtekogckmgkodfaaGreatDoor.Arena
namespace Go.Proofs.YtekogckmgkodfaaGreatDoor.Arena
open Go.RowKit Mem
attribute [local go_sem ↓] Go.wp_at_zero Go.wp_at_succ
def dcells(D:List Nat):List Value:=icells (D.map Int.ofNat)
theorem own_take{w:World}{base:Nat}{e:TypeId}{g n cap:Nat}{cs:List Value}(h:w.ownsRow base e 1 (.slice (some ⟨g,0,none⟩) n cap) n cs)(k:Nat)(hk:k≤n):w.ownsRow base e 1 (.slice (some ⟨g,0,none⟩) k cap) k (cs.take k):=by
 obtain⟨hl,h⟩:=h
 rcases h with⟨h,-⟩ | ⟨g',cap',cur,h',hb,hg,hnc,hcm,hcs,htake⟩
 ·cases h
 ·simp only [Value.slice.injEq,Option.some.injEq,Addr.mk.injEq,and_true,true_and] at h'
  obtain⟨rfl,rfl⟩:=h'
  refine⟨by rw [List.length_take];omega,.inr ⟨g,cap,cur,rfl,hb,hg,by omega,hcm,hcs,?_⟩⟩
  rw [← htake,List.take_take,Nat.mul_one,Nat.mul_one]
  congr 1
  omega
theorem dcells_len(D:List Nat):(dcells D).length=D.length:=by simp [dcells,icells]
theorem dcells_take(D:List Nat)(k:Nat):(dcells D).take k=dcells (D.take k):=by simp [dcells,icells]
theorem dcells_snoc(D:List Nat)(d:Nat):dcells D++[.int .i64 (d:Int)]=dcells (D++[d]):=by simp [dcells,icells]
theorem own_tail{w:World}{base:Nat}{g n cap:Nat}{D:List Nat}(h:w.ownsRow base 3 1 (.slice (some ⟨g,0,none⟩) n cap) n (dcells D))(o:Nat):IRow w w.heap.size (some ⟨g,o,none⟩) ((D.drop o).map Int.ofNat):=by
 have hg:g<w.heap.size:=(h.lt g rfl).2
 intro i x hx
 rw [List.getElem?_map,List.getElem?_drop,Option.map_eq_some_iff] at hx
 obtain⟨d,hd,rfl⟩:=hx
 refine⟨_,rfl,hg,?_⟩
 have hc:=h.cells (g:=g) rfl (o+i) (.int .i64 (d:Int)) (by unfold dcells icells;rw [List.getElem?_map,List.getElem?_map,hd];rfl)
 refine Eq.trans ?_ hc
 congr 1
 unfold Addr.add
 by_cases hi:i=0
 ·subst hi
  by_cases ho:o=0
  ·subst ho;simp
  ·rw [if_pos rfl,if_neg (by omega)];simp
 ·rw [if_neg hi,if_neg (by omega)];simp
theorem own_cap{w:World}{base:Nat}{e:TypeId}{g n cap:Nat}{cs:List Value}(h:w.ownsRow base e 1 (.slice (some ⟨g,0,none⟩) n cap) n cs):n≤cap:=by
 rcases h.2 with⟨h,-⟩ | ⟨g',cap',cur,h',hb,hg,hnc,-⟩
 ·cases h
 ·simp only [Value.slice.injEq,Option.some.injEq,Addr.mk.injEq,and_true,true_and] at h'
  obtain⟨rfl,rfl⟩:=h'
  exact hnc
theorem stk_len:∀ X:List Nd,(stk X).length≤X.length
 | []=>Nat.le_refl _
 | x::X=>by
  have:=stk_len X
  rw [stk,List.length_cons,List.length_drop,List.length_cons]
  omega
end Go.Proofs.YtekogckmgkodfaaGreatDoor.Arena
namespace Go.Proofs.YtekogckmgkodfaaGreatDoor.Arena
open Go.RowKit Mem
def bads(xs:List Nd):Bool:=xs.any fun x=>decide (ar x<0)
def acheck(xs:List Nd):Int:=if xs.length=0 then 10 else if 200<xs.length then 4 else if bads xs=true then 11 else if aend xs 0≠xs.length then 12 else if 30<adep xs 0 then 13 else 0
theorem bads_snoc(xs:List Nd)(k:Nat)(x:Nd)(h:xs[k]? = some x):bads (xs.take (k+1))=(bads (xs.take k) || decide (ar x<0)):=by
 rw [take_snoc xs k x h];simp [bads]
theorem bads_at{xs:List Nd}{k:Nat}{x:Nd}(h:xs[k]? = some x)(hx:ar x<0):bads xs=true:=by
 unfold bads
 rw [List.any_eq_true]
 exact⟨x,List.mem_of_getElem? h,by simpa using hx⟩
end Go.Proofs.YtekogckmgkodfaaGreatDoor.Arena
namespace Go.Proofs.YtekogckmgkodfaaGreatDoor.Arena
open Go.RowKit Mem
attribute [local go_sem ↓] Go.wp_at_zero Go.wp_at_succ
theorem Nodes.of_blk{w:World}{g B:Nat}{xs:List Nd}(h:Blk w g 105 (ncells xs).toArray)(hB:g<B):Nodes w B (some ⟨g,0,none⟩) xs:=by
 intro i x hx
 obtain⟨h1,h2⟩:=ncells_get xs i x hx
 refine⟨_,rfl,hB,?_,?_⟩
 ·have:(⟨g,0,none⟩:Addr).add (i*2)=⟨g,i*2,none⟩:=by unfold Addr.add;split<;>simp_all
  rw [this,h.cell];simpa using h1
 ·have:(⟨g,0,none⟩:Addr).add (i*2)=⟨g,i*2,none⟩:=by unfold Addr.add;split<;>simp_all
  rw [this]
  show w.cell? ⟨g,i*2+1,none⟩=_
  rw [h.cell];simpa using h2
theorem IRow.of_blk{w:World}{g B:Nat}{ks:List Int}(h:Blk w g 3 (icells ks).toArray)(hB:g<B):IRow w B (some ⟨g,0,none⟩) ks:=by
 intro i x hx
 refine⟨_,rfl,hB,?_⟩
 have:(⟨g,0,none⟩:Addr).add i=⟨g,i,none⟩:=by unfold Addr.add;split<;>simp_all
 rw [this,h.cell];simp [icells,hx]
theorem Nodes.drewAt{w:World}{A:Option Addr}{xs:List Nd}(h:Nodes w w.heap.size A xs):Nodes w.drew w.drew.heap.size A xs:=h
theorem Nodes.drew{w:World}{B:Nat}{A:Option Addr}{xs:List Nd}(h:Nodes w B A xs):Nodes w.drew B A xs:=h
def L4:List Nd:=[(7,0),(1,1),(5,0),(1,2)]
theorem ex_scan:scan 1 L4=some 4:=by simp [L4,scan_cons,scan_0,ar,asks]
theorem ex_scan1:scan 1 (L4.drop 1)=some 1:=by simp [L4,scan_cons,scan_0,ar]
theorem ex_scan2:scan 1 (L4.drop 2)=some 2:=by simp [L4,scan_cons,scan_0,ar,asks]
theorem ex_scan3:scan 1 (L4.drop 3)=some 1:=by simp [L4,scan_cons,scan_0,ar]
theorem ex_end:aend L4 0=4:=by have:=aend_some (l:=L4) (a:=0) (n:=4) ex_scan;simpa using this
theorem ex_end1:aend L4 1=2:=by have:=aend_some (l:=L4) (a:=1) (n:=1) ex_scan1;simpa using this
theorem ex_end2:aend L4 2=4:=by have:=aend_some (l:=L4) (a:=2) (n:=2) ex_scan2;simpa using this
theorem ex_end3:aend L4 3=4:=by have:=aend_some (l:=L4) (a:=3) (n:=1) ex_scan3;simpa using this
theorem ex_kids:akids L4 0=[1,2]:=by
 unfold akids
 rw [ex_end]
 simp [L4,ar,asks,kidsFrom]
 exact ex_end1
theorem ex_kids1:akids L4 1=[]:=by
 unfold akids
 rw [ex_end1]
 simp [L4,ar,kidsFrom]
theorem ex_kids2:akids L4 2=[3]:=by
 unfold akids
 rw [ex_end2]
 simp [L4,ar,asks,kidsFrom]
theorem ex_kids3:akids L4 3=[]:=by
 unfold akids
 rw [ex_end3]
 simp [L4,ar,kidsFrom]
theorem ex_dep3:adep L4 3=1:=by
 have:=adep_good (l:=L4) (k:=3) (n:=1) ex_scan3
 rw [show((3:Nat):Int)=3 from rfl,ex_kids3] at this
 exact this
theorem ex_dep1:adep L4 1=1:=by
 have:=adep_good (l:=L4) (k:=1) (n:=1) ex_scan1
 rw [show((1:Nat):Int)=1 from rfl,ex_kids1] at this
 exact this
theorem ex_dep2:adep L4 2=2:=by
 have:=adep_good (l:=L4) (k:=2) (n:=2) ex_scan2
 rw [show((2:Nat):Int)=2 from rfl,ex_kids2,List.map_cons,List.map_nil,ex_dep3] at this
 exact this
theorem ex_dep:adep L4 0=3:=by
 have:=adep_good (l:=L4) (k:=0) (n:=4) ex_scan
 rw [show((0:Nat):Int)=0 from rfl,ex_kids,List.map_cons,List.map_cons,List.map_nil,ex_dep1,ex_dep2] at this
 exact this
theorem ex_part:apart L4 2=[(5,0),(1,2)]:=by unfold apart;rw [ex_end2];rfl
theorem ex_rep:arep L4 2 [(1,1)]=[(7,0),(1,1),(1,1)]:=by unfold arep;rw [ex_end2];rfl
theorem ex_cut:aend [(7,0),(1,1)] 0 = -1:=by
 have:scan 1 ([(7,0),(1,1)]:List Nd)=none:=by simp [scan_cons,scan_nil,ar,asks]
 exact aend_none (a:=0) this
theorem ex_check:acheck L4=0:=by
 unfold acheck
 rw [ex_end,ex_dep]
 simp [L4,bads,ar,asks]
theorem ex_check0:acheck []=10:=rfl
end Go.Proofs.YtekogckmgkodfaaGreatDoor.Arena
namespace Go.Proofs.YtekogckmgkodfaaGreatDoor.Arena
open Go.RowKit Mem Go.ChangeShapes Go.WideShapes Go.Deep Go.Joins
theorem cells_atN{w:World}{base n:Nat}{a:Addr}{cs:List Value}(h:w.cells? base a n=some cs):∀ j v,cs[j]? = some v→w.cell? (a.add j)=some v:=by
 obtain⟨_,hl,hat⟩:=World.cells?_some h
 intro j v hj
 have hlt:=(List.getElem?_eq_some_iff.1 hj).1
 rw [hat j (by omega),hj]
section
variable {H:Type} {enc:TypeId×Value→H} {W:World} {spare:Nat→Bool} {held:Bool}
theorem node_of{n:Nat}{cs:List Value}{x:DataW H×List MemPlace}(h:DataW.trod enc Tryz.prog W 0 spare held n 105 cs=some x):∃ y:Nd,cs=[.int .i64 y.1,.int .i64 y.2]:=by
 have hC:Tryz.prog.cellsOf 105=2:=by kernel_rfl
 obtain⟨y0,y1,m,hx,hl,h0,h1⟩:=trod_struct2 Tryz.underlying105 h
 rw [hC] at hl
 match cs,hl with
 | [c0,c1],_ =>
  obtain⟨k,e0,-,-⟩:=DataW.trod_int Tryz.underlying3 h0
  obtain⟨n,e1,-,-⟩:=DataW.trod_int Tryz.underlying3 h1
  have hC0:Tryz.prog.cellsOf 3=1:=by kernel_rfl
  simp only [hC0] at e0 e1
  simp at e0 e1
  exact⟨⟨k,n⟩,by simp [e0,e1]⟩
theorem open_node{b0:Nat}{v:Value}{d:DataW H}{p:List MemPlace}(hv:Value.okWide Tryz.prog W .any b0 105 v)(h:DataW.Trod enc Tryz.prog W 0 spare held 105 v d p) :
  ∃ (t n:Int),v=.agg #[.int .i64 t,.int .i64 n]:=by
 obtain⟨cs,rfl,-⟩:=okWide_struct Tryz.underlying105 hv
 obtain⟨fuel,hf⟩:=h
 obtain⟨y,hy⟩:=node_of hf
 obtain⟨l⟩:=cs
 have hy':l=[.int .i64 y.1,.int .i64 y.2]:=by simpa [Value.cells] using hy
 subst hy'
 exact⟨y.1,y.2,rfl⟩
theorem open_nodes{b0:Nat}{v:Value}{d:DataW H}{p:List MemPlace}(hv:Value.okWide Tryz.prog W .any b0 23 v)(h:DataW.Trod enc Tryz.prog W 0 spare held 23 v d p) :
  ∃ (A:Option Addr) (cap:Nat) (xs:List Nd),v=.slice A xs.length cap∧xs.length≤maxLen∧xs.length≤cap∧(A=none→cap=0)∧Nodes W W.heap.size A xs:=by
 obtain⟨A,len,cap,rfl⟩:=okWide_slice Tryz.underlying23 hv
 obtain⟨fuel,hf⟩:=h
 have hC:Tryz.prog.cellsOf 105=2:=by kernel_rfl
 rcases open_slice Tryz.underlying23 hf with⟨hcs,-⟩ | ⟨a,len',cap',m,n,D,Pl,hcs,-,hlc,hcm,hm,hx,hi⟩
 ·simp [Value.cells] at hcs
  obtain⟨rfl,rfl,rfl⟩:=hcs
  exact⟨none,0,[],rfl,by simp,by simp,fun _=>rfl,fun i x h=>by simp at h⟩
 ·simp [Value.cells] at hcs
  obtain⟨rfl,rfl,rfl⟩:=hcs
  rw [hC] at hi
  have hlm:len≤m:=by rw [hm];split<;>omega
  have each:∀ i,i<len→∃ y:Nd,(a.add (i*2)).block=a.block∧W.cell? (a.add (i*2))=some (.int .i64 y.1)∧W.cell? ⟨(a.add (i*2)).block,(a.add (i*2)).off+1,none⟩=some (.int .i64 y.2):=by
   intro i hil
   obtain⟨cs',hc,ht⟩:=hi i (by omega)
   obtain⟨y,hy⟩:=node_of ht
   have hat:=cells_atN hc
   subst hy
   refine⟨y,add_blockN _ _,?_,?_⟩
   ·exact hat 0 _ rfl
   ·have:=hat 1 _ rfl;rwa [add_off _ _ (by omega)] at this
  obtain⟨F,hF⟩:=choose_lt each
  refine⟨some a,cap,(List.range len).map F,by simp,by simp;omega,by simpa using hlc,(fun e=>by cases e),fun i x hxi=>?_⟩
  obtain⟨hil,rfl⟩:i<len∧F i=x:=by
   rw [List.getElem?_map] at hxi
   have h1:(List.range len)[i]? = some i:=by
    rcases Nat.lt_or_ge i len with h | h
    ·rw [List.getElem?_range h]
    ·rw [List.getElem?_eq_none (by simpa using h)] at hxi;cases hxi
   rw [h1] at hxi
   have h2:=(List.getElem?_eq_some_iff.1 h1).1
   exact⟨by simpa using h2,by simpa using hxi⟩
  obtain⟨hb,q0,q1⟩:=hF i hil
  exact⟨a,rfl,by have:=World.block_lt_of_cell? W _ q0;rw [hb] at this;exact this,q0,q1⟩
end
end Go.Proofs.YtekogckmgkodfaaGreatDoor.Arena
namespace Go.Proofs.YtekogckmgkodfaaGreatDoor.Arena
section
variable {β:Type} (f:Nd→List β→β) (d:β)
def fold:List Nd→List β
 | []=>[]
 | x::X=>f x ((fold X).take (ar x).toNat)::(fold X).drop (ar x).toNat
theorem fold_cons(x:Nd)(X:List Nd):fold f (x::X)=f x ((fold f X).take (ar x).toNat)::(fold f X).drop (ar x).toNat:=rfl
def val(l:List Nd)(a:Int):β:=(fold f (apart l a)).headD d
theorem fold_len:∀ (X:List Nd) (c:Nat),scan c X=some X.length→(fold f X).length=c
 | [],0,_=>rfl
 | [],c+1,h=>by rw [scan_nil] at h;cases h
 | x::X,0,h=>by rw [scan_0] at h;simp at h
 | x::X,c+1,h=>by
  by_cases hx:ar x<0
  ·rw [scan_bad hx] at h;cases h
  ·rw [scan_good (by omega),Option.map_eq_some_iff] at h
   obtain⟨m,h,hm⟩:=h
   rw [List.length_cons] at hm
   obtain rfl:m=X.length:=by omega
   rw [fold_cons,List.length_cons,List.length_drop,fold_len X _ h]
   omega
theorem fold_append:∀ (P:List Nd) (c:Nat) (Z:List Nd),scan c P=some P.length→fold f (P++Z)=fold f P++fold f Z
 | [],_,Z,_=>rfl
 | x::P,0,Z,h=>by rw [scan_0] at h;simp at h
 | x::P,c+1,Z,h=>by
  by_cases hx:ar x<0
  ·rw [scan_bad hx] at h;cases h
  ·rw [scan_good (by omega),Option.map_eq_some_iff] at h
   obtain⟨m,h,hm⟩:=h
   rw [List.length_cons] at hm
   obtain rfl:m=P.length:=by omega
   have hl:=fold_len f P _ h
   rw [List.cons_append,fold_cons,fold_cons,fold_append P _ Z h,List.take_append_of_le_length (by omega),List.drop_append_of_le_length (by omega),List.cons_append]
theorem fold_congr(X:List Nd){A B:List Nd}(h:fold f A=fold f B):fold f (X++A)=fold f (X++B):=by
 induction X with
 | nil=>exact h
 | cons x X ih=>rw [List.cons_append,List.cons_append,fold_cons,fold_cons,ih]
theorem fold_part{l:List Nd}{k n:Nat}(h:scan 1 (l.drop k)=some n):fold f (apart l k)=[val f d l k]:=by
 have hp:=part_scan h
 rw [← part_len h] at hp
 have hl:=fold_len f _ 1 hp
 unfold val
 match hf:fold f (apart l k),hl with
 | [y],_=>rfl
theorem fold_kids{l:List Nd}(qs:List Int)(hq:∀ q∈qs,0≤aend l q):fold f (qs.flatMap (apart l))=qs.map (val f d l):=by
 induction qs with
 | nil=>rfl
 | cons q qs ih =>
  have h0:=hq q (List.mem_cons_self ..)
  rcases aend_cases l q with h | ⟨k,n,rfl,hs,he,h1,h2⟩
  ·omega
  ·have hp:=part_scan hs
   rw [← part_len hs] at hp
   rw [List.flatMap_cons,fold_append f _ 1 _ hp,fold_part f d hs,ih (fun q h=>hq q (List.mem_cons_of_mem _ h))]
   rfl
theorem val_kids{l:List Nd}{k n:Nat}(h:scan 1 (l.drop k)=some n):∃ x,l[k]? = some x∧0≤ar x∧(akids l k).length=(ar x).toNat∧val f d l k=f x ((akids l k).map (val f d l)):=by
 obtain⟨x,hx,hl,h0,hp⟩:=part_kids h
 refine⟨x,hx,h0,hl,?_⟩
 have hk:=fold_kids f d (l:=l) (akids l k) (fun q hq=>(kids_in h q hq).2.2)
 unfold val at hk ⊢
 rw [hp,fold_cons,hk,List.take_of_length_le (by rw [List.length_map];omega)]
 rfl
theorem val_bad{l:List Nd}{a:Int}(h:aend l a<0):val f d l a=d:=by
 unfold val apart;rw [if_pos h];rfl
theorem whole_part{l:List Nd}(h:scan 1 l=some l.length):apart l 0=l:=by
 have e:=aend_some (l:=l) (a:=0) (n:=l.length) h
 show apart l ((0:Nat):Int)=l
 unfold apart
 rw [if_neg (by rw [e];omega),e]
 rw [show(((0:Nat):Int)+(l.length:Int)).toNat-((0:Nat):Int).toNat=l.length by omega,show((0:Nat):Int).toNat=0 from rfl,List.drop_zero,List.take_length]
theorem val_part{l:List Nd}{k n:Nat}(h:scan 1 (l.drop k)=some n):val f d (apart l k) 0=val f d l k:=by
 have e:apart (apart l k) 0=apart l k:=whole_part (by rw [part_len h];exact part_scan h)
 unfold val
 rw [e]
theorem val_rep{l m:List Nd}{k n:Nat}(hw:scan 1 l=some l.length)(h:scan 1 (l.drop k)=some n)(hm:scan 1 m=some m.length)(hv:val f d m 0=val f d l k):val f d (arep l k m) 0=val f d l 0:=by
 obtain⟨hs,ht⟩:=split3 h
 have hr:=(rep_whole hw h hm).1
 have hp:=part_scan h
 rw [← part_len h] at hp
 have e1:fold f (apart l k)=[val f d l k]:=fold_part f d h
 have e2:fold f m=[val f d m 0]:=by
  have:=fold_part f d (l:=m) (k:=0) (n:=m.length) hm
  rw [show((0:Nat):Int)=0 from rfl,whole_part hm] at this
  exact this
 have e3:fold f (arep l k m)=fold f l:=by
  rw [rep_is h]
  conv=>rhs;rw [hs]
  apply fold_congr
  rw [fold_append f _ 1 _ hm,fold_append f _ 1 _ hp,e1,e2,hv]
 unfold val
 rw [whole_part hr,whole_part hw,e3]
theorem fold_good(G:β→Prop)(hG:∀ (x:Nd) (ks:List β),0≤ar x→ks.length=(ar x).toNat→G (f x ks)→∀ y∈ks,G y):∀ (X:List Nd) (c i:Nat),scan c X=some X.length→(∀ y∈fold f X,G y)→i≤X.length→∀ y∈fold f (X.drop i),G y
 | X,c,0,_,hg,_=>by rw [List.drop_zero];exact hg
 | [],c,i+1,_,_,hi=>by simp at hi
 | x::X,0,i+1,h,_,_=>by rw [scan_0] at h;simp at h
 | x::X,c+1,i+1,h,hg,hi=>by
  by_cases hx:ar x<0
  ·rw [scan_bad hx] at h;cases h
  ·rw [scan_good (by omega),Option.map_eq_some_iff] at h
   obtain⟨m,h,hm⟩:=h
   rw [List.length_cons] at hm hi
   obtain rfl:m=X.length:=by omega
   have hl:=fold_len f X _ h
   rw [List.drop_succ_cons]
   refine fold_good G hG X _ i h ?_ (by omega)
   intro y hy
   rw [← List.take_append_drop (ar x).toNat (fold f X)] at hy
   rcases List.mem_append.1 hy with hy | hy
   ·exact hG x _ (by omega) (by rw [List.length_take];omega) (hg _ (by rw [fold_cons];exact List.mem_cons_self ..)) y hy
   ·exact hg y (by rw [fold_cons];exact List.mem_cons_of_mem _ hy)
theorem val_good(G:β→Prop)(hG:∀ (x:Nd) (ks:List β),0≤ar x→ks.length=(ar x).toNat→G (f x ks)→∀ y∈ks,G y){l:List Nd}(hw:scan 1 l=some l.length)(h0:G (val f d l 0)){k n:Nat}(h:scan 1 (l.drop k)=some n):G (val f d l k):=by
 have e0:fold f l=[val f d l 0]:=by
  have:=fold_part f d (l:=l) (k:=0) (n:=l.length) hw
  rw [show((0:Nat):Int)=0 from rfl,whole_part hw] at this
  exact this
 have hk:k≤l.length:=by have:=scan_le _ _ _ h;rw [List.length_drop] at this;omega
 have hg:=fold_good f G hG l 1 k hw (by rw [e0];intro y hy;rw [List.mem_singleton] at hy;rw [hy];exact h0) hk
 have hp:=part_scan h
 rw [← part_len h] at hp
 have hsp:l.drop k=apart l k++l.drop (k+n):=by
  obtain⟨hs,ht⟩:=split3 h
  conv=>lhs;rw [hs]
  rw [List.drop_left' ht]
 rw [hsp,fold_append f _ 1 _ hp,fold_part f d h] at hg
 exact hg _ (List.mem_append_left _ (List.mem_singleton.2 rfl))
end
end Go.Proofs.YtekogckmgkodfaaGreatDoor.Arena
