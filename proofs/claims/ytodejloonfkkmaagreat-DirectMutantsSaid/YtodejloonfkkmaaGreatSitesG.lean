/-
  Plain facts on all mutants of a program: in order, each once, just those that the catalogue lets. No program is met here.
  Plain facts on a program that is changed by one of its mutants: it is another one; two by one operator are unlike; where one is found. No program is met here.
  A row of deltas with their paths: in memory, and as a row that a call owns.
  The reference of all mutants, walked: are two rows alike, does one rise, is a delta a mutant's; and whether deltas are few.
  The reference of all mutants, walked: All, node by node, two loops.
  The reference of all mutants, walked: is a delta a mutant's; a program that is changed by one.
  What the functions of all mutants come to.
  A mutant in a box of its own.
-/
import Derived.Test.YtodejloonfkkmaaGreatCatG
import Derived.Test.YtodejloonfkkmaaGreatDeltaG
import Derived.Test.YtodejloonfkkmaaGreatDeltaR
import Derived.Test.YtodejloonfkkmaaGreatPathG
import Derived.Test.YtodejloonfkkmaaGreatKindsG
import Derived.Deep.RegionHeld3
import Derived.Deep.DrawnRows
import Derived.Deep.QuietTactic
import Derived.BigQuiet
import Derived.Test.YtodejloonfkkmaaGreatDeltaO
import Derived.Test.YtodejloonfkkmaaGreatKindsP
import Derived.Test.YtodejloonfkkmaaGreatCatH
set_option linter.unusedVariables false
namespace Go.Proofs.YtodejloonfkkmaaGreat.Sites
open Arena Delta Path Cat
abbrev Mt:=List Int×Int×Int
noncomputable def ppath(l:List Nd)(a:Int):List Int:=open Classical in if h:∃ p,Leads l a p then h.choose else []
theorem ppath_leads{l:List Nd}{a:Int}{p:List Int}(h:Leads l a p):ppath l a=p:=by
 have hx:∃ p,Leads l a p:=⟨p,h⟩
 unfold ppath
 rw [dif_pos hx]
 exact hx.choose_spec.one h
theorem leads_ppath{l:List Nd}(hw:Whole l){a:Nat}(ha:a<l.length):Leads l a (ppath l a):=by
 obtain⟨p,hp⟩:=leads_ex hw (b:=(a:Int)) (by omega) (by omega)
 rw [ppath_leads hp]
 exact hp
theorem find_leads{l:List Nd}{a:Nat}{p:List Int}:pfind l p=(a:Int)↔Leads l a p:=by
 unfold pfind Leads Whole
 by_cases h:aend l 0=l.length
 ·rw [if_pos h]
  exact⟨fun k=>⟨h,by omega,k⟩,fun k=>k.2.2⟩
 ·rw [if_neg h]
  exact⟨fun k=>by omega,fun k=>absurd k.1 h⟩
noncomputable def mat(l:List Nd)(a:Nat):List Mt:=(chs l a).map fun b=>(ppath l a,b.1,b.2)
noncomputable def mupto(l:List Nd):Nat→List Mt
 | 0=>[]
 | k+1=>mupto l k++mat l k
noncomputable def msites(l:List Nd):List Mt:=mupto l l.length
theorem mat_len(l:List Nd)(a:Nat):(mat l a).length=(chs l a).length:=List.length_map ..
theorem chs_row(l:List Nd)(a:Int):Row (chs l a)∧(chs l a).length≤5∧∀ op n,isv l a op n=decide ((op,n)∈chs l a):=by
 rcases aend_cases l a with he | ⟨k,m,rfl,hs,-,-,-⟩
 ·have h1:chs l a=[]:=if_pos (by rw [he];decide)
  have h2:∀ op n,isv l a op n=false:=fun op n=>if_pos (by rw [he];decide)
  rw [h1]
  exact⟨trivial,by decide,fun op n=>by rw [h2];simp⟩
 ·rw [chs_some hs]
  have hb:=bool_rng (arity_some hs).1
  obtain⟨h1,h2⟩:=choices_row (nodeAt l k) (behind l k) hb
  refine⟨h1,choices_len _ _ hb,fun op n=>?_⟩
  rw [isv_some hs]
  by_cases q:cis (nodeAt l k) (behind l k) op n=true
  ·rw [q,decide_eq_true ((h2 op n).2 q)]
  ·rw [decide_eq_false (fun z=>q ((h2 op n).1 z))]
   simpa using q
theorem mupto_len(l:List Nd):∀ k,(mupto l k).length≤k*5
 | 0=>Nat.le_refl _
 | k+1=>by
  have:=mupto_len l k
  have:=(chs_row l k).2.1
  rw [mupto,List.length_append,mat_len]
  omega
theorem mupto_mem{l:List Nd}:∀ {k:Nat} {m:Mt},m∈mupto l k↔∃ a,a<k∧m∈mat l a
 | 0,m=>⟨(fun h=>by cases h),fun⟨_,h,_⟩=>by omega⟩
 | k+1,m=>by
  rw [mupto,List.mem_append,mupto_mem]
  constructor
  ·rintro(⟨a,h1,h2⟩ | h)
   ·exact⟨a,by omega,h2⟩
   ·exact⟨k,by omega,h⟩
  ·rintro⟨a,h1,h2⟩
   by_cases q:a=k
   ·subst q;exact .inr h2
   ·exact .inl ⟨a,by omega,h2⟩
theorem mat_mem{l:List Nd}{a:Nat}{p:List Int}{op n:Int}:(p,op,n)∈mat l a↔p=ppath l a∧(op,n)∈chs l a:=by
 unfold mat
 rw [List.mem_map]
 constructor
 ·rintro⟨b,hb,e⟩
  simp only [Prod.mk.injEq] at e
  obtain⟨rfl,rfl,rfl⟩:=e
  exact⟨rfl,hb⟩
 ·rintro⟨rfl,h⟩
  exact⟨_,h,rfl⟩
theorem sites_mem{l:List Nd}(hw:Whole l){p:List Int}{op n:Int}:(p,op,n)∈msites l↔0≤pfind l p∧isv l (pfind l p) op n=true:=by
 unfold msites
 rw [mupto_mem]
 constructor
 ·rintro⟨a,ha,h⟩
  obtain⟨rfl,h2⟩:=mat_mem.1 h
  rw [find_leads.2 (leads_ppath hw ha),(chs_row l a).2.2]
  exact⟨by omega,decide_eq_true h2⟩
 ·rintro⟨h0,h⟩
  obtain⟨a,e⟩:=Int.eq_ofNat_of_zero_le h0
  have hl:=find_leads.1 e
  have hr:=hl.rng
  rw [e,(chs_row l a).2.2] at h
  exact⟨a,by omega,mat_mem.2 ⟨(ppath_leads hl).symm,of_decide_eq_true h⟩⟩
theorem mupto_succ(l:List Nd)(k:Nat):mupto l (k+1)=mupto l k++mat l k:=rfl
theorem swap_at{l m:List Nd}{a b:Nat}{z:Nd}(ha:a≤l.length):(swap l a b (z::m))[a]? = some z:=by
 unfold swap
 rw [List.append_assoc,List.getElem?_append_right (by rw [List.length_take];omega),List.length_take,Nat.min_eq_left ha,Nat.sub_self]
 rfl
def newNd(x:Nd)(op n:Int):Nd:=if op=4 then(x.1,n) else(n,x.2)
theorem dch_one{l:List Nd}{a:Nat}{x:Nd}(hx:l[a]? = some x){op n:Int}(h1:1≤op)(h4:op≤4):dch l a op n=swap l a (a+1) [newNd x op n]:=by
 unfold dch newNd
 rw [getD_at hx]
 by_cases q:op=4
 ·rw [if_neg (by omega),if_pos q,if_pos q]
 ·rw [if_pos (by omega),if_neg q]
theorem newNd_ne{x y:Nd}(hb:x.1=2→0≤x.2∧x.2≤1){op n:Int}(h1:1≤op)(h4:op≤4)(h:cis x y op n=true):newNd x op n≠x:=by
 obtain⟨t,v⟩:=x
 unfold newNd
 unfold cis at h
 simp only at hb h ⊢
 by_cases q:op=4
 ·subst q
  simp at h
  rw [if_pos rfl]
  intro e
  simp only [Prod.mk.injEq,true_and] at e
  rcases h with⟨h1,h2,h3⟩ | ⟨h1,h2⟩
  ·exact h3 e
  ·obtain⟨b0,b1⟩:=hb h1
   unfold rnd at h2
   rw [IntKind.wrap_i64] at h2
   omega
 ·rw [if_neg q]
  intro e
  simp only [Prod.mk.injEq,and_true] at e
  by_cases o1:op=1
  ·rw [if_pos o1] at h;simp at h;omega
  rw [if_neg o1] at h
  by_cases o2:op=2
  ·rw [if_pos o2] at h;simp at h;omega
  rw [if_neg o2] at h
  by_cases o3:op=3
  ·rw [if_pos o3] at h;simp at h;omega
  ·omega
theorem dch_new{l:List Nd}{a m:Nat}(hs:scan 1 (l.drop a)=some m){op n:Int}(h:cis (nodeAt l a) (behind l a) op n=true):dch l a op n≠l:=by
 have hx:=nodeAt_some hs
 have hb:=bool_rng (arity_some hs).1
 have ha:a<l.length:=(List.getElem?_eq_some_iff.1 hx).1
 by_cases h4:1≤op∧op≤4
 ·have hn:=newNd_ne hb h4.1 h4.2 h
  rw [dch_one hx h4.1 h4.2]
  intro e
  have:=swap_at (l:=l) (m:=[]) (a:=a) (b:=a+1) (z:=newNd (nodeAt l a) op n) (by omega)
  rw [e,hx] at this
  exact hn (Option.some.inj this).symm
 ·have hop:op=5∨op=6∨op=7:=by
   by_cases q:op=5∨op=6∨op=7
   ·exact q
   ·unfold cis at h
    rw [if_neg (by omega),if_neg (by omega),if_neg (by omega),if_neg (by omega),if_neg (by omega),if_neg (by omega),if_neg (by omega)] at h
    cases h
  rcases hop with rfl | rfl | rfl
  ·intro e
   have h0:dch l a 5 n=swap l a (aend l a).toNat [(26,0)]:=by unfold dch;simp
   rw [h0] at e
   have:=swap_at (l:=l) (m:=[]) (a:=a) (b:=(aend l a).toNat) (z:=((26,0):Nd)) (by omega)
   rw [e,hx] at this
   have hx6:=Option.some.inj this
   unfold cis at h
   rw [hx6] at h
   simp at h
  ·intro e
   have h0:dch l a 6 n=swap l (a+1) (a+1) [(6,0)]:=by unfold dch;simp
   rw [h0] at e
   have:=congrArg List.length e
   rw [swap_len (by omega)] at this
   simp at this
   omega
  ·intro e
   have h0:dch l a 7 n=swap l (a+1) (aend l ((a+1:Nat):Int)).toNat [(1,n)]:=by unfold dch;simp
   rw [h0] at e
   unfold cis at h
   simp at h
   obtain⟨h25,-,hy⟩:=h
   have hb1:=behind_some hs h25
   have:=swap_at (l:=l) (m:=[]) (a:=a+1) (b:=(aend l ((a+1:Nat):Int)).toNat) (z:=((1,n):Nd)) (by omega)
   rw [e,hb1] at this
   exact hy (Option.some.inj this)
theorem sites_apply{l:List Nd}(hw:Whole l){p:List Int}{op n:Int}(h:(p,op,n)∈msites l):∃ a m:Nat,pfind l p=a∧scan 1 (l.drop a)=some m∧a+m≤l.length∧cis (nodeAt l a) (behind l a) op n=true ∧
  aerr l p op n=0∧anew l p op n=dch l a op n∧dmay (nodeAt l a).1 op n=true∧dch l a op n≠l:=by
 obtain⟨h0,h1⟩:=(sites_mem hw).1 h
 rcases find_cases l p with e | ⟨a,m,x,e,hs,hx,hl,-⟩
 ·omega
 ·rw [e,isv_some hs] at h1
  have hb:=bool_rng (arity_some hs).1
  have hx':=nodeAt_some hs
  rw [hx'] at hx
  have hm:=cis_may hb h1
  refine⟨a,m,e,hs,hl,h1,?_,?_,hm,dch_new hs h1⟩
  ·rw [aerr_at e hx',if_pos hm]
  ·unfold anew
   rw [e,Int.toNat_natCast]
end Go.Proofs.YtodejloonfkkmaaGreat.Sites
namespace Go.Proofs.YtodejloonfkkmaaGreat.Sites
open Go.RowKit Mem Arena Delta Path Cat
abbrev dl (P:Option Addr) (c:Nat) (m:Mt):Dlt:=⟨P,c,m.1,m.2.1,m.2.2⟩
def Cem(w:World)(ad:Addr)(j:Nat)(P:Option Addr)(c:Nat)(m:Mt):Prop :=
 w.cell? (ad.add (j*3))=some (.slice P m.1.length c)∧w.cell? ⟨(ad.add (j*3)).block,(ad.add (j*3)).off+1,none⟩=some (.int .i64 m.2.1)∧w.cell? ⟨(ad.add (j*3)).block,(ad.add (j*3)).off+2,none⟩=some (.int .i64 m.2.2)
theorem kept_cell{w w':World}{B:Nat}{a:Addr}{v:Value}(hb:Below B w w')(ha:a.block<B)(h:w.cell? a=some v):w'.cell? a=some v:=by
 have hk:=hb.block a.block ha
 rw [← h];unfold World.cell?;rw [hk]
theorem Cem.keep{w w':World}{ad:Addr}{j:Nat}{P:Option Addr}{c:Nat}{m:Mt}{B:Nat}(h:Cem w ad j P c m)(ha:ad.block<B)(hb:Below B w w'):Cem w' ad j P c m:=by
 obtain⟨h1,h2,h3⟩:=h
 exact⟨kept_cell hb (by rw [add_blockN];exact ha) h1,kept_cell hb (by show(ad.add (j*3)).block<_;rw [add_blockN];exact ha) h2,kept_cell hb (by show(ad.add (j*3)).block<_;rw [add_blockN];exact ha) h3⟩
def MRow(w:World)(A:Option Addr)(L:List Mt):Prop :=
 ∀ (i:Nat) (m:Mt),L[i]? = some m→∃ ad P c,A=some ad∧ad.block<w.heap.size∧(dl P c m).Ok w∧Cem w ad i P c m
theorem MRow.at{w w':World}{A:Option Addr}{L:List Mt}(h:MRow w A L)(hb:Below w.heap.size w w'):MRow w' A L:=by
 intro i m hi
 obtain⟨ad,P,c,e,h1,h2,h3⟩:=h i m hi
 exact⟨ad,P,c,e,Nat.lt_of_lt_of_le h1 hb.size,h2.at hb,h3.keep h1 hb⟩
theorem MRow.get{w:World}{A:Option Addr}{L:List Mt}(h:MRow w A L){i:Nat}{m:Mt}(hi:L[i]? = some m) :
  ∃ ad P c,A=some ad∧∀ W,Below w.heap.size w W→(dl P c m).Ok W∧Cem W ad i P c m:=by
 obtain⟨ad,P,c,e,h1,h2,h3⟩:=h i m hi
 exact⟨ad,P,c,e,fun W hb=>⟨h2.at hb,h3.keep h1 hb⟩⟩
def mcell(z:Option Addr×Nat)(m:Mt):List Value:=[.slice z.1 m.1.length z.2,.int .i64 m.2.1,.int .i64 m.2.2]
def mcells(Y:List ((Option Addr×Nat)×Mt)):List Value:=Y.flatMap fun y=>mcell y.1 y.2
theorem mcells_snoc(Y:List ((Option Addr×Nat)×Mt))(y:(Option Addr×Nat)×Mt):mcells (Y++[y])=mcells Y++mcell y.1 y.2:=by simp [mcells]
theorem mcells_get:∀ (Y:List ((Option Addr×Nat)×Mt)) (i:Nat) (y:(Option Addr×Nat)×Mt),Y[i]? = some y→(mcells Y)[i*3]? = some (.slice y.1.1 y.2.1.length y.1.2)∧(mcells Y)[i*3+1]? = some (.int .i64 y.2.2.1)∧(mcells Y)[i*3+2]? = some (.int .i64 y.2.2.2)
 | [],i,b,h=>by simp at h
 | x::l,0,b,h=>by
  obtain rfl:x=b:=by simpa using h
  exact⟨rfl,rfl,rfl⟩
 | x::l,i+1,b,h=>by
  obtain⟨h1,h2,h3⟩:=mcells_get l i b (by simpa using h)
  have e:mcells (x::l)=mcell x.1 x.2++mcells l:=rfl
  have e3:(mcell x.1 x.2).length=3:=rfl
  rw [e]
  refine⟨?_,?_,?_⟩
  ·rw [List.getElem?_append_right (by rw [e3];omega),e3,← h1];congr 1;omega
  ·rw [List.getElem?_append_right (by rw [e3];omega),e3,← h2];congr 1;omega
  ·rw [List.getElem?_append_right (by rw [e3];omega),e3,← h3];congr 1;omega
def MOwn(w:World)(base:Nat)(v:Value)(L:List Mt):Prop :=
 ∃ Y:List ((Option Addr×Nat)×Mt),Y.map (·.2)=L∧w.ownsRow base 43 3 v L.length (mcells Y)∧∀ y∈Y,(dl y.1.1 y.1.2 y.2).Ok w∧(y.2.1≠[]→∀ ad,y.1.1=some ad→v.ownBlock≠some ad.block)
theorem MOwn.nil(w:World)(base:Nat):MOwn w base (.slice none 0 0) []:=⟨[],rfl,World.ownsRow_nil _ _ _ _,fun y h=>by cases h⟩
theorem MOwn.lt{w:World}{base:Nat}{v:Value}{L:List Mt}(h:MOwn w base v L):∀ k,v.ownBlock=some k→base≤k∧k<w.heap.size:=by
 obtain⟨Y,-,h2,-⟩:=h
 exact fun k e=>h2.lt k e
theorem MOwn.below{w w':World}{base:Nat}{v:Value}{L:List Mt}(h:MOwn w base v L)(hb:Below w.heap.size w w'):MOwn w' base v L:=by
 obtain⟨Y,h1,h2,h3⟩:=h
 exact⟨Y,h1,own_kept h2 hb,fun y hy=>⟨(h3 y hy).1.at hb,(h3 y hy).2⟩⟩
theorem irow_grown{w w':World}{A:Option Addr}{p:List Int}{row:Option Nat}(h:IRow w w.heap.size A p)(hg:w.grownBy w' row)(hn:p≠[]→∀ ad,A=some ad→row≠some ad.block):IRow w' w'.heap.size A p:=by
 intro i x hx
 obtain⟨ad,e,h1,h3⟩:=h i x hx
 have hp:p≠[]:=fun e=>by rw [e] at hx;simp at hx
 refine⟨ad,e,Nat.lt_of_lt_of_le h1 hg.size,?_⟩
 have hb:(ad.add i).block=ad.block:=add_blockN _ _
 rw [← h3]
 exact World.cell?_of_block (by rw [hb];exact hg.block _ h1 (fun z=>hn hp ad e z.symm))
theorem MOwn.mrow{w:World}{base:Nat}{v:Value}{L:List Mt}(h:MOwn w base v L):∃ A c,v=.slice A L.length c∧L.length≤c∧(A=none→c=0)∧MRow w A L:=by
 obtain⟨Y,hY,h,hok⟩:=h
 have hc:=fun g hg=>h.cells (g:=g) hg
 have hlen:L.length=Y.length:=by rw [← hY,List.length_map]
 rcases h.2 with⟨rfl,h0⟩ | ⟨g,cap,cur,rfl,-,hg,hn,-⟩
 ·obtain rfl:=List.length_eq_zero_iff.1 h0
  exact⟨none,0,rfl,Nat.le_refl _,fun _=>rfl,fun i m h=>by simp at h⟩
 ·refine⟨_,_,rfl,hn,fun e=>(by cases e),fun i m hm=>?_⟩
  have hi:i<Y.length:=by have:=(List.getElem?_eq_some_iff.1 hm).1;omega
  obtain⟨y,hy⟩:∃ y,Y[i]? = some y:=⟨_,List.getElem?_eq_getElem hi⟩
  have hym:y.2=m:=by
   rw [← hY,List.getElem?_map,hy] at hm
   exact Option.some.inj hm
  subst hym
  obtain⟨q1,q2,q3⟩:=mcells_get Y i y hy
  refine⟨_,y.1.1,y.1.2,rfl,(Array.getElem?_eq_some_iff.1 hg).1,(hok y (List.mem_of_getElem? hy)).1,?_,?_,?_⟩
  ·exact hc g rfl _ _ q1
  ·have:=hc g rfl _ _ q2
   rw [add_off _ _ (by omega)] at this
   rw [← this]
   congr 1
   rcases Nat.eq_zero_or_pos i with rfl | hi
   ·simp [Addr.add]
   ·rw [add_off _ _ (by omega)];simp
  ·have:=hc g rfl _ _ q3
   rw [add_off _ _ (by omega)] at this
   rw [← this]
   congr 1
   rcases Nat.eq_zero_or_pos i with rfl | hi
   ·simp [Addr.add]
   ·rw [add_off _ _ (by omega)];simp
structure MJ (w0:World) (o:Value) (L:List Mt) (PA:Option Addr) (pc:Nat) (p:List Int) (CA:Option Addr) (bs:List (Int×Int)) (W:World):Prop where
 own:MOwn W w0.heap.size o L
 below:Below w0.heap.size w0 W
 path:IRow W W.heap.size PA p
 row:DRow W W.heap.size CA bs
 farp:p≠[]→∀ ad,PA=some ad→o.ownBlock≠some ad.block
 farc:bs≠[]→∀ ad,CA=some ad→o.ownBlock≠some ad.block
theorem ne_cons{α:Type}{l:List α}(h:l≠[]):∃ x r,l=x::r:=by
 cases l with
 | nil=>exact absurd rfl h
 | cons x r=>exact⟨x,r,rfl⟩
theorem drow_grown{w w':World}{A:Option Addr}{l:List (Int×Int)}{row:Option Nat}(h:DRow w w.heap.size A l)(hg:w.grownBy w' row)(hn:l≠[]→∀ ad,A=some ad→row≠some ad.block):DRow w' w'.heap.size A l:=by
 intro i b hi
 obtain⟨ad,P,c,e,h1,h2,h3,h4,h5⟩:=h i b hi
 have hl:l≠[]:=fun e=>by rw [e] at hi;simp at hi
 have hb:(ad.add (i*3)).block=ad.block:=add_blockN _ _
 have hk:=hg.block ad.block h1 (fun z=>hn hl ad e z.symm)
 refine⟨ad,P,c,e,Nat.lt_of_lt_of_le h1 hg.size,h2,?_,?_,?_⟩
 ·rw [← h3];exact World.cell?_of_block (by rw [hb];exact hk)
 ·rw [← h4];exact World.cell?_of_block (by show w'.heap[(ad.add (i*3)).block]? = _;rw [hb];exact hk)
 ·rw [← h5];exact World.cell?_of_block (by show w'.heap[(ad.add (i*3)).block]? = _;rw [hb];exact hk)
theorem MJ.at{w0:World}{o:Value}{L:List Mt}{PA:Option Addr}{pc:Nat}{p:List Int}{CA:Option Addr}{bs:List (Int×Int)}{W X:World}(h:MJ w0 o L PA pc p CA bs W)(k:Below W.heap.size W X):MJ w0 o L PA pc p CA bs X :=
 ⟨h.own.below k,h.below.trans (k.mono h.below.size),h.path.at k,h.row.at k,h.farp,h.farc⟩
theorem MJ.step{w0:World}{o:Value}{L:List Mt}{PA:Option Addr}{pc:Nat}{p:List Int}{CA:Option Addr}{bs:List (Int×Int)}{X X7:World}(h:MJ w0 o L PA pc p CA bs X){m:Mt}{v7:Value}
  (hown:MOwn X7 w0.heap.size v7 (L++[m])) (hgr:X.grownBy X7 o.ownBlock) (hat:v7.ownBlock=o.ownBlock∨v7.ownBlock=some X.heap.size):MJ w0 v7 (L++[m]) PA pc p CA bs X7:=by
 refine⟨hown,h.below.grown hgr h.below.size (fun k e=>(h.own.lt k e).1),irow_grown h.path hgr h.farp,drow_grown h.row hgr h.farc,fun hp ad e=>?_,fun hc ad e=>?_⟩
 ·rcases hat with q | q
  ·rw [q];exact h.farp hp ad e
  ·rw [q]
   intro zz
   have z':X.heap.size=ad.block:=Option.some.inj zz
   obtain⟨x,r,hx⟩:=ne_cons hp
   obtain⟨ad',e',hb',-⟩:=h.path 0 x (by rw [hx];rfl)
   have e2:some ad=some ad':=e.symm.trans e'
   cases e2
   omega
 ·rcases hat with q | q
  ·rw [q];exact h.farc hc ad e
  ·rw [q]
   intro zz
   have z':X.heap.size=ad.block:=Option.some.inj zz
   obtain⟨x,r,hx⟩:=ne_cons hc
   obtain⟨ad',P,c,e',hb',-⟩:=h.row 0 x (by rw [hx];rfl)
   have e2:some ad=some ad':=e.symm.trans e'
   cases e2
   omega
end Go.Proofs.YtodejloonfkkmaaGreat.Sites
namespace Go.Proofs.YtodejloonfkkmaaGreat.Sites
open Go.RowKit Mem Arena Delta Path Cat
attribute [local go_sem ↓] Go.wp_at_zero Go.wp_at_succ
def MIn(w:World)(A:Option Addr)(L:List Mt):Prop :=
 ∀ (i:Nat) (m:Mt),L[i]? = some m→∃ ad P c,A=some ad∧ad.block<w.heap.size∧(dl P c m).In w∧Cem w ad i P c m
theorem MIn.at{w w':World}{A:Option Addr}{L:List Mt}(h:MIn w A L)(hb:Below w.heap.size w w'):MIn w' A L:=by
 intro i m hi
 obtain⟨ad,P,c,e,h1,h2,h3⟩:=h i m hi
 exact⟨ad,P,c,e,Nat.lt_of_lt_of_le h1 hb.size,h2.at hb,h3.keep h1 hb⟩
theorem MIn.row{w:World}{A:Option Addr}{L:List Mt}(h:MIn w A L)(hs:∀ m∈L,m.1.length≤60):MRow w A L:=by
 intro i m hi
 obtain⟨ad,P,c,e,h1,h2,h3⟩:=h i m hi
 exact⟨ad,P,c,e,h1,h2.ok (by have:=hs m (List.mem_of_getElem? hi);show m.1.length≤1000000;omega),h3⟩
end Go.Proofs.YtodejloonfkkmaaGreat.Sites
namespace Go.Proofs.YtodejloonfkkmaaGreat.Sites
open Go.RowKit Mem Arena Delta Path Cat Kinds
attribute [local go_sem ↓] Go.wp_at_zero Go.wp_at_succ
def MAll(e9:Int)(M:List Mt)(w:World)(e:Ending)(w':World):Prop :=
 Below w.heap.size w w'∧((e9=0∧∃ A c,e=.returned (.tuple #[.slice A M.length c,.int .i64 0])∧M.length≤c∧(A=none→c=0)∧MRow w' A M) ∨
  (e9≠0∧∃ A c,e=.returned (.tuple #[.slice A 0 c,.int .i64 e9])))
theorem pcheck_whole{ps:Int}{vs:List Int}{xs:List Nd}(h:pcheck ps vs xs=0):Whole xs∧xs.length≤200:=by
 obtain⟨h1,-⟩:=pcheck_zero h
 obtain⟨h2,h3⟩:=acheck_zero h1
 have h4:=aend_some (l:=xs) (a:=0) (n:=xs.length) (by rw [List.drop_zero];exact h3)
 refine⟨?_,h2⟩
 unfold Whole
 rw [show(0:Int)=((0:Nat):Int) from rfl,h4]
 omega
theorem mat_step{xs:List Nd}{a j:Nat}{op n:Int}(h:(chs xs a)[j]? = some (op,n)):(mat xs a).take (j+1)=(mat xs a).take j++[(ppath xs a,op,n)] :=
 take_snoc _ j _ (by unfold mat;rw [List.getElem?_map,h];rfl)
def mlet(xs:List Nd)(q:List Int)(op n:Int):Bool:=decide (0≤pfind xs q) && isv xs (pfind xs q) op n
def mis(ps:Int)(vs:List Int)(xs:List Nd)(q:List Int)(op n:Int):Bool:=decide (pcheck ps vs xs=0) && mlet xs q op n
def merr(ps:Int)(vs:List Int)(xs:List Nd)(q:List Int)(op n:Int):Int:=if pcheck ps vs xs≠0 then pcheck ps vs xs else if mlet xs q op n=true then 0 else 17
def MEndsE(E:Int)(R:List Nd)(ps:Int)(VA:Option Addr)(vs:List Int)(w:World)(e:Ending)(w':World):Prop :=
  Below w.heap.size w w' ∧
  ((E = 0 ∧ ∃ A c B ce, e = .returned (.tuple #[.agg #[.int .i64 ps, .slice A vs.length c, .slice B R.length ce], .int .i64 0]) ∧ Prg.Ok ⟨ps, A, c, vs, B, ce, R⟩ w' ∧ ∀ ad, A = some ad → VA = some ad ∨ w.heap.size ≤ ad.block) ∨
   (E≠0∧∃ A c B ce,e=.returned (.tuple #[.agg #[.int .i64 0,.slice A 0 c,.slice B 0 ce],.int .i64 E])∧Prg.Ok ⟨0,A,c,[],B,ce,[]⟩ w'))
def MEnds(p:Prg)(d:Dlt)(w:World)(e:Ending)(w':World):Prop:=MEndsE (merr p.ps p.vs p.xs d.p d.op d.n) (anew p.xs d.p d.op d.n) p.ps p.A p.vs w e w'
theorem mis_apply{ps:Int}{vs:List Int}{xs:List Nd}{q:List Int}{op n:Int}(h:mis ps vs xs q op n=true):aerr xs q op n=0∧xs.length≤200∧pcheck ps vs xs=0∧(q,op,n)∈msites xs:=by
 unfold mis mlet at h
 simp only [Bool.and_eq_true,decide_eq_true_eq] at h
 obtain⟨h1,h2,h3⟩:=h
 obtain⟨hw,hl⟩:=pcheck_whole h1
 have hm:=(sites_mem hw).2 ⟨h2,h3⟩
 obtain⟨a,m,-,-,-,-,h4,-⟩:=sites_apply hw hm
 exact⟨h4,hl,h1,hm⟩
end Go.Proofs.YtodejloonfkkmaaGreat.Sites
namespace Go.Proofs.YtodejloonfkkmaaGreat.Sites
open Go.RowKit Mem Arena Delta Path Cat Kinds
theorem MAll.ok{e9:Int}{M:List Mt}{w w':World}{e:Ending}(h:MAll e9 M w e w')(h0:e9=0):Below w.heap.size w w'∧∃ A c,e=.returned (.tuple #[.slice A M.length c,.int .i64 0])∧M.length≤c∧(A=none→c=0)∧MRow w' A M:=by
 obtain⟨hb,⟨-,h⟩ | ⟨hn,-⟩⟩:=h
 ·exact⟨hb,h⟩
 ·exact absurd h0 hn
theorem MAll.no{e9:Int}{M:List Mt}{w w':World}{e:Ending}(h:MAll e9 M w e w')(h0:e9≠0):Below w.heap.size w w'∧∃ A c,e=.returned (.tuple #[.slice A 0 c,.int .i64 e9]):=by
 obtain⟨hb,⟨hn,-⟩ | ⟨-,h⟩⟩:=h
 ·exact absurd hn h0
 ·exact⟨hb,h⟩
theorem mrow_nil(w:World)(A:Option Addr):MRow w A []:=fun i m h=>by simp at h
def mall(e9:Int)(M:List Mt):List Mt:=if e9=0 then M else []
theorem MAll.one{e9:Int}{M:List Mt}{w w':World}{e:Ending}(h:MAll e9 M w e w'):Below w.heap.size w w'∧∃ A c,e=.returned (.tuple #[.slice A (mall e9 M).length c,.int .i64 e9])∧MRow w' A (mall e9 M):=by
 by_cases h0:e9=0
 ·obtain⟨hb,A,c,h1,-,-,h2⟩:=h.ok h0
  exact⟨hb,A,c,by rw [h1,h0];rfl,by rw [h0];exact h2⟩
 ·obtain⟨hb,A,c,h1⟩:=h.no h0
  refine⟨hb,A,c,?_,?_⟩
  ·rw [h1];unfold mall;rw [if_neg h0];rfl
  ·unfold mall;rw [if_neg h0];exact mrow_nil _ _
def mps(E ps:Int):Int:=if E=0 then ps else 0
def mvs(E:Int)(vs:List Int):List Int:=if E=0 then vs else []
def mxs(E:Int)(R:List Nd):List Nd:=if E=0 then R else []
theorem MEndsE.one{E:Int}{R:List Nd}{ps:Int}{VA:Option Addr}{vs:List Int}{w w':World}{e:Ending}(h:MEndsE E R ps VA vs w e w') :
  Below w.heap.size w w'∧∃ A c B ce,e=.returned (.tuple #[.agg #[.int .i64 (mps E ps),.slice A (mvs E vs).length c,.slice B (mxs E R).length ce],.int .i64 E])∧Prg.Ok ⟨mps E ps,A,c,mvs E vs,B,ce,mxs E R⟩ w':=by
 obtain⟨hb,⟨rfl,A,c,B,ce,h1,h2,-⟩ | ⟨h0,A,c,B,ce,h1,h2⟩⟩:=h
 ·exact⟨hb,A,c,B,ce,h1,h2⟩
 ·refine⟨hb,A,c,B,ce,?_,?_⟩
  ·unfold mps mvs mxs;rw [if_neg h0,if_neg h0,if_neg h0];exact h1
  ·unfold mps mvs mxs;rw [if_neg h0,if_neg h0,if_neg h0];exact h2
theorem MEndsE.ok{E:Int}{R:List Nd}{ps:Int}{VA:Option Addr}{vs:List Int}{w w':World}{e:Ending}(h:MEndsE E R ps VA vs w e w')(h0:E=0) :
  Below w.heap.size w w'∧∃ A c B ce,e=.returned (.tuple #[.agg #[.int .i64 ps,.slice A vs.length c,.slice B R.length ce],.int .i64 0])∧Prg.Ok ⟨ps,A,c,vs,B,ce,R⟩ w'∧∀ ad,A=some ad→VA=some ad∨w.heap.size≤ad.block:=by
 obtain⟨hb,⟨-,h⟩ | ⟨hn,-⟩⟩:=h
 ·exact⟨hb,h⟩
 ·exact absurd h0 hn
def FinP(w4 w7:World)(g:Nat)(ps:Int)(A:Option Addr)(c:Nat)(vs:List Int)(B:Option Addr)(ce:Nat)(R:List Nd):Prop :=
 Below w4.heap.size w4 w7∧Blk w7 g 25 #[.int .i64 ps,.slice A vs.length c,.slice B R.length ce]∧Prg.Ok ⟨ps,A,c,vs,B,ce,R⟩ w7
theorem finp_new{w4 w6:World}{ps:Int}{A:Option Addr}{c:Nat}{vs:List Int}{B:Option Addr}{ce:Nat}{R:List Nd}(h:Below w4.heap.size w4 w6)(ok:Prg.Ok ⟨ps,A,c,vs,B,ce,R⟩ w6) :
  FinP w4 (w6.alloc (.cells #[.int .i64 ps,.slice A vs.length c,.slice B R.length ce] 25)) w6.heap.size ps A c vs B ce R :=
 ⟨h.alloc h.size _,Blk.new _ _ _,ok.at ((Below.refl _ _).alloc (Nat.le_refl _) _)⟩
theorem finp_set{w4 w6:World}{g:Nat}{ps:Int}{A:Option Addr}{c:Nat}{vs:List Int}{B:Option Addr}{ce:Nat}{R:List Nd}(h:Below w4.heap.size w4 w6)(ok:Prg.Ok ⟨ps,A,c,vs,B,ce,R⟩ w6)(bX:Blk w6 g 25 #[.int .i64 0,.slice none 0 0,.slice none 0 0])(hg:w4.heap.size≤g)
  (hA:vs≠[]→∀ ad,A=some ad→ad.block≠g) :
  FinP w4 (((w6.setCell ⟨g,0,none⟩ (.int .i64 ps)).setCell ⟨g,1,none⟩ (.slice A vs.length c)).setCell ⟨g,2,none⟩ (.slice B R.length ce)) g ps A c vs B ce R:=by
 have b1:=bX.set 0 (.int .i64 ps)
 have b2:=b1.set 1 (.slice A vs.length c)
 have b3:=b2.set 2 (.slice B R.length ce)
 have n1:=far_nodes ok.body bX 0 (.int .i64 ps)
 have n2:=far_nodes n1 b1 1 (.slice A vs.length c)
 have n3:=far_nodes n2 b2 2 (.slice B R.length ce)
 have hs:(((w6.setCell ⟨g,0,none⟩ (.int .i64 ps)).setCell ⟨g,1,none⟩ (.slice A vs.length c)).setCell ⟨g,2,none⟩ (.slice B R.length ce)).heap.size=w6.heap.size:=by simp [World.setCell]
 refine⟨((h.setCell (p:=⟨g,0,none⟩) hg _).setCell (p:=⟨g,1,none⟩) hg _).setCell (p:=⟨g,2,none⟩) hg _,b3,⟨?_,?_,ok.lv,ok.lx,ok.cv,ok.ce,ok.nv,ok.nb⟩⟩
 ·rw [hs]
  by_cases hz:vs=[]
  ·subst hz;exact fun i x h=>by simp at h
  ·exact row_apart (row_apart (row_apart ok.vars (hA hz) 0 _) (hA hz) 1 _) (hA hz) 2 _
 ·rw [hs]
  exact n3
end Go.Proofs.YtodejloonfkkmaaGreat.Sites
