/-
  The things that layer 5's statements write, in memory; and what they are as bytes.
  What is read, one thing by one: the program's way, walked.
  The document's own text for what is read, walked.
  The document's own text for what is read, walked: a number that is taken as it is, or with its sign.
-/
import Derived.Test.YtekogckmgkodfaaGreatDoorWireG
import Derived.TacticsInMore
import Derived.Tactics2
import Derived.Test.YtekogckmgkodfaaGreatDoorLebG
import Derived.RegionTactic
import Derived.BigRegion
import Derived.StillTailTactics
import Derived.Deep.RegionWith
import Derived.Deep.RegionHeld3
namespace Go.Proofs.YtekogckmgkodfaaGreatDoor.Wire
open Go.RowKit Leb Mem
structure Item where
 k:Int
 n:Int
 u:Int
 s:ByteArray
structure Item.Ok (x:Item):Prop where
 n0 : -9223372036854775808≤x.n
 n1:x.n≤9223372036854775807
 u0:0≤x.u
 u1:x.u≤18446744073709551615
 s1:x.s.size≤140737488351232
def Items(w:World)(B:Nat)(A:Option Addr)(xs:List Item):Prop :=
 ∀ i x,xs[i]? = some x→∃ ad,A=some ad∧ad.block<B∧x.Ok∧w.cell? (ad.add (i*4))=some (.int .i64 x.k)∧w.cell? ⟨(ad.add (i*4)).block,(ad.add (i*4)).off+1,none⟩=some (.int .i64 x.n)∧w.cell? ⟨(ad.add (i*4)).block,(ad.add (i*4)).off+2,none⟩=some (.int .u64 x.u)∧w.cell? ⟨(ad.add (i*4)).block,(ad.add (i*4)).off+3,none⟩=some (.string x.s)
theorem add_block(a:Addr)(n:Nat):(a.add n).block=a.block:=by unfold Addr.add;split<;>rfl
theorem Items.keep{w w':World}{B:Nat}{A:Option Addr}{xs:List Item}(h:Items w B A xs)(hb:∀ k,k<B→w'.heap[k]? = w.heap[k]?):Items w' B A xs:=by
 intro i x hx
 obtain⟨ad,e,hlt,ok,h0,h1,h2,h3⟩:=h i x hx
 have hc:∀ q:Addr,q.block=(ad.add (i*4)).block→w'.cell? q=w.cell? q:=fun q e=>World.cell?_of_block (hb _ (by rw [e,add_block];exact hlt))
 exact⟨ad,e,hlt,ok,(hc (ad.add (i*4)) rfl).trans h0,(hc ⟨(ad.add (i*4)).block,(ad.add (i*4)).off+1,none⟩ rfl).trans h1,(hc ⟨(ad.add (i*4)).block,(ad.add (i*4)).off+2,none⟩ rfl).trans h2,(hc ⟨(ad.add (i*4)).block,(ad.add (i*4)).off+3,none⟩ rfl).trans h3⟩
theorem Items.below{w w':World}{B:Nat}{A:Option Addr}{xs:List Item}(h:Items w B A xs)(hb:Below B w w'):Items w' B A xs:=h.keep hb.block
def total(xs:List Item):Nat:=(xs.map (·.s.size)).sum
theorem total_take(xs:List Item)(i:Nat)(x:Item)(h:xs[i]? = some x):total (xs.take (i+1))=total (xs.take i)+x.s.size:=by
 obtain⟨hi,rfl⟩:=List.getElem?_eq_some_iff.1 h
 unfold total
 rw [List.take_succ_eq_append_getElem hi,List.map_append,List.sum_append]
 simp
theorem total_le(xs:List Item)(n m:Nat)(h:xs.length≤n)(hs:∀ x∈xs,x.s.size≤m):total xs≤n*m:=by
 induction xs generalizing n with
 | nil=>simp [total]
 | cons x t ih =>
  obtain⟨q,rfl⟩:∃ q,n=q+1:=⟨n-1,by simp at h;omega⟩
  have h1:=ih q (by simpa using h) (fun y hy=>hs y (by simp [hy]))
  have h2:=hs x (by simp)
  rw [Nat.add_mul]
  simp only [total,List.map_cons,List.sum_cons] at *
  omega
def fewB(xs:List Item):Bool:=decide (xs.length≤60∧total xs≤1000)
def b8(n:Int):UInt8:=UInt8.ofNat (n%256).toNat
theorem b8_mod(n:Int):n%256=((b8 n).toNat:Int):=by
 have h:(n%256).toNat<256:=by omega
 rw [b8,UInt8.toNat_ofNat',Nat.mod_eq_of_lt h]
 omega
def Item.bytes(x:Item):List UInt8 :=
 if x.k=0 then [b8 x.n] else if x.k=1 then lput x.u.toNat else if x.k=3 then Zig.zput x.n else if x.k=4 then tput x.s.data.toList else if x.k=5 then x.s.data.toList else []
theorem Item.bytes_le(x:Item)(h:x.Ok):x.bytes.length≤x.s.size+10:=by
 have hs:x.s.data.toList.length=x.s.size:=by simp
 have hu0:=h.u0;have hu1:=h.u1;have hs1:=h.s1
 have hz:=Zig.zig_range h.n0 h.n1
 have l1:=lput_len10 (n:=x.u.toNat) (by omega)
 have l2:(Zig.zput x.n).length≤10:=lput_len10 (n:=(Zig.zig x.n).toNat) (by omega)
 have l3:=lput_len10 (n:=x.s.data.toList.length) (by omega)
 have l4:(tput x.s.data.toList).length=(lput x.s.data.toList.length).length+x.s.data.toList.length:=by unfold tput;rw [List.length_append]
 unfold Item.bytes
 repeat' split
 all_goals first | omega | simp
def Item.val(x:Item):Value:=.agg #[.int .i64 x.k,.int .i64 x.n,.int .u64 x.u,.string x.s]
structure Out where
 num:Int
 int:Int
 text:List UInt8
 to:Int
 er:Int
def outOf(S:ByteArray)(p:Nat)(k n:Int):Out :=
 if k=0 then(if h:p<S.size then⟨S[p].toNat,0,[],(p:Int)+1,0⟩ else⟨0,0,[],p,2⟩)
 else if k=2 then⟨(lcount S.data.toList p n).1,0,[],(lcount S.data.toList p n).2.1,(lcount S.data.toList p n).2.2⟩
 else if k=3 then⟨0,Zig.zag ((lget S.data.toList p).1:Nat),[],(lget S.data.toList p).2.1,(lget S.data.toList p).2.2⟩
 else if k=4 then⟨0,0,(ltext S.data.toList p n).1,(ltext S.data.toList p n).2.1,(ltext S.data.toList p n).2.2⟩
 else if k=5 then⟨0,0,(lraw S.data.toList p n).1,(lraw S.data.toList p n).2.1,(lraw S.data.toList p n).2.2⟩
 else⟨(lget S.data.toList p).1,0,[],(lget S.data.toList p).2.1,(lget S.data.toList p).2.2⟩
def Out.fin(er0 p:Int)(o:Out):Out:=if fst0 er0 o.er=0 then⟨o.num,o.int,o.text,o.to,0⟩ else⟨0,0,[],p,fst0 er0 o.er⟩
theorem fin_go{er0 p:Int}{o:Out}(h:fst0 er0 o.er=0):o.fin er0 p=⟨o.num,o.int,o.text,o.to,0⟩:=if_pos h
theorem fin_no{er0 p:Int}{o:Out}(h:fst0 er0 o.er≠0):o.fin er0 p=⟨0,0,[],p,fst0 er0 o.er⟩:=if_neg h
theorem lraw_range(l:List UInt8)(a n:Int)(h0:0≤a)(h:(lraw l a n).2.2=0):0≤(lraw l a n).2.1∧(lraw l a n).2.1≤l.length∧a≤(lraw l a n).2.1:=by
 unfold lraw at *
 split at h
 ·simp at h
 ·split at h
  ·simp at h
  ·rename_i c1 c2
   rw [if_neg c1,if_neg c2]
   simp only
   omega
theorem ltext_range(l:List UInt8)(a m:Int)(h:(ltext l a m).2.2=0):0≤(ltext l a m).2.1∧(ltext l a m).2.1≤l.length∧a≤(ltext l a m).2.1:=by
 unfold ltext at *
 split at h
 ·rename_i c;exact absurd h c
 ·rename_i c
  rw [if_neg c]
  obtain⟨h1,h2,h3,-,-⟩:=lcount_range l a m (by omega)
  have:=lraw_range l _ _ (by omega) h
  omega
theorem outOf_range(S:ByteArray)(p:Nat)(k n:Int)(h:(outOf S p k n).er=0):0≤(outOf S p k n).to∧(outOf S p k n).to≤S.size∧p≤(outOf S p k n).to:=by
 have hl:S.data.toList.length=S.size:=by simp
 have g1:=fun h=>lget_only S.data.toList p h
 have g2:=fun h=>lcount_range S.data.toList p n h
 have g3:=fun h=>lraw_range S.data.toList p n (by omega) h
 have g4:=fun h=>ltext_range S.data.toList p n h
 rw [hl] at g1 g2 g3 g4
 revert h
 unfold outOf
 split
 ·split
  ·intro _;simp only;omega
  ·intro h;simp at h
 ·split
  ·intro h;have:=g2 h;simp only;omega
  ·split
   ·intro h;have:=g1 h;simp only;omega
   ·split
    ·intro h;have:=g4 h;simp only;omega
    ·split
     ·intro h;have:=g3 h;simp only;omega
     ·intro h;have:=g1 h;simp only;omega
theorem fin_range(S:ByteArray)(p:Nat)(er0 k n:Int)(hp:p≤S.size):0≤((outOf S p k n).fin er0 p).to∧((outOf S p k n).fin er0 p).to≤S.size∧p≤((outOf S p k n).fin er0 p).to:=by
 by_cases h:fst0 er0 (outOf S p k n).er=0
 ·rw [fin_go h]
  refine outOf_range S p k n ?_
  unfold fst0 at h
  split at h
  ·exact h
  ·rename_i c;exact absurd h c
 ·rw [fin_no h];simp only;omega
theorem five{w:World}{g:Nat}{t:TypeId}{x y z u v:Value}(h:Blk w g t #[x,y,z,u,v]):w.cell? ⟨g,0,none⟩=some x∧w.cell? ⟨g,1,none⟩=some y∧w.cell? ⟨g,2,none⟩=some z∧w.cell? ⟨g,3,none⟩=some u∧w.cell? ⟨g,4,none⟩=some v :=
 ⟨h.cell 0,h.cell 1,h.cell 2,h.cell 3,h.cell 4⟩
def z5:Array Value:=#[.int .u64 0,.int .i64 0,.string ⟨#[]⟩,.int .i64 0,.int .i64 0]
section
variable {a:Nat} {S:ByteArray} {p er0:Int} {o:Out} {w w':World} {e:Ending} {K:IntKind}
end
theorem fin_int0{er0 p:Int}{o:Out}(h:o.int=0):(o.fin er0 p).int=0:=by unfold Out.fin;split;exact h;rfl
theorem fin_num0{er0 p:Int}{o:Out}(h:o.num=0):(o.fin er0 p).num=0:=by unfold Out.fin;split;exact h;rfl
theorem fin_text0{er0 p:Int}{o:Out}(h:o.text=[]):(o.fin er0 p).text=[]:=by unfold Out.fin;split;exact h;rfl
theorem fin_num_le{er0 p:Int}{o:Out}{m:Int}(h0:0≤o.num)(h1:o.num≤m):0≤(o.fin er0 p).num∧(o.fin er0 p).num≤m:=by unfold Out.fin;split;exact⟨h0,h1⟩;simp only;omega
theorem lcount_le(l:List UInt8)(a m:Int)(hm:m≤9223372036854775807):(((lcount l a m).1:Nat):Int)≤9223372036854775807:=by
 unfold lcount
 split
 ·simp
 ·split
  ·simp
  ·omega
theorem byte_le(b:UInt8):(0:Int)≤b.toNat∧(b.toNat:Int)≤255:=by have:=b.toNat_lt;omega
theorem u64_same{n:Int}(h0:0≤n)(h1:n≤18446744073709551615):IntKind.u64.wrap n=n:=by rw [IntKind.wrap_u64];omega
def rdV(S:ByteArray)(p er:Int):Value:=.agg #[.string S,.int .i64 p,.int .i64 er]
def TwoEnds(S:ByteArray)(f:Out)(w:World)(e:Ending)(w':World):Prop :=
 e=.returned (.tuple #[.agg #[.string S,.int .i64 f.to,.int .i64 f.er],.agg #[.int .u64 f.num,.int .i64 f.int,.string (strB f.text),.int .i64 0,.int .i64 0]])∧Below w.heap.size w w'
theorem TwoEnds.mk{S:ByteArray}{f:Out}{w w':World}{p er num int:Int}{t:ByteArray}{x:List UInt8}(h:f=⟨num,int,x,p,er⟩)(ht:t=strB x)(hb:Below w.heap.size w w') :
  TwoEnds S f w (.returned (.tuple #[.agg #[.string S,.int .i64 p,.int .i64 er],.agg #[.int .u64 num,.int .i64 int,.string t,.int .i64 0,.int .i64 0]])) w':=by
 subst h;subst ht;exact⟨rfl,hb⟩
theorem TwoEnds.to{S:ByteArray}{f:Out}{w w':World}{e:Ending}(h:TwoEnds S f w e w'):e=.returned (.tuple #[.agg #[.string S,.int .i64 f.to,.int .i64 f.er],.agg #[.int .u64 f.num,.int .i64 f.int,.string (strB f.text),.int .i64 0,.int .i64 0]])∧Below w.heap.size w w':=h
theorem below_sets{B:Nat}{a W:World}(h:Below B a W){i j:Nat}(hi:B≤i)(hj:B≤j)(v0 v1 v2 u0 u1 u2 u3 u4:Value) :
  Below B a ((((((((W.setCell ⟨i,0,none⟩ v0).setCell ⟨i,1,none⟩ v1).setCell ⟨i,2,none⟩ v2).setCell ⟨j,0,none⟩ u0).setCell ⟨j,1,none⟩ u1).setCell ⟨j,2,none⟩ u2).setCell ⟨j,3,none⟩ u3).setCell ⟨j,4,none⟩ u4) :=
 (((((((h.setCell (p:=⟨i,0,none⟩) hi v0).setCell (p:=⟨i,1,none⟩) hi v1).setCell (p:=⟨i,2,none⟩) hi v2).setCell (p:=⟨j,0,none⟩) hj u0).setCell (p:=⟨j,1,none⟩) hj u1).setCell (p:=⟨j,2,none⟩) hj u2).setCell (p:=⟨j,3,none⟩) hj u3).setCell (p:=⟨j,4,none⟩) hj u4
theorem neq_facts{x:Int}(h:x≠0):(x==0)=false∧(x != 0)=true:=by constructor<;>simpa using h
theorem fin0_ok{p:Int}{o:Out}(h:o.er=0):o.fin 0 p=⟨o.num,o.int,o.text,o.to,0⟩:=fin_go (by rw [fst0_0];exact h)
theorem fin0_no{p:Int}{o:Out}(h:o.er≠0):o.fin 0 p=⟨0,0,[],p,o.er⟩:=by rw [fin_no (by rw [fst0_0];exact h),fst0_0]
theorem outOf_0a{S:ByteArray}{p:Nat}{n:Int}(h:p<S.size):outOf S p 0 n=⟨S[p].toNat,0,[],(p:Int)+1,0⟩:=by unfold outOf;rw [if_pos rfl,dif_pos h]
theorem outOf_0b{S:ByteArray}{p:Nat}{n:Int}(h:¬ p<S.size):outOf S p 0 n=⟨0,0,[],p,2⟩:=by unfold outOf;rw [if_pos rfl,dif_neg h]
theorem outOf_2{S:ByteArray}{p:Nat}{n:Int}:outOf S p 2 n=⟨(lcount S.data.toList p n).1,0,[],(lcount S.data.toList p n).2.1,(lcount S.data.toList p n).2.2⟩:=by unfold outOf;rw [if_neg (by decide),if_pos rfl]
theorem outOf_3{S:ByteArray}{p:Nat}{n:Int}:outOf S p 3 n=⟨0,Zig.zag ((lget S.data.toList p).1:Nat),[],(lget S.data.toList p).2.1,(lget S.data.toList p).2.2⟩:=by unfold outOf;rw [if_neg (by decide),if_neg (by decide),if_pos rfl]
theorem outOf_4{S:ByteArray}{p:Nat}{n:Int}:outOf S p 4 n=⟨0,0,(ltext S.data.toList p n).1,(ltext S.data.toList p n).2.1,(ltext S.data.toList p n).2.2⟩:=by unfold outOf;rw [if_neg (by decide),if_neg (by decide),if_neg (by decide),if_pos rfl]
theorem outOf_5{S:ByteArray}{p:Nat}{n:Int}:outOf S p 5 n=⟨0,0,(lraw S.data.toList p n).1,(lraw S.data.toList p n).2.1,(lraw S.data.toList p n).2.2⟩:=by unfold outOf;rw [if_neg (by decide),if_neg (by decide),if_neg (by decide),if_neg (by decide),if_pos rfl]
theorem outOf_e{S:ByteArray}{p:Nat}{k n:Int}(k0:k≠0)(k2:k≠2)(k3:k≠3)(k4:k≠4)(k5:k≠5):outOf S p k n=⟨(lget S.data.toList p).1,0,[],(lget S.data.toList p).2.1,(lget S.data.toList p).2.2⟩:=by unfold outOf;rw [if_neg k0,if_neg k2,if_neg k3,if_neg k4,if_neg k5]
theorem outOf_err{S:ByteArray}{p:Nat}{k n:Int}(k0:k≠0)(k5:k≠5)(h:(lget S.data.toList p).2.2≠0):(outOf S p k n).er=(lget S.data.toList p).2.2:=by
 have hc:=lcount_err (m:=n) h
 by_cases k2:k=2
 ·subst k2;rw [outOf_2,hc]
 ·by_cases k3:k=3
  ·subst k3;rw [outOf_3]
  ·by_cases k4:k=4
   ·subst k4;rw [outOf_4];unfold ltext;rw [hc];simp only;rw [if_pos h]
   ·rw [outOf_e k0 k2 k3 k4 k5]
end Go.Proofs.YtekogckmgkodfaaGreatDoor.Wire
