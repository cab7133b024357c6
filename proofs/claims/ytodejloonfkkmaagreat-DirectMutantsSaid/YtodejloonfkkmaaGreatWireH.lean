/-
  The things that layer 5's statements write, in memory; and what they are as bytes.
  What is read, one thing by one: the program's way, walked.
  The document's own text for what is read, walked.
  The document's own text for what is read, walked: a number that is taken as it is, or with its sign.
-/
import Derived.Test.YtodejloonfkkmaaGreatWireG
import Derived.TacticsInMore
import Derived.Tactics2
import Derived.Test.YtodejloonfkkmaaGreatLebG
import Derived.RegionTactic
import Derived.BigRegion
import Derived.StillTailTactics
import Derived.Deep.RegionWith
import Derived.Deep.RegionHeld3
namespace Go.Proofs.YtodejloonfkkmaaGreat.Wire
open Go.RowKit Leb Mem
structure Item where
 k:Int
 n:Int
 u:Int
 s:ByteArray
structure Item.Ok (x:Item):Prop where
 n0 : -9223372036854775808≤x.n
 n1:x.n≤9223372036854775807
 u0:0≤x.u
 u1:x.u≤18446744073709551615
 s1:x.s.size≤140737488351232
def Items(w:World)(B:Nat)(A:Option Addr)(xs:List Item):Prop :=
 ∀ i x,xs[i]? = some x→∃ ad,A=some ad∧ad.block<B∧x.Ok∧w.cell? (ad.add (i*4))=some (.int .i64 x.k)∧w.cell? ⟨(ad.add (i*4)).block,(ad.add (i*4)).off+1,none⟩=some (.int .i64 x.n)∧w.cell? ⟨(ad.add (i*4)).block,(ad.add (i*4)).off+2,none⟩=some (.int .u64 x.u)∧w.cell? ⟨(ad.add (i*4)).block,(ad.add (i*4)).off+3,none⟩=some (.string x.s)
theorem add_block(a:Addr)(n:Nat):(a.add n).block=a.block:=by unfold Addr.add;split<;>rfl
theorem Items.keep{w w':World}{B:Nat}{A:Option Addr}{xs:List Item}(h:Items w B A xs)(hb:∀ k,k<B→w'.heap[k]? = w.heap[k]?):Items w' B A xs:=by
 intro i x hx
 obtain⟨ad,e,hlt,ok,h0,h1,h2,h3⟩:=h i x hx
 have hc:∀ q:Addr,q.block=(ad.add (i*4)).block→w'.cell? q=w.cell? q:=fun q e=>World.cell?_of_block (hb _ (by rw [e,add_block];exact hlt))
 exact⟨ad,e,hlt,ok,(hc (ad.add (i*4)) rfl).trans h0,(hc ⟨(ad.add (i*4)).block,(ad.add (i*4)).off+1,none⟩ rfl).trans h1,(hc ⟨(ad.add (i*4)).block,(ad.add (i*4)).off+2,none⟩ rfl).trans h2,(hc ⟨(ad.add (i*4)).block,(ad.add (i*4)).off+3,none⟩ rfl).trans h3⟩
theorem Items.below{w w':World}{B:Nat}{A:Option Addr}{xs:List Item}(h:Items w B A xs)(hb:Below B w w'):Items w' B A xs:=h.keep hb.block
def b8(n:Int):UInt8:=UInt8.ofNat (n%256).toNat
def Item.bytes(x:Item):List UInt8 :=
 if x.k=0 then [b8 x.n] else if x.k=1 then lput x.u.toNat else if x.k=3 then Zig.zput x.n else if x.k=4 then tput x.s.data.toList else if x.k=5 then x.s.data.toList else []
def Item.val(x:Item):Value:=.agg #[.int .i64 x.k,.int .i64 x.n,.int .u64 x.u,.string x.s]
structure Out where
 num:Int
 int:Int
 text:List UInt8
 to:Int
 er:Int
def outOf(S:ByteArray)(p:Nat)(k n:Int):Out :=
 if k=0 then(if h:p<S.size then⟨S[p].toNat,0,[],(p:Int)+1,0⟩ else⟨0,0,[],p,2⟩)
 else if k=2 then⟨(lcount S.data.toList p n).1,0,[],(lcount S.data.toList p n).2.1,(lcount S.data.toList p n).2.2⟩
 else if k=3 then⟨0,Zig.zag ((lget S.data.toList p).1:Nat),[],(lget S.data.toList p).2.1,(lget S.data.toList p).2.2⟩
 else if k=4 then⟨0,0,(ltext S.data.toList p n).1,(ltext S.data.toList p n).2.1,(ltext S.data.toList p n).2.2⟩
 else if k=5 then⟨0,0,(lraw S.data.toList p n).1,(lraw S.data.toList p n).2.1,(lraw S.data.toList p n).2.2⟩
 else⟨(lget S.data.toList p).1,0,[],(lget S.data.toList p).2.1,(lget S.data.toList p).2.2⟩
def Out.fin(er0 p:Int)(o:Out):Out:=if fst0 er0 o.er=0 then⟨o.num,o.int,o.text,o.to,0⟩ else⟨0,0,[],p,fst0 er0 o.er⟩
def z5:Array Value:=#[.int .u64 0,.int .i64 0,.string ⟨#[]⟩,.int .i64 0,.int .i64 0]
section
variable {a:Nat} {S:ByteArray} {p er0:Int} {o:Out} {w w':World} {e:Ending} {K:IntKind}
end
def TwoEnds(S:ByteArray)(f:Out)(w:World)(e:Ending)(w':World):Prop :=
 e=.returned (.tuple #[.agg #[.string S,.int .i64 f.to,.int .i64 f.er],.agg #[.int .u64 f.num,.int .i64 f.int,.string (strB f.text),.int .i64 0,.int .i64 0]])∧Below w.heap.size w w'
theorem TwoEnds.mk{S:ByteArray}{f:Out}{w w':World}{p er num int:Int}{t:ByteArray}{x:List UInt8}(h:f=⟨num,int,x,p,er⟩)(ht:t=strB x)(hb:Below w.heap.size w w') :
  TwoEnds S f w (.returned (.tuple #[.agg #[.string S,.int .i64 p,.int .i64 er],.agg #[.int .u64 num,.int .i64 int,.string t,.int .i64 0,.int .i64 0]])) w':=by
 subst h;subst ht;exact⟨rfl,hb⟩
theorem TwoEnds.to{S:ByteArray}{f:Out}{w w':World}{e:Ending}(h:TwoEnds S f w e w'):e=.returned (.tuple #[.agg #[.string S,.int .i64 f.to,.int .i64 f.er],.agg #[.int .u64 f.num,.int .i64 f.int,.string (strB f.text),.int .i64 0,.int .i64 0]])∧Below w.heap.size w w':=h
end Go.Proofs.YtodejloonfkkmaaGreat.Wire
