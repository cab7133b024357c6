/-
  Plain facts on numbers in groups of seven bits: what is written, how long it is, what is read back. No program is met here.
  The Go text of package leb, walked: the digits that a range over a function tells, Put, Size.
  The Go text of package leb, walked: Put and Size, by the digits' contract.
  The document's own Go text for layer 1, walked.
  The document's own Go text for layer 1, walked: bytes, value, Get.
  The document's own Go text for layer 1, walked: Get.
  The Go text of package leb, walked: Get.
-/
import Derived.Below
import Derived.Lib.Hide
import Derived.RangeFuncNested
import Derived.RangeFuncBound
import Derived.RangeFuncCalls
import Derived.RangeFuncLeaves
import Derived.Shelf.Abstract
import Derived.Shelf.RegionOpen
import Derived.WalkKit
import Derived.OwnWalkIn
import Derived.TacticsInMore
import Derived.LoopNIn
import Derived.LoopIn
import Derived.Maps.AppendAt
import Derived.Laws.BytesArg
import Derived.WalkSpells
import Derived.Outline
import Derived.Test.YtodejloonfkkmaaGreatRows
import Derived.Deep.RegionWith
import Derived.Lib.Strings
import Derived.Deep.LoopGhost
namespace Go.Proofs.YtodejloonfkkmaaGreat.Leb
def lput(n:Nat):List UInt8:=if n<128 then [UInt8.ofNat n] else UInt8.ofNat (128+n%128)::lput (n / 128)
termination_by n
decreasing_by omega
def lval:List UInt8→Nat
 | []=>0
 | b::r=>b.toNat%128+128*lval r
def lbytes:Nat→List UInt8→Nat
 | 0,_=>0
 | _+1,[]=>0
 | f+1,b::r=>if b.toNat<128 then 1 else if lbytes f r=0 then 0 else lbytes f r+1
def lget(l:List UInt8)(at_:Int):Nat×Int×Int :=
 if at_<0∨(l.length:Int)<at_ then(0,at_,1)
 else if lbytes 10 (l.drop at_.toNat)=0 then(if l.length-at_.toNat<10 then(0,at_,2) else(0,at_,3))
 else if lput (lval ((l.drop at_.toNat).take (lbytes 10 (l.drop at_.toNat)))%18446744073709551616)=(l.drop at_.toNat).take (lbytes 10 (l.drop at_.toNat))
  then(lval ((l.drop at_.toNat).take (lbytes 10 (l.drop at_.toNat)))%18446744073709551616,at_+lbytes 10 (l.drop at_.toNat),0)
 else(0,at_,3)
end Go.Proofs.YtodejloonfkkmaaGreat.Leb
namespace Go.Proofs.YtodejloonfkkmaaGreat.Leb
open Go.RowKit Go.Shelf
attribute [local go_sem] Oper.semAt_some
end Go.Proofs.YtodejloonfkkmaaGreat.Leb
namespace Go.Proofs.YtodejloonfkkmaaGreat.Leb
open Go.RowKit
def Highs(r:List UInt8)(k:Nat):Prop:=∀ j (_:j<r.length),j<k→128≤r[j].toNat
theorem drop_at(s:ByteArray)(a k:Nat)(h:a+k<s.size):(s.data.toList.drop a).drop k=(s[a+k]'h)::(s.data.toList.drop a).drop (k+1):=by
 have hl:a+k<s.data.toList.length:=by rw [Array.length_toList];exact h
 rw [List.drop_drop,List.drop_drop,List.drop_eq_getElem_cons hl]
 rfl
theorem Highs.zero(r:List UInt8):Highs r 0:=fun _ _ h=>by omega
theorem Highs.next{s:ByteArray}{a k:Nat}(h:Highs (s.data.toList.drop a) k)(hk:a+k<s.size)(hb:128≤((s[a+k]'hk).toNat:Int)):Highs (s.data.toList.drop a) (k+1):=fun j hj hjk=>by
 by_cases e:j=k
 ·subst e
  have h1:=List.drop_eq_getElem_cons hj
  rw [drop_at s a j hk] at h1
  have h2:=(List.cons.inj h1).1
  rw [← h2]
  omega
 ·exact h j hj (by omega)
def GetEnds(s:ByteArray)(a:Int)(w:World)(e:Ending)(w':World):Prop :=
 e=.returned (.tuple #[.int .u64 (lget s.data.toList a).1,.int .i64 (lget s.data.toList a).2.1,.int .i64 (lget s.data.toList a).2.2])∧Below w.heap.size w w'
theorem GetEnds.mk{s:ByteArray}{a:Int}{w w':World}{n:Nat}{b c:Int}(h:lget s.data.toList a=(n,b,c))(hb:Below w.heap.size w w'):GetEnds s a w (.returned (.tuple #[.int .u64 n,.int .i64 b,.int .i64 c])) w' :=
 ⟨by rw [h],hb⟩
theorem GetEnds.to{s:ByteArray}{a:Int}{w w':World}{e:Ending}{n:Nat}{b c:Int}(h:GetEnds s a w e w')(hl:lget s.data.toList a=(n,b,c)):e=.returned (.tuple #[.int .u64 n,.int .i64 b,.int .i64 c])∧Below w.heap.size w w':=by
 obtain⟨h1,h2⟩:=h
 rw [hl] at h1
 exact⟨h1,h2⟩
end Go.Proofs.YtodejloonfkkmaaGreat.Leb
