/-
  Package zigzag and its reference, walked: each number with a sign is told by one without.
  Package zigzag: Put and Get, walked; the reference's Put.
  Package wire: a place in bytes, walked.
  Package wire: the number, the text and the bytes at a place, walked.
  Package wire: the reader, walked.
  Package wire: what a reader reads, walked.
  Package wire: the writer, walked.
  A writer through several calls: what it holds, and that all but its own blocks is as it was since a world that is past.
-/
import Derived.Test.YtodejloonfkkmaaGreatLebG
import Derived.BigQuiet
import Derived.Deep.RegionHeld3
import Derived.Lib.Zigzag
import Derived.Laws.EntriesVeiled
import Derived.Deep.DrawnRows
import Derived.Test.YtodejloonfkkmaaGreatBaseG
import Derived.RegionTactic
import Derived.Outline
import Derived.Lib.Strings
import Derived.Lib.AppendStr
import Derived.Maps.AppendAt
namespace Go.Proofs.YtodejloonfkkmaaGreat.Zig
open Go.RowKit Leb
def zig(n:Int):Int:=if 0≤n then 2*n else -2*n-1
def zag(u:Int):Int:=if u%2=0 then u / 2 else -(u / 2)-1
end Go.Proofs.YtodejloonfkkmaaGreat.Zig
namespace Go.Proofs.YtodejloonfkkmaaGreat.Zig
open Go.RowKit Leb
attribute [local go_sem ↓] Go.wp_at_zero Go.wp_at_succ
theorem below2{w w1 w2:World}(h1:Below w.heap.size w w1)(h2:Below w1.heap.size w1 w2):Below w.heap.size w w2:=h1.trans (h2.mono h1.size)
def zput(n:Int):List UInt8:=lput (zig n).toNat
def ZGetEnds(s:ByteArray)(a:Int)(w:World)(e:Ending)(w':World):Prop :=
 e=.returned (.tuple #[.int .i64 (zag ((lget s.data.toList a).1:Int)),.int .i64 (lget s.data.toList a).2.1,.int .i64 (lget s.data.toList a).2.2])∧Below w.heap.size w w'
theorem ZGetEnds.mk{s:ByteArray}{a:Int}{w w':World}{m:Int}{n:Nat}{b c:Int}(h:lget s.data.toList a=(n,b,c))(hm:m=zag (n:Int))(hb:Below w.heap.size w w'):ZGetEnds s a w (.returned (.tuple #[.int .i64 m,.int .i64 b,.int .i64 c])) w' :=
 ⟨by rw [h,hm],hb⟩
theorem ZGetEnds.to{s:ByteArray}{a:Int}{w w':World}{e:Ending}{n:Nat}{b c:Int}(h:ZGetEnds s a w e w')(hl:lget s.data.toList a=(n,b,c)):e=.returned (.tuple #[.int .i64 (zag (n:Int)),.int .i64 b,.int .i64 c])∧Below w.heap.size w w':=by
 obtain⟨h1,h2⟩:=h
 rw [hl] at h1
 exact⟨h1,h2⟩
end Go.Proofs.YtodejloonfkkmaaGreat.Zig
namespace Go.Proofs.YtodejloonfkkmaaGreat.Wire
open Go.RowKit Leb Mem
def strB(l:List UInt8):ByteArray:=⟨l.toArray⟩
def lcount(l:List UInt8)(a m:Int):Nat×Int×Int:=if(lget l a).2.2≠0 then(0,a,(lget l a).2.2) else if m<0∨m<(lget l a).1 then(0,a,4) else lget l a
def lraw(l:List UInt8)(a n:Int):List UInt8×Int×Int:=if n<0 then([],a,1) else if(l.length:Int)-a<n then([],a,2) else((l.drop a.toNat).take n.toNat,a+n,0)
def ltext(l:List UInt8)(a m:Int):List UInt8×Int×Int:=if(lcount l a m).2.2≠0 then([],a,(lcount l a m).2.2) else lraw l (lcount l a m).2.1 (lcount l a m).1
def CountEnds(s:ByteArray)(a m:Int)(w:World)(e:Ending)(w':World):Prop :=
 e=.returned (.tuple #[.int .i64 (lcount s.data.toList a m).1,.int .i64 (lcount s.data.toList a m).2.1,.int .i64 (lcount s.data.toList a m).2.2])∧Below w.heap.size w w'
def TextEnds(r:List UInt8×Int×Int)(w:World)(e:Ending)(w':World):Prop :=
 e=.returned (.tuple #[.string (strB r.1),.int .i64 r.2.1,.int .i64 r.2.2])∧Below w.heap.size w w'
theorem CountEnds.mk{s:ByteArray}{a m:Int}{w w':World}{n b c:Int}{k:Nat}(h:lcount s.data.toList a m=(k,b,c))(hn:n=k)(hb:Below w.heap.size w w'):CountEnds s a m w (.returned (.tuple #[.int .i64 n,.int .i64 b,.int .i64 c])) w' :=
 ⟨by rw [h,hn],hb⟩
theorem CountEnds.to{s:ByteArray}{a m:Int}{w w':World}{e:Ending}{n:Nat}{b c:Int}(h:CountEnds s a m w e w')(hl:lcount s.data.toList a m=(n,b,c)):e=.returned (.tuple #[.int .i64 n,.int .i64 b,.int .i64 c])∧Below w.heap.size w w':=by
 obtain⟨h1,h2⟩:=h
 rw [hl] at h1
 exact⟨h1,h2⟩
theorem TextEnds.mk{r:List UInt8×Int×Int}{w w':World}{s:ByteArray}{l:List UInt8}{b c:Int}(h:r=(l,b,c))(hs:s=strB l)(hb:Below w.heap.size w w'):TextEnds r w (.returned (.tuple #[.string s,.int .i64 b,.int .i64 c])) w' :=
 ⟨by rw [h,hs],hb⟩
theorem TextEnds.to{r:List UInt8×Int×Int}{w w':World}{e:Ending}{l:List UInt8}{b c:Int}(h:TextEnds r w e w')(hl:r=(l,b,c)):e=.returned (.tuple #[.string (strB l),.int .i64 b,.int .i64 c])∧Below w.heap.size w w':=by
 obtain⟨h1,h2⟩:=h
 rw [hl] at h1
 exact⟨h1,h2⟩
def fst0(p q:Int):Int:=if p=0 then q else p
section
variable {a:Nat} {s:ByteArray} {p er0 to er:Int} {x z:Value} {w w':World} {e:Ending}
end
section
variable {w w':World} {a:Nat} {R:Option Nat} {l:List UInt8}
end
def tput(s:List UInt8):List UInt8:=lput s.length++s
section
variable {g:Nat} {R0:Option Nat} {W w w':World} {l m:List UInt8}
end
section
variable {g:Nat} {R0:Option Nat} {W w:World} {l:List UInt8}
end
end Go.Proofs.YtodejloonfkkmaaGreat.Wire
