/-
  What is read, one thing by one: the program's way, walked.
-/
import Derived.Test.YtodejloonfkkmaaWireG
import Derived.Test.YtodejloonfkkmaaWireItems
namespace Go.Proofs.Ytodejloonfkkmaa.Wire
open Go.RowKit Leb Mem

/-- What reading one thing comes to. -/
structure Out where
  num : Int
  int : Int
  text : List UInt8
  to : Int
  er : Int

/-- What stands at place p, if thing k is asked for, with n. -/
def outOf (S : ByteArray) (p : Nat) (k n : Int) : Out :=
  if k = 0 then (if h : p < S.size then ⟨S[p].toNat, 0, [], (p : Int) + 1, 0⟩ else ⟨0, 0, [], p, 2⟩)
  else if k = 2 then ⟨(lcount S.data.toList p n).1, 0, [], (lcount S.data.toList p n).2.1, (lcount S.data.toList p n).2.2⟩
  else if k = 3 then ⟨0, Zig.zag ((lget S.data.toList p).1 : Nat), [], (lget S.data.toList p).2.1, (lget S.data.toList p).2.2⟩
  else if k = 4 then ⟨0, 0, (ltext S.data.toList p n).1, (ltext S.data.toList p n).2.1, (ltext S.data.toList p n).2.2⟩
  else if k = 5 then ⟨0, 0, (lraw S.data.toList p n).1, (lraw S.data.toList p n).2.1, (lraw S.data.toList p n).2.2⟩
  else ⟨(lget S.data.toList p).1, 0, [], (lget S.data.toList p).2.1, (lget S.data.toList p).2.2⟩

/-- What the reader keeps of it. -/
def Out.fin (er0 p : Int) (o : Out) : Out := if fst0 er0 o.er = 0 then ⟨o.num, o.int, o.text, o.to, 0⟩ else ⟨0, 0, [], p, fst0 er0 o.er⟩
section
variable {a : Nat} {S : ByteArray} {p er0 : Int} {o : Out} {w w' : World} {e : Ending} {K : IntKind}
end
end Go.Proofs.Ytodejloonfkkmaa.Wire
