/-
  Plain facts on programs that are changed in one place: what is told by kinds, and by whether a node is a block, stays. No program is met here.
  Plain facts on deltas: what is changed, and that a typed program stays typed. No program is met here.
  Plain facts on deltas as bytes: what is put is read back, whatever stands behind it; a delta has one form. No program is met here.
  Plain facts on deltas: one order; what is changed stands in one place; a tag or a number that is changed is changed back. No program is met here.
  What the functions of deltas come to.
  Arguments that are deltas by value: what they hold.
-/
import Derived.Test.YtodejloonfkkmaaGreatKindsG
import Derived.Test.YtodejloonfkkmaaGreatCodeG
import Derived.Test.YtodejloonfkkmaaGreatPathG
namespace Go.Proofs.YtodejloonfkkmaaGreat.Delta
open _root_.Go.Proofs.YtodejloonfkkmaaGreat.Arena _root_.Go.Proofs.YtodejloonfkkmaaGreat.Kinds

def blksB (ks : List (Int × Bool)) : Bool := (ks.drop 1).all Prod.snd
/-- As rule is, by blocks alone. -/
def ruleB (vs : List Int) (x : Nd) (ks : List (Int × Bool)) : Int :=
  if x.1 = 1 then 0 else if x.1 = 2 then 1
  else if x.1 = 3 then ifso (vtyp vs x.2 = 0 ∨ vtyp vs x.2 = 1) (vtyp vs x.2)
  else if x.1 = 4 then ifso (0 < asz (vtyp vs x.2) ∧ ks.map Prod.fst = [0]) 0
  else if x.1 = 5 then ifso (ks.map Prod.fst = [0]) 0
  else if x.1 = 6 then ifso (ks.map Prod.fst = [1]) 1
  else if 7 ≤ x.1 ∧ x.1 ≤ 11 then ifso (ks.map Prod.fst = [0, 0]) 0
  else if 12 ≤ x.1 ∧ x.1 ≤ 17 then ifso (ks.map Prod.fst = [0, 0]) 1
  else if x.1 = 18 ∨ x.1 = 19 then ifso (ks.map Prod.fst = [1, 1]) 1
  else if x.1 = 20 then ifso (alltwo (ks.map Prod.fst) = true) 2
  else if x.1 = 21 then ifso ((vtyp vs x.2 = 0 ∨ vtyp vs x.2 = 1) ∧ ks.map Prod.fst = [vtyp vs x.2]) 2
  else if x.1 = 22 then ifso (0 < asz (vtyp vs x.2) ∧ ks.map Prod.fst = [0, 0]) 2
  else if x.1 = 23 then ifso (ks.map Prod.fst = [1, 2, 2] ∧ blksB ks = true) 2
  else if x.1 = 24 then ifso (ks.map Prod.fst = [1, 2] ∧ blksB ks = true) 2
  else if x.1 = 25 then ifso (ks.map Prod.fst = [0]) 2
  else 2
def kb (vs : List Int) (x : Nd) (ks : List (Int × Bool)) : Int × Bool := (ruleB vs x ks, decide (x.1 = 20))
end Go.Proofs.YtodejloonfkkmaaGreat.Delta

namespace Go.Proofs.YtodejloonfkkmaaGreat.Delta
open _root_.Go.Proofs.YtodejloonfkkmaaGreat.Arena _root_.Go.Proofs.YtodejloonfkkmaaGreat.Kinds

/-- Is a node, and the number, as an operator asks? -/
def dmay (t op n : Int) : Bool :=
  if op = 1 then decide (7 ≤ t ∧ t ≤ 11) && decide (7 ≤ n ∧ n ≤ 11)
  else if op = 2 then decide (12 ≤ t ∧ t ≤ 17) && decide (12 ≤ n ∧ n ≤ 17)
  else if op = 3 then decide (18 ≤ t ∧ t ≤ 19) && decide (18 ≤ n ∧ n ≤ 19)
  else if op = 4 then decide (t = 1) || (decide (t = 2) && decide (0 ≤ n ∧ n ≤ 1))
  else if op = 5 then decide (t = 21 ∨ t = 22 ∨ t = 23 ∨ t = 24 ∨ t = 25) && decide (n = 0)
  else if op = 6 then decide (t = 23 ∨ t = 24) && decide (n = 0)
  else if op = 7 then decide (t = 25) else false
/-- With others instead of what stands between two places. -/
def swap (l : List Nd) (a b : Nat) (m : List Nd) : List Nd := l.take a ++ m ++ l.drop b
/-- What a body becomes, of a delta that may be, at a place. -/
def dch (l : List Nd) (a : Nat) (op n : Int) : List Nd :=
  if op = 1 ∨ op = 2 ∨ op = 3 then swap l a (a + 1) [(n, (l.getD a (0, 0)).2)]
  else if op = 4 then swap l a (a + 1) [((l.getD a (0, 0)).1, n)]
  else if op = 5 then swap l a (aend l a).toNat [(26, 0)]
  else if op = 6 then swap l (a + 1) (a + 1) [(6, 0)]
  else swap l (a + 1) (aend l ((a + 1 : Nat) : Int)).toNat [(1, n)]

end Go.Proofs.YtodejloonfkkmaaGreat.Delta

namespace Go.Proofs.YtodejloonfkkmaaGreat.Delta
open Go.RowKit Leb Mem Wire Zig _root_.Go.Proofs.YtodejloonfkkmaaGreat.Arena _root_.Go.Proofs.YtodejloonfkkmaaGreat.Kinds _root_.Go.Proofs.YtodejloonfkkmaaGreat.Code

/-- May a delta be put? -/
structure Right (p : List Int) (op : Int) : Prop where
  len : p.length ≤ 30
  rng : ∀ k ∈ p, 0 ≤ k ∧ k ≤ 199
  op0 : 1 ≤ op
  op1 : op ≤ 7
def pathb (p : List Int) : List UInt8 := p.flatMap fun k => lput k.toNat
def dput (p : List Int) (op n : Int) : List UInt8 := lput p.length ++ (pathb p ++ (tb op :: lput (zig n).toNat))

/-- The first i numbers of a path, by one who asks for a number. -/
def rp (g : Int × Int → (Int × Int) × Int) (s : Int × Int) : Nat → List Int × (Int × Int)
  | 0 => ([], s)
  | i + 1 => ((rp g s i).1 ++ [(g (rp g s i).2).2], (g (rp g s i).2).1)
/-- Reading a delta, as well as can be: where the reader is behind the count, behind the path, behind the operator, and behind the number. -/
def d1 (S : ByteArray) : (Int × Int) × Int := Code.ask S (0, 0) 2
def d2 (S : ByteArray) : List Int × (Int × Int) := rp (fun s => Code.ask S s 2) (d1 S).1 (min (d1 S).2.toNat 31)
def d3 (S : ByteArray) : (Int × Int) × Int := Code.ask S (d2 S).2 0
def d4 (S : ByteArray) : (Int × Int) × Int := Code.ask S (d3 S).1 3
/-- Are these bytes a delta's? -/
def dfits (S : ByteArray) : Prop := Right (d2 S).1 (d3 S).2 ∧ dput (d2 S).1 (d3 S).2 (d4 S).2 = S.data.toList
/-- Reading as a package may: no more than 30 numbers, each no more than 199. -/
def e1 (S : ByteArray) : (Int × Int) × Int := askP S (0, 0) 2 30
def e2 (S : ByteArray) : List Int × (Int × Int) := rp (fun s => askP S s 2 199) (e1 S).1 (e1 S).2.toNat
def e3 (S : ByteArray) : (Int × Int) × Int := askP S (e2 S).2 0 0
def e4 (S : ByteArray) : (Int × Int) × Int := askP S (e3 S).1 3 0
end Go.Proofs.YtodejloonfkkmaaGreat.Delta

namespace Go.Proofs.YtodejloonfkkmaaGreat.Delta
open _root_.Go.Proofs.YtodejloonfkkmaaGreat.Arena _root_.Go.Proofs.YtodejloonfkkmaaGreat.Path

def three (a b : Int) : Int := if a < b then -1 else if b < a then 1 else 0
end Go.Proofs.YtodejloonfkkmaaGreat.Delta

namespace Go.Proofs.YtodejloonfkkmaaGreat.Delta
open Go.RowKit Leb Mem _root_.Go.Proofs.YtodejloonfkkmaaGreat.Arena _root_.Go.Proofs.YtodejloonfkkmaaGreat.Kinds _root_.Go.Proofs.YtodejloonfkkmaaGreat.Path
set_option linter.unusedVariables false

/-- A delta: its path, operator and number, and where the path lies. -/
structure Dlt where
  A : Option Addr
  c : Nat
  p : List Int
  op : Int
  n : Int
/-- It lies in memory, and is not large. -/
structure Dlt.Ok (d : Dlt) (w : World) : Prop where
  path : IRow w w.heap.size d.A d.p
  len : d.p.length ≤ 1000000
  cap : d.p.length ≤ d.c
  none : d.A = none → d.c = 0
theorem Dlt.Ok.at {d : Dlt} {w w' : World} (h : d.Ok w) (hb : Below w.heap.size w w') : d.Ok w' := ⟨h.path.at hb, h.len, h.cap, h.none⟩
theorem Dlt.Ok.drew {d : Dlt} {w : World} (h : d.Ok w) : d.Ok w.drew := ⟨h.path, h.len, h.cap, h.none⟩
/-- Its numbers fit into 64 bits. -/
def N64 (n : Int) : Prop := -9223372036854775808 ≤ n ∧ n ≤ 9223372036854775807

/-- What is wrong with a delta of a body. -/
def aerr (xs : List Nd) (p : List Int) (op n : Int) : Int := if pfind xs p = -1 then 16 else if dmay (xs.getD (pfind xs p).toNat (0, 0)).1 op n = true then 0 else 17
/-- What a body becomes. -/
def anew (xs : List Nd) (p : List Int) (op n : Int) : List Nd := dch xs (pfind xs p).toNat op n
/-- A program that is changed, or what is wrong. -/
def AEnds (p : Prg) (d : Dlt) (w : World) (e : Ending) (w' : World) : Prop :=
  Below w.heap.size w w' ∧
  ((aerr p.xs d.p d.op d.n = 0 ∧ ∃ A c B ce, e = .returned (.tuple #[.agg #[.int .i64 p.ps, .slice A p.vs.length c, .slice B (anew p.xs d.p d.op d.n).length ce], .int .i64 0]) ∧ Prg.Ok ⟨p.ps, A, c, p.vs, B, ce, anew p.xs d.p d.op d.n⟩ w') ∨
   (aerr p.xs d.p d.op d.n ≠ 0 ∧ ∃ A c B ce, e = .returned (.tuple #[.agg #[.int .i64 0, .slice A 0 c, .slice B 0 ce], .int .i64 (aerr p.xs d.p d.op d.n)]) ∧ Prg.Ok ⟨0, A, c, [], B, ce, []⟩ w'))
/-- The like, and the variables' row is the program's own, or newer than all that was there. -/
def AEndsF (p : Prg) (d : Dlt) (w : World) (e : Ending) (w' : World) : Prop :=
  Below w.heap.size w w' ∧
  ((aerr p.xs d.p d.op d.n = 0 ∧ ∃ A c B ce, e = .returned (.tuple #[.agg #[.int .i64 p.ps, .slice A p.vs.length c, .slice B (anew p.xs d.p d.op d.n).length ce], .int .i64 0]) ∧ Prg.Ok ⟨p.ps, A, c, p.vs, B, ce, anew p.xs d.p d.op d.n⟩ w' ∧ ∀ ad, A = some ad → p.A = some ad ∨ w.heap.size ≤ ad.block) ∨
   (aerr p.xs d.p d.op d.n ≠ 0 ∧ ∃ A c B ce, e = .returned (.tuple #[.agg #[.int .i64 0, .slice A 0 c, .slice B 0 ce], .int .i64 (aerr p.xs d.p d.op d.n)]) ∧ Prg.Ok ⟨0, A, c, [], B, ce, []⟩ w'))
theorem AEndsF.end {p : Prg} {d : Dlt} {w w' : World} {e : Ending} (h : AEndsF p d w e w') : AEnds p d w e w' := by
  obtain ⟨hb, ⟨h0, A, c, B, ce, h1, h2, -⟩ | h⟩ := h
  · exact ⟨hb, .inl ⟨h0, A, c, B, ce, h1, h2⟩⟩
  · exact ⟨hb, .inr h⟩
/-- The delta of bytes, or none. -/
def DEnds (S : ByteArray) (w : World) (e : Ending) (w' : World) : Prop :=
  Below w.heap.size w w' ∧
  ((dfits S ∧ ∃ A c, e = .returned (.tuple #[.agg #[.slice A (d2 S).1.length c, .int .i64 (d3 S).2, .int .i64 (d4 S).2], .int .i64 0]) ∧ Dlt.Ok ⟨A, c, (d2 S).1, (d3 S).2, (d4 S).2⟩ w') ∨
   (¬ dfits S ∧ ∃ A c, e = .returned (.tuple #[.agg #[.slice A 0 c, .int .i64 0, .int .i64 0], .int .i64 12]) ∧ Dlt.Ok ⟨A, c, [], 0, 0⟩ w'))
theorem AEnds.ok {p : Prg} {d : Dlt} {w w' : World} {e : Ending} (h : AEnds p d w e w') (h0 : aerr p.xs d.p d.op d.n = 0) : Below w.heap.size w w' ∧ ∃ A c B ce, e = .returned (.tuple #[.agg #[.int .i64 p.ps, .slice A p.vs.length c, .slice B (anew p.xs d.p d.op d.n).length ce], .int .i64 0]) ∧ Prg.Ok ⟨p.ps, A, c, p.vs, B, ce, anew p.xs d.p d.op d.n⟩ w' := by
  obtain ⟨hb, ⟨-, h⟩ | ⟨hn, -⟩⟩ := h
  · exact ⟨hb, h⟩
  · exact absurd h0 hn
theorem AEnds.no {p : Prg} {d : Dlt} {w w' : World} {e : Ending} (h : AEnds p d w e w') (h0 : aerr p.xs d.p d.op d.n ≠ 0) : Below w.heap.size w w' ∧ ∃ A c B ce, e = .returned (.tuple #[.agg #[.int .i64 0, .slice A 0 c, .slice B 0 ce], .int .i64 (aerr p.xs d.p d.op d.n)]) ∧ Prg.Ok ⟨0, A, c, [], B, ce, []⟩ w' := by
  obtain ⟨hb, ⟨hn, -⟩ | ⟨-, h⟩⟩ := h
  · exact absurd hn h0
  · exact ⟨hb, h⟩
theorem AEndsF.ok {p : Prg} {d : Dlt} {w w' : World} {e : Ending} (h : AEndsF p d w e w') (h0 : aerr p.xs d.p d.op d.n = 0) : Below w.heap.size w w' ∧ ∃ A c B ce, e = .returned (.tuple #[.agg #[.int .i64 p.ps, .slice A p.vs.length c, .slice B (anew p.xs d.p d.op d.n).length ce], .int .i64 0]) ∧ Prg.Ok ⟨p.ps, A, c, p.vs, B, ce, anew p.xs d.p d.op d.n⟩ w' ∧ ∀ ad, A = some ad → p.A = some ad ∨ w.heap.size ≤ ad.block := by
  obtain ⟨hb, ⟨-, h⟩ | ⟨hn, -⟩⟩ := h
  · exact ⟨hb, h⟩
  · exact absurd h0 hn
theorem DEnds.ok {S : ByteArray} {w w' : World} {e : Ending} (h : DEnds S w e w') {p : List Int} {op n : Int} (hf : dfits S) (h1 : (d2 S).1 = p) (h2 : (d3 S).2 = op) (h3 : (d4 S).2 = n) : Below w.heap.size w w' ∧ ∃ A c, e = .returned (.tuple #[.agg #[.slice A p.length c, .int .i64 op, .int .i64 n], .int .i64 0]) ∧ Dlt.Ok ⟨A, c, p, op, n⟩ w' := by
  obtain ⟨hb, ⟨-, A, c, he, hk⟩ | ⟨hn, -⟩⟩ := h
  · rw [h1, h2, h3] at he hk
    exact ⟨hb, A, c, he, hk⟩
  · exact absurd hf hn
theorem DEnds.no {S : ByteArray} {w w' : World} {e : Ending} (h : DEnds S w e w') (hf : ¬ dfits S) : Below w.heap.size w w' ∧ ∃ A c, e = .returned (.tuple #[.agg #[.slice A 0 c, .int .i64 0, .int .i64 0], .int .i64 12]) ∧ Dlt.Ok ⟨A, c, [], 0, 0⟩ w' := by
  obtain ⟨hb, ⟨hy, -⟩ | ⟨-, h⟩⟩ := h
  · exact absurd hy hf
  · exact ⟨hb, h⟩

end Go.Proofs.YtodejloonfkkmaaGreat.Delta

namespace Go.Proofs.YtodejloonfkkmaaGreat.Delta
open Go.RowKit Mem Go.ChangeShapes Go.WideShapes Go.Deep Go.Joins _root_.Go.Proofs.YtodejloonfkkmaaGreat.Arena _root_.Go.Proofs.YtodejloonfkkmaaGreat.Kinds

/-- A delta that came in: it lies in memory; how long its path is is not known. -/
structure Dlt.In (d : Dlt) (w : World) : Prop where
  path : IRow w w.heap.size d.A d.p
  len : d.p.length ≤ maxLen
  cap : d.p.length ≤ d.c
  none : d.A = none → d.c = 0
  n64 : N64 d.n
theorem Dlt.In.at {d : Dlt} {w w' : World} (h : d.In w) (hb : Below w.heap.size w w') : d.In w' := ⟨h.path.at hb, h.len, h.cap, h.none, h.n64⟩
theorem Dlt.In.ok {d : Dlt} {w : World} (h : d.In w) (h1 : d.p.length ≤ 1000000) : d.Ok w := ⟨h.path, h1, h.cap, h.none⟩

section
variable {H : Type} {enc : TypeId × Value → H} {W : World} {spare : Nat → Bool} {held : Bool}

end
end Go.Proofs.YtodejloonfkkmaaGreat.Delta
