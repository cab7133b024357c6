/-
  The things that layer 5's statements write, in memory; and what they are as bytes.
-/
import Derived.Test.YtodejloonfkkmaaWireG
import Derived.TacticsInMore
import Derived.Tactics2
namespace Go.Proofs.Ytodejloonfkkmaa.Wire
open Go.RowKit Leb Mem

/-- A thing to write: its kind, its number with a sign, its number without one, its text. -/
structure Item where
  k : Int
  n : Int
  u : Int
  s : ByteArray

/-- What a thing of Go's holds at most. -/
structure Item.Ok (x : Item) : Prop where
  n0 : -9223372036854775808 ≤ x.n
  n1 : x.n ≤ 9223372036854775807
  u0 : 0 ≤ x.u
  u1 : x.u ≤ 18446744073709551615
  s1 : x.s.size ≤ 140737488351232

/-- Things in memory, below block B. -/
def Items (w : World) (B : Nat) (A : Option Addr) (xs : List Item) : Prop :=
  ∀ i x, xs[i]? = some x → ∃ ad, A = some ad ∧ ad.block < B ∧ x.Ok ∧ w.cell? (ad.add (i * 4)) = some (.int .i64 x.k) ∧ w.cell? ⟨(ad.add (i * 4)).block, (ad.add (i * 4)).off + 1, none⟩ = some (.int .i64 x.n) ∧ w.cell? ⟨(ad.add (i * 4)).block, (ad.add (i * 4)).off + 2, none⟩ = some (.int .u64 x.u) ∧ w.cell? ⟨(ad.add (i * 4)).block, (ad.add (i * 4)).off + 3, none⟩ = some (.string x.s)

theorem add_block (a : Addr) (n : Nat) : (a.add n).block = a.block := by unfold Addr.add; split <;> rfl

theorem Items.keep {w w' : World} {B : Nat} {A : Option Addr} {xs : List Item} (h : Items w B A xs) (hb : ∀ k, k < B → w'.heap[k]? = w.heap[k]?) : Items w' B A xs := by
  intro i x hx
  obtain ⟨ad, e, hlt, ok, h0, h1, h2, h3⟩ := h i x hx
  have hc : ∀ q : Addr, q.block = (ad.add (i * 4)).block → w'.cell? q = w.cell? q := fun q e => World.cell?_of_block (hb _ (by rw [e, add_block]; exact hlt))
  exact ⟨ad, e, hlt, ok, (hc (ad.add (i * 4)) rfl).trans h0, (hc ⟨(ad.add (i * 4)).block, (ad.add (i * 4)).off + 1, none⟩ rfl).trans h1, (hc ⟨(ad.add (i * 4)).block, (ad.add (i * 4)).off + 2, none⟩ rfl).trans h2, (hc ⟨(ad.add (i * 4)).block, (ad.add (i * 4)).off + 3, none⟩ rfl).trans h3⟩
theorem Items.below {w w' : World} {B : Nat} {A : Option Addr} {xs : List Item} (h : Items w B A xs) (hb : Below B w w') : Items w' B A xs := h.keep hb.block

/-- A number's lowest byte. -/
def b8 (n : Int) : UInt8 := UInt8.ofNat (n % 256).toNat
/-- What a thing is as bytes. -/
def Item.bytes (x : Item) : List UInt8 :=
  if x.k = 0 then [b8 x.n] else if x.k = 1 then lput x.u.toNat else if x.k = 3 then Zig.zput x.n else if x.k = 4 then tput x.s.data.toList else if x.k = 5 then x.s.data.toList else []

/-- An item as a value. -/
def Item.val (x : Item) : Value := .agg #[.int .i64 x.k, .int .i64 x.n, .int .u64 x.u, .string x.s]

end Go.Proofs.Ytodejloonfkkmaa.Wire
