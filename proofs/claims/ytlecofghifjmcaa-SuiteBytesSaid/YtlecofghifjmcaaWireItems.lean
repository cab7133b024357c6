/-
  The things that layer 5's statements write, in memory; and what they are as bytes.
-/
import Derived.Test.YtlecofghifjmcaaWireG
import Derived.TacticsInMore
import Derived.Tactics2
namespace Go.Proofs.Ytlecofghifjmcaa.Wire
open Go.RowKit Leb Mem

/-- A thing to write: its kind, its number with a sign, its number without one, its text. -/
structure Item where
  k : Int
  n : Int
  u : Int
  s : ByteArray

/-- What a thing of Go's holds at most. -/
structure Item.Ok (x : Item) : Prop where
  n0 : -9223372036854775808 ≤ x.n
  n1 : x.n ≤ 9223372036854775807
  u0 : 0 ≤ x.u
  u1 : x.u ≤ 18446744073709551615
  s1 : x.s.size ≤ 140737488351232

/-- Things in memory, below block B. -/
def Items (w : World) (B : Nat) (A : Option Addr) (xs : List Item) : Prop :=
  ∀ i x, xs[i]? = some x → ∃ ad, A = some ad ∧ ad.block < B ∧ x.Ok ∧ w.cell? (ad.add (i * 4)) = some (.int .i64 x.k) ∧ w.cell? ⟨(ad.add (i * 4)).block, (ad.add (i * 4)).off + 1, none⟩ = some (.int .i64 x.n) ∧ w.cell? ⟨(ad.add (i * 4)).block, (ad.add (i * 4)).off + 2, none⟩ = some (.int .u64 x.u) ∧ w.cell? ⟨(ad.add (i * 4)).block, (ad.add (i * 4)).off + 3, none⟩ = some (.string x.s)

theorem add_block (a : Addr) (n : Nat) : (a.add n).block = a.block := by unfold Addr.add; split <;> rfl

theorem Items.keep {w w' : World} {B : Nat} {A : Option Addr} {xs : List Item} (h : Items w B A xs) (hb : ∀ k, k < B → w'.heap[k]? = w.heap[k]?) : Items w' B A xs := by
  intro i x hx
  obtain ⟨ad, e, hlt, ok, h0, h1, h2, h3⟩ := h i x hx
  have hc : ∀ q : Addr, q.block = (ad.add (i * 4)).block → w'.cell? q = w.cell? q := fun q e => World.cell?_of_block (hb _ (by rw [e, add_block]; exact hlt))
  exact ⟨ad, e, hlt, ok, (hc (ad.add (i * 4)) rfl).trans h0, (hc ⟨(ad.add (i * 4)).block, (ad.add (i * 4)).off + 1, none⟩ rfl).trans h1, (hc ⟨(ad.add (i * 4)).block, (ad.add (i * 4)).off + 2, none⟩ rfl).trans h2, (hc ⟨(ad.add (i * 4)).block, (ad.add (i * 4)).off + 3, none⟩ rfl).trans h3⟩
theorem Items.below {w w' : World} {B : Nat} {A : Option Addr} {xs : List Item} (h : Items w B A xs) (hb : Below B w w') : Items w' B A xs := h.keep hb.block

/-- How many letters in all. -/
def total (xs : List Item) : Nat := (xs.map (·.s.size)).sum
theorem total_take (xs : List Item) (i : Nat) (x : Item) (h : xs[i]? = some x) : total (xs.take (i + 1)) = total (xs.take i) + x.s.size := by
  obtain ⟨hi, rfl⟩ := List.getElem?_eq_some_iff.1 h
  unfold total
  rw [List.take_succ_eq_append_getElem hi, List.map_append, List.sum_append]
  simp
theorem total_le (xs : List Item) (n m : Nat) (h : xs.length ≤ n) (hs : ∀ x ∈ xs, x.s.size ≤ m) : total xs ≤ n * m := by
  induction xs generalizing n with
  | nil => simp [total]
  | cons x t ih =>
    obtain ⟨q, rfl⟩ : ∃ q, n = q + 1 := ⟨n - 1, by simp at h; omega⟩
    have h1 := ih q (by simpa using h) (fun y hy => hs y (by simp [hy]))
    have h2 := hs x (by simp)
    rw [Nat.add_mul]
    simp only [total, List.map_cons, List.sum_cons] at *
    omega

/-- Are they few? -/
def fewB (xs : List Item) : Bool := decide (xs.length ≤ 60 ∧ total xs ≤ 1000)

/-- A number's lowest byte. -/
def b8 (n : Int) : UInt8 := UInt8.ofNat (n % 256).toNat
theorem b8_mod (n : Int) : n % 256 = ((b8 n).toNat : Int) := by
  have h : (n % 256).toNat < 256 := by omega
  rw [b8, UInt8.toNat_ofNat', Nat.mod_eq_of_lt h]
  omega

/-- What a thing is as bytes. -/
def Item.bytes (x : Item) : List UInt8 :=
  if x.k = 0 then [b8 x.n] else if x.k = 1 then lput x.u.toNat else if x.k = 3 then Zig.zput x.n else if x.k = 4 then tput x.s.data.toList else if x.k = 5 then x.s.data.toList else []

theorem Item.bytes_le (x : Item) (h : x.Ok) : x.bytes.length ≤ x.s.size + 10 := by
  have hs : x.s.data.toList.length = x.s.size := by simp
  have hu0 := h.u0; have hu1 := h.u1; have hs1 := h.s1
  have hz := Zig.zig_range h.n0 h.n1
  have l1 := lput_len10 (n := x.u.toNat) (by omega)
  have l2 : (Zig.zput x.n).length ≤ 10 := lput_len10 (n := (Zig.zig x.n).toNat) (by omega)
  have l3 := lput_len10 (n := x.s.data.toList.length) (by omega)
  have l4 : (tput x.s.data.toList).length = (lput x.s.data.toList.length).length + x.s.data.toList.length := by unfold tput; rw [List.length_append]
  unfold Item.bytes
  repeat' split
  all_goals first | omega | simp

/-- An item as a value. -/
def Item.val (x : Item) : Value := .agg #[.int .i64 x.k, .int .i64 x.n, .int .u64 x.u, .string x.s]

end Go.Proofs.Ytlecofghifjmcaa.Wire
