/-
  Nodes, and numbers, in a row: are two rows alike? The reference's, and the package's by slices.Equal, walked.
  Package arena, walked: lists put together, one behind the other.
  Package arena, walked: a part, and what is replaced.
  Package arena, walked: a node's kids.
  Plain facts on depths: read from the right, a node's kids' depths lie on top of a row of depths. No program is met here.
  Package arena, walked: how deep a node is, by a row of depths.
  Package arena, walked: whether nodes may be.
  The reference of arenas, walked: how deep a node is (by recursion), parts, what is replaced, whether nodes may be.
  The reference of arenas, walked: whether nodes may be.
  The laws of layer 8, walked: the document's examples.
  Arguments that are nodes, one by value or a slice of them: what they hold.
  Plain facts on nodes: whatever is told of a node by itself and by what is told of its kids, is told by the part alone; a part that tells the same may stand instead. No program is met here.
-/
import Derived.Test.YtodejloonfkkmaaGreatArenaG
import Derived.Deep.QuietTactic
import Derived.Laws.AppendOwnNone
import Derived.Deep.RegionHeld3
import Derived.Deep.DrawnRows
import Derived.Laws.MakeOwn
import Derived.Laws.OwnMore
import Derived.Deep.AppendLies
import Derived.WalkKit
import Derived.Deep.Slices
import Derived.Lib.SmallJoins
import Derived.SizedLaws
import Derived.Carry
import Derived.OpenShut
import Derived.ChangeOld
import Derived.ShutString
import Derived.ProofKit
namespace Go.Proofs.YtodejloonfkkmaaGreat.Arena
open Go.RowKit Mem

theorem take_snoc {α : Type} (xs : List α) (k : Nat) (x : α) (h : xs[k]? = some x) : xs.take (k + 1) = xs.take k ++ [x] := by
  obtain ⟨hk, rfl⟩ := List.getElem?_eq_some_iff.1 h
  rw [List.take_succ_eq_append_getElem hk]
theorem rows_differ {α : Type} [DecidableEq α] {xs ys : List α} {i : Nat} {x y : α} (hx : xs[i]? = some x) (hy : ys[i]? = some y) (h : x ≠ y) : decide (xs = ys) = false := by
  apply decide_eq_false
  rintro rfl
  rw [hx] at hy
  exact h (Option.some.inj hy)
theorem rows_alike {α : Type} [DecidableEq α] {xs ys : List α} {n : Nat} (h : xs.take n = ys.take n) (h1 : n = xs.length) (h2 : ys.length = n) : decide (xs = ys) = true := by
  apply decide_eq_true
  rwa [List.take_of_length_le (by omega), List.take_of_length_le (by omega)] at h

/-- Numbers that lie in a row, all below B. -/
def IRow (w : World) (B : Nat) (A : Option Addr) (ks : List Int) : Prop :=
  ∀ (i : Nat) (x : Int), ks[i]? = some x → ∃ ad, A = some ad ∧ ad.block < B ∧ w.cell? (ad.add i) = some (.int .i64 x)
theorem IRow.keep {w w' : World} {B : Nat} {A : Option Addr} {xs : List Int} (h : IRow w B A xs) (hb : ∀ k, k < B → w'.heap[k]? = w.heap[k]?) : IRow w' B A xs := by
  intro i x hx
  obtain ⟨ad, h0, h1, h3⟩ := h i x hx
  refine ⟨ad, h0, h1, ?_⟩
  rw [← h3]
  unfold World.cell?
  rw [add_blockN, hb _ h1]
theorem IRow.below {w w' : World} {B : Nat} {A : Option Addr} {xs : List Int} (h : IRow w B A xs) (hb : Below B w w') : IRow w' B A xs := h.keep hb.block
theorem IRow.at {w w' : World} {A : Option Addr} {xs : List Int} (h : IRow w w.heap.size A xs) (hb : Below w.heap.size w w') : IRow w' w'.heap.size A xs := by
  intro i x hx
  obtain ⟨ad, e, hlt, r⟩ := (IRow.below h hb) i x hx
  exact ⟨ad, e, Nat.lt_of_lt_of_le hlt hb.size, r⟩

end Go.Proofs.YtodejloonfkkmaaGreat.Arena

namespace Go.Proofs.YtodejloonfkkmaaGreat.Arena
open Go.RowKit Mem

def ncells (xs : List Nd) : List Value := xs.flatMap fun x => [Value.int .i64 x.1, .int .i64 x.2]
theorem ncells_append (xs ys : List Nd) : ncells (xs ++ ys) = ncells xs ++ ncells ys := by simp [ncells]
theorem ncells_len (xs : List Nd) : (ncells xs).length = xs.length * 2 := by
  induction xs with
  | nil => rfl
  | cons x l ih => rw [show ncells (x :: l) = [Value.int .i64 x.1, .int .i64 x.2] ++ ncells l from rfl, List.length_append, ih, List.length_cons]; simp; omega
theorem ncells_get : ∀ (xs : List Nd) (i : Nat) (x : Nd), xs[i]? = some x → (ncells xs)[i * 2]? = some (.int .i64 x.1) ∧ (ncells xs)[i * 2 + 1]? = some (.int .i64 x.2)
  | y :: l, 0, x, h => by simp at h; subst h; exact ⟨rfl, rfl⟩
  | y :: l, i + 1, x, h => by
    have h' : l[i]? = some x := by simpa using h
    obtain ⟨a, b⟩ := ncells_get l i x h'
    rw [show ncells (y :: l) = .int .i64 y.1 :: .int .i64 y.2 :: ncells l from rfl, show (i + 1) * 2 = i * 2 + 1 + 1 by omega, List.getElem?_cons_succ, List.getElem?_cons_succ]
    exact ⟨a, by rw [List.getElem?_cons_succ, List.getElem?_cons_succ]; exact b⟩
theorem ncells_at : ∀ (xs : List Nd) (j : Nat) (u : Value), (ncells xs)[j]? = some u → ∃ x, xs[j / 2]? = some x ∧ u = .int .i64 (if j % 2 = 0 then x.1 else x.2)
  | [], j, u, h => by simp [ncells] at h
  | y :: l, 0, u, h => by
    rw [show ncells (y :: l) = .int .i64 y.1 :: .int .i64 y.2 :: ncells l from rfl] at h
    simp at h; exact ⟨y, rfl, h.symm⟩
  | y :: l, 1, u, h => by
    rw [show ncells (y :: l) = .int .i64 y.1 :: .int .i64 y.2 :: ncells l from rfl] at h
    simp at h; exact ⟨y, rfl, h.symm⟩
  | y :: l, j + 2, u, h => by
    rw [show ncells (y :: l) = .int .i64 y.1 :: .int .i64 y.2 :: ncells l from rfl, List.getElem?_cons_succ, List.getElem?_cons_succ] at h
    obtain ⟨x, h1, h2⟩ := ncells_at l j u h
    refine ⟨x, ?_, ?_⟩
    · rw [show (j + 2) / 2 = j / 2 + 1 by omega, List.getElem?_cons_succ]; exact h1
    · rw [show (j + 2) % 2 = j % 2 by omega]; exact h2

theorem add_off (a : Addr) (j : Nat) (h : 0 < j) : a.add j = ⟨a.block, a.off + j, none⟩ := by unfold Addr.add; rw [if_neg (by omega)]
/-- The cells of a row of nodes, one by one. -/
theorem Nodes.cells {w : World} {B : Nat} {ad : Addr} {xs : List Nd} (h : Nodes w B (some ad) xs) : ∀ j u, (ncells xs)[j]? = some u → w.cell? (ad.add j) = some u := by
  intro j u hu
  obtain ⟨x, h1, rfl⟩ := ncells_at xs j u hu
  obtain ⟨ad', e, -, h3, h4⟩ := h _ _ h1
  cases e
  by_cases hj : j % 2 = 0
  · rw [if_pos hj]
    rwa [show j / 2 * 2 = j by omega] at h3
  · rw [if_neg hj]
    have : ad.add j = ⟨(ad.add (j / 2 * 2)).block, (ad.add (j / 2 * 2)).off + 1, none⟩ := by
      rw [add_off ad j (by omega)]
      by_cases h0 : j / 2 * 2 = 0
      · rw [h0]; simp [Addr.add]; omega
      · rw [add_off ad _ (by omega)]; simp; omega
    rw [this]; exact h4
theorem Nodes.nil (w : World) (B : Nat) (A : Option Addr) : Nodes w B A [] := fun i x h => by simp at h
/-- A list of nodes somewhere in memory. -/
structure Sl where
  A : Option Addr
  c : Nat
  xs : List Nd
def Sl.val (l : Sl) : Value := .slice l.A l.xs.length l.c
def Sl.Ok (w : World) (B : Nat) (l : Sl) : Prop := (l.A = none → l.c = 0) ∧ Nodes w B l.A l.xs
end Go.Proofs.YtodejloonfkkmaaGreat.Arena

namespace Go.Proofs.YtodejloonfkkmaaGreat.Arena
open Go.RowKit Mem
attribute [local go_sem ↓] Go.wp_at_zero Go.wp_at_succ

set_option linter.unusedVariables false
end Go.Proofs.YtodejloonfkkmaaGreat.Arena

namespace Go.Proofs.YtodejloonfkkmaaGreat.Arena
open Go.RowKit Mem

/-- A row of numbers that the call owns, as numbers. -/
theorem own_ints {w : World} {base : Nat} {v : Value} {ks : List Int} (h : w.ownsRow base 3 1 v ks.length (icells ks)) :
    ∃ A c, v = .slice A ks.length c ∧ IRow w w.heap.size A ks ∧ ∀ ad, A = some ad → base ≤ ad.block := by
  have hc := fun g hg => h.cells (g := g) hg
  rcases h.2 with ⟨rfl, h0⟩ | ⟨g, cap, cur, rfl, hbg, hg, hn, -⟩
  · obtain rfl := List.length_eq_zero_iff.1 h0
    exact ⟨none, 0, rfl, fun i x h => by simp at h, fun ad e => by cases e⟩
  · refine ⟨_, _, rfl, fun i x hx => ⟨_, rfl, (Array.getElem?_eq_some_iff.1 hg).1, ?_⟩, fun ad e => by cases e; exact hbg⟩
    exact hc g rfl _ _ (by unfold icells; rw [List.getElem?_map, hx]; rfl)

theorem icells_set (done : List Int) (p : Int) (m : Nat) : (icells (done ++ List.replicate (m + 1) 0)).set done.length (.int .i64 p) = icells ((done ++ [p]) ++ List.replicate m 0) := by
  unfold icells
  rw [List.replicate_succ]
  simp

end Go.Proofs.YtodejloonfkkmaaGreat.Arena

namespace Go.Proofs.YtodejloonfkkmaaGreat.Arena

/-- The depths of the nodes that stand side by side, the first one first. -/
def stk : List Nd → List Nat
  | [] => []
  | x :: X => (1 + most ((stk X).take (ar x).toNat)) :: (stk X).drop (ar x).toNat
theorem kids_add (l : List Nd) : ∀ (a b p n : Nat), scan a (l.drop p) = some n → kidsFrom l (a + b) (p : Int) = kidsFrom l a (p : Int) ++ kidsFrom l b ((p + n : Nat) : Int)
  | 0, b, p, n, h => by rw [scan_0] at h; simp at h; subst h; simp [kidsFrom]
  | a + 1, b, p, n, h => by
    rw [Nat.add_comm, scan_add] at h
    cases h1 : scan 1 (l.drop p) with
    | none => rw [h1] at h; cases h
    | some n1 =>
      rw [h1] at h
      simp only [Option.bind_some, Option.map_eq_some_iff, List.drop_drop] at h
      obtain ⟨m, h2, rfl⟩ := h
      have ek : aend l (p : Int) = ((p + n1 : Nat) : Int) := by rw [aend_some h1]; omega
      rw [show a + 1 + b = (a + b) + 1 by omega, kidsFrom, kidsFrom, ek, kids_add l a b (p + n1) m h2, List.cons_append, Nat.add_assoc]

/-- Of nodes that are just so many parts: the depths of the parts. -/
theorem stk_kids (l : List Nd) : ∀ (n c j : Nat), scan c ((l.drop j).take n) = some n → stk ((l.drop j).take n) = (kidsFrom l c (j : Int)).map (adep l)
  | 0, 0, j, _ => by simp [stk, kidsFrom]
  | 0, c + 1, j, h => by rw [List.take_zero, scan_nil] at h; cases h
  | n + 1, 0, j, h => by rw [scan_0] at h; simp at h
  | n + 1, c + 1, j, h => by
    have hle := (scan_le _ _ _ h).2
    rw [List.length_take, List.length_drop] at hle
    have hj : j < l.length := by omega
    have hd : l.drop j = l[j] :: l.drop (j + 1) := List.drop_eq_getElem_cons hj
    have hX : (l.drop j).take (n + 1) = l[j] :: (l.drop (j + 1)).take n := by rw [hd, List.take_succ_cons]
    have hx : 0 ≤ ar l[j] := by
      rcases Int.lt_or_le (ar l[j]) 0 with q | q
      · rw [hX, scan_bad q] at h; cases h
      · exact q
    have h0 := h
    rw [hX, scan_good hx, Option.map_eq_some_iff] at h
    obtain ⟨n', h, hn'⟩ := h
    obtain rfl : n' = n := by omega
    have ih := stk_kids l n' (c + (ar l[j]).toNat) (j + 1) h
    rw [hX, stk, ih]
    -- the first part
    rw [Nat.add_comm c 1, scan_add] at h0
    cases h1 : scan 1 ((l.drop j).take (n' + 1)) with
    | none => rw [h1] at h0; cases h0
    | some m =>
      have hp := scan_prefix _ _ _ ((((l.drop j).take (n' + 1)).drop m) ++ (l.drop j).drop (n' + 1)) h1
      rw [← List.append_assoc, List.take_append_drop, List.take_append_drop] at hp
      obtain ⟨x, hxj, hx0, ek, hsk, hm1, hm2⟩ := node_kids hp
      obtain rfl : l[j] = x := by rw [List.getElem?_eq_getElem hj] at hxj; exact Option.some.inj hxj
      have ea := kids_add l (ar l[j]).toNat c (j + 1) (m - 1) hsk
      rw [show c + (ar l[j]).toNat = (ar l[j]).toNat + c by omega, ea, List.map_append]
      have hlen : ((kidsFrom l (ar l[j]).toNat ((j + 1 : Nat) : Int)).map (adep l)).length = (ar l[j]).toNat := by rw [List.length_map, kids_len]
      rw [List.take_left' hlen, List.drop_left' hlen, kidsFrom, List.map_cons, adep_good hp, ek, aend_some hp, Nat.add_comm 1]
      congr 3
      rw [show j + 1 + (m - 1) = j + m by omega]
      omega
theorem scan_rest : ∀ (X : List Nd) (c i : Nat), scan c X = some X.length → i ≤ X.length → ∃ c', scan c' (X.drop i) = some (X.length - i)
  | X, c, 0, h, _ => ⟨c, by rw [List.drop_zero, Nat.sub_zero]; exact h⟩
  | [], c, i + 1, h, hi => by simp at hi
  | x :: X, c, i + 1, h, hi => by
    cases c with
    | zero => rw [scan_0] at h; simp at h
    | succ c =>
      have hx : 0 ≤ ar x := by
        rcases Int.lt_or_le (ar x) 0 with q | q
        · rw [scan_bad q] at h; cases h
        · exact q
      rw [scan_good hx, Option.map_eq_some_iff] at h
      obtain ⟨n, h, hn⟩ := h
      rw [List.length_cons] at hn hi
      obtain rfl : n = X.length := by omega
      obtain ⟨c', h'⟩ := scan_rest X _ i h (by omega)
      exact ⟨c', by rw [List.drop_succ_cons, List.length_cons, h']; congr 1; omega⟩
/-- Behind each place there are kids enough. -/
theorem stk_enough {l : List Nd} {k n : Nat} (h : scan 1 (l.drop k) = some n) (t : Nat) (ht : t < n) : ∃ x, l[k + t]? = some x ∧ 0 ≤ ar x ∧ ((l.drop k).take n).drop t = x :: ((l.drop k).take n).drop (t + 1) ∧ (ar x).toNat ≤ (stk (((l.drop k).take n).drop (t + 1))).length := by
  have hle := (scan_le _ _ _ h).2
  rw [List.length_drop] at hle
  have hp := scan_prefix _ _ _ [] h
  rw [List.append_nil] at hp
  have hlen : ((l.drop k).take n).length = n := by rw [List.length_take, List.length_drop]; omega
  obtain ⟨c, hc⟩ := scan_rest _ 1 t (by rw [hlen]; exact hp) (by omega)
  rw [hlen] at hc
  have hkt : k + t < l.length := by omega
  have hx : ((l.drop k).take n)[t]? = some l[k + t] := by
    rw [List.getElem?_take_of_lt ht, List.getElem?_drop, List.getElem?_eq_getElem hkt]
  obtain ⟨h1, h2⟩ := List.getElem?_eq_some_iff.1 hx
  have hd : ((l.drop k).take n).drop t = l[k + t] :: ((l.drop k).take n).drop (t + 1) := by rw [List.drop_eq_getElem_cons h1, h2]
  refine ⟨l[k + t], List.getElem?_eq_getElem hkt, ?_, hd, ?_⟩
  · rcases Int.lt_or_le (ar l[k + t]) 0 with q | q
    · cases c with
      | zero => rw [scan_0] at hc; simp at hc; omega
      | succ c => rw [hd, scan_bad q] at hc; cases hc
    · exact q
  · cases c with
    | zero => rw [scan_0] at hc; simp at hc; omega
    | succ c =>
      have h0 : 0 ≤ ar l[k + t] := by
        rcases Int.lt_or_le (ar l[k + t]) 0 with q | q
        · rw [hd, scan_bad q] at hc; cases hc
        · exact q
      rw [hd, scan_good h0, Option.map_eq_some_iff] at hc
      obtain ⟨n', hc, hn'⟩ := hc
      have e : ((l.drop k).take n).drop (t + 1) = (l.drop (k + t + 1)).take n' := by
        rw [List.drop_take, List.drop_drop]
        congr 1
        omega
      rw [e] at hc ⊢
      have hc' : scan (c + (ar l[k + t]).toNat) ((l.drop (k + t + 1)).take n') = some n' := hc
      rw [stk_kids l n' _ (k + t + 1) hc', List.length_map, kids_len]
      omega
end Go.Proofs.YtodejloonfkkmaaGreat.Arena

namespace Go.Proofs.YtodejloonfkkmaaGreat.Arena
open Go.RowKit Mem
attribute [local go_sem ↓] Go.wp_at_zero Go.wp_at_succ

def dcells (D : List Nat) : List Value := icells (D.map Int.ofNat)

theorem own_take {w : World} {base : Nat} {e : TypeId} {g n cap : Nat} {cs : List Value} (h : w.ownsRow base e 1 (.slice (some ⟨g, 0, none⟩) n cap) n cs) (k : Nat) (hk : k ≤ n) : w.ownsRow base e 1 (.slice (some ⟨g, 0, none⟩) k cap) k (cs.take k) := by
  obtain ⟨hl, h⟩ := h
  rcases h with ⟨h, -⟩ | ⟨g', cap', cur, h', hb, hg, hnc, hcm, hcs, htake⟩
  · cases h
  · simp only [Value.slice.injEq, Option.some.injEq, Addr.mk.injEq, and_true, true_and] at h'
    obtain ⟨rfl, rfl⟩ := h'
    refine ⟨by rw [List.length_take]; omega, .inr ⟨g, cap, cur, rfl, hb, hg, by omega, hcm, hcs, ?_⟩⟩
    rw [← htake, List.take_take, Nat.mul_one, Nat.mul_one]
    congr 1
    omega
theorem dcells_len (D : List Nat) : (dcells D).length = D.length := by simp [dcells, icells]
theorem stk_len : ∀ X : List Nd, (stk X).length ≤ X.length
  | [] => Nat.le_refl _
  | x :: X => by
    have := stk_len X
    rw [stk, List.length_cons, List.length_drop, List.length_cons]
    omega

end Go.Proofs.YtodejloonfkkmaaGreat.Arena

namespace Go.Proofs.YtodejloonfkkmaaGreat.Arena
open Go.RowKit Mem

/-- Whether one of them may not be. -/
def bads (xs : List Nd) : Bool := xs.any fun x => decide (ar x < 0)
/-- What is wrong with nodes. -/
def acheck (xs : List Nd) : Int := if xs.length = 0 then 10 else if 200 < xs.length then 4 else if bads xs = true then 11 else if aend xs 0 ≠ xs.length then 12 else if 30 < adep xs 0 then 13 else 0
end Go.Proofs.YtodejloonfkkmaaGreat.Arena

namespace Go.Proofs.YtodejloonfkkmaaGreat.Arena
open Go.RowKit Mem

set_option linter.unusedVariables false
end Go.Proofs.YtodejloonfkkmaaGreat.Arena

namespace Go.Proofs.YtodejloonfkkmaaGreat.Arena
open Go.RowKit Mem
set_option linter.unusedVariables false

end Go.Proofs.YtodejloonfkkmaaGreat.Arena

namespace Go.Proofs.YtodejloonfkkmaaGreat.Arena
open Go.RowKit Mem
set_option linter.unusedVariables false
attribute [local go_sem ↓] Go.wp_at_zero Go.wp_at_succ

theorem Nodes.of_blk {w : World} {g B : Nat} {xs : List Nd} (h : Blk w g 47 (ncells xs).toArray) (hB : g < B) : Nodes w B (some ⟨g, 0, none⟩) xs := by
  intro i x hx
  obtain ⟨h1, h2⟩ := ncells_get xs i x hx
  refine ⟨_, rfl, hB, ?_, ?_⟩
  · have : (⟨g, 0, none⟩ : Addr).add (i * 2) = ⟨g, i * 2, none⟩ := by unfold Addr.add; split <;> simp_all
    rw [this, h.cell]; simpa using h1
  · have : (⟨g, 0, none⟩ : Addr).add (i * 2) = ⟨g, i * 2, none⟩ := by unfold Addr.add; split <;> simp_all
    rw [this]
    show w.cell? ⟨g, i * 2 + 1, none⟩ = _
    rw [h.cell]; simpa using h2
theorem IRow.of_blk {w : World} {g B : Nat} {ks : List Int} (h : Blk w g 3 (icells ks).toArray) (hB : g < B) : IRow w B (some ⟨g, 0, none⟩) ks := by
  intro i x hx
  refine ⟨_, rfl, hB, ?_⟩
  have : (⟨g, 0, none⟩ : Addr).add i = ⟨g, i, none⟩ := by unfold Addr.add; split <;> simp_all
  rw [this, h.cell]; simp [icells, hx]

theorem Nodes.drew {w : World} {B : Nat} {A : Option Addr} {xs : List Nd} (h : Nodes w B A xs) : Nodes w.drew B A xs := h
/-- The document's example: Add, Int 1, Neg, Int 2. -/
def L4 : List Nd := [(7, 0), (1, 1), (5, 0), (1, 2)]
end Go.Proofs.YtodejloonfkkmaaGreat.Arena

namespace Go.Proofs.YtodejloonfkkmaaGreat.Arena
open Go.RowKit Mem Go.ChangeShapes Go.WideShapes Go.Deep Go.Joins

set_option maxRecDepth 100000 in
theorem cells_atN {w : World} {base n : Nat} {a : Addr} {cs : List Value} (h : w.cells? base a n = some cs) : ∀ j v, cs[j]? = some v → w.cell? (a.add j) = some v := by
  obtain ⟨_, hl, hat⟩ := World.cells?_some h
  intro j v hj
  have hlt := (List.getElem?_eq_some_iff.1 hj).1
  rw [hat j (by omega), hj]

section
variable {H : Type} {enc : TypeId × Value → H} {W : World} {spare : Nat → Bool} {held : Bool}

set_option maxRecDepth 100000 in
/-- One node, out of its cells. -/
theorem node_of {n : Nat} {cs : List Value} {x : DataW H × List MemPlace} (h : DataW.trod enc Tryz.prog W 0 spare held n 47 cs = some x) : ∃ y : Nd, cs = [.int .i64 y.1, .int .i64 y.2] := by
  have hC : Tryz.prog.cellsOf 47 = 2 := by kernel_rfl
  obtain ⟨y0, y1, m, hx, hl, h0, h1⟩ := trod_struct2 Tryz.underlying47 h
  rw [hC] at hl
  match cs, hl with
  | [c0, c1], _ =>
    obtain ⟨k, e0, -, -⟩ := DataW.trod_int Tryz.underlying3 h0
    obtain ⟨n, e1, -, -⟩ := DataW.trod_int Tryz.underlying3 h1
    have hC0 : Tryz.prog.cellsOf 3 = 1 := by kernel_rfl
    simp only [hC0] at e0 e1
    simp at e0 e1
    exact ⟨⟨k, n⟩, by simp [e0, e1]⟩

end
end Go.Proofs.YtodejloonfkkmaaGreat.Arena

namespace Go.Proofs.YtodejloonfkkmaaGreat.Arena

section
variable {β : Type} (f : Nd → List β → β) (d : β)

/-- What is told of the nodes that stand side by side, the first one first. -/
def fold : List Nd → List β
  | [] => []
  | x :: X => f x ((fold X).take (ar x).toNat) :: (fold X).drop (ar x).toNat
theorem fold_cons (x : Nd) (X : List Nd) : fold f (x :: X) = f x ((fold f X).take (ar x).toNat) :: (fold f X).drop (ar x).toNat := rfl
/-- What is told of a node. -/
def val (l : List Nd) (a : Int) : β := (fold f (apart l a)).headD d

theorem fold_len : ∀ (X : List Nd) (c : Nat), scan c X = some X.length → (fold f X).length = c
  | [], 0, _ => rfl
  | [], c + 1, h => by rw [scan_nil] at h; cases h
  | x :: X, 0, h => by rw [scan_0] at h; simp at h
  | x :: X, c + 1, h => by
    by_cases hx : ar x < 0
    · rw [scan_bad hx] at h; cases h
    · rw [scan_good (by omega), Option.map_eq_some_iff] at h
      obtain ⟨m, h, hm⟩ := h
      rw [List.length_cons] at hm
      obtain rfl : m = X.length := by omega
      rw [fold_cons, List.length_cons, List.length_drop, fold_len X _ h]
      omega
theorem fold_append : ∀ (P : List Nd) (c : Nat) (Z : List Nd), scan c P = some P.length → fold f (P ++ Z) = fold f P ++ fold f Z
  | [], _, Z, _ => rfl
  | x :: P, 0, Z, h => by rw [scan_0] at h; simp at h
  | x :: P, c + 1, Z, h => by
    by_cases hx : ar x < 0
    · rw [scan_bad hx] at h; cases h
    · rw [scan_good (by omega), Option.map_eq_some_iff] at h
      obtain ⟨m, h, hm⟩ := h
      rw [List.length_cons] at hm
      obtain rfl : m = P.length := by omega
      have hl := fold_len f P _ h
      rw [List.cons_append, fold_cons, fold_cons, fold_append P _ Z h, List.take_append_of_le_length (by omega), List.drop_append_of_le_length (by omega), List.cons_append]
theorem fold_part {l : List Nd} {k n : Nat} (h : scan 1 (l.drop k) = some n) : fold f (apart l k) = [val f d l k] := by
  have hp := part_scan h
  rw [← part_len h] at hp
  have hl := fold_len f _ 1 hp
  unfold val
  match hf : fold f (apart l k), hl with
  | [y], _ => rfl
theorem fold_kids {l : List Nd} (qs : List Int) (hq : ∀ q ∈ qs, 0 ≤ aend l q) : fold f (qs.flatMap (apart l)) = qs.map (val f d l) := by
  induction qs with
  | nil => rfl
  | cons q qs ih =>
    have h0 := hq q (List.mem_cons_self ..)
    rcases aend_cases l q with h | ⟨k, n, rfl, hs, he, h1, h2⟩
    · omega
    · have hp := part_scan hs
      rw [← part_len hs] at hp
      rw [List.flatMap_cons, fold_append f _ 1 _ hp, fold_part f d hs, ih (fun q h => hq q (List.mem_cons_of_mem _ h))]
      rfl
/-- A node's is told by itself, and by its kids'. -/
theorem val_kids {l : List Nd} {k n : Nat} (h : scan 1 (l.drop k) = some n) : ∃ x, l[k]? = some x ∧ 0 ≤ ar x ∧ (akids l k).length = (ar x).toNat ∧ val f d l k = f x ((akids l k).map (val f d l)) := by
  obtain ⟨x, hx, hl, h0, hp⟩ := part_kids h
  refine ⟨x, hx, h0, hl, ?_⟩
  have hk := fold_kids f d (l := l) (akids l k) (fun q hq => (kids_in h q hq).2.2)
  unfold val at hk ⊢
  rw [hp, fold_cons, hk, List.take_of_length_le (by rw [List.length_map]; omega)]
  rfl
theorem val_bad {l : List Nd} {a : Int} (h : aend l a < 0) : val f d l a = d := by
  unfold val apart; rw [if_pos h]; rfl
theorem whole_part {l : List Nd} (h : scan 1 l = some l.length) : apart l 0 = l := by
  have e := aend_some (l := l) (a := 0) (n := l.length) h
  show apart l ((0 : Nat) : Int) = l
  unfold apart
  rw [if_neg (by rw [e]; omega), e]
  rw [show (((0 : Nat) : Int) + (l.length : Int)).toNat - ((0 : Nat) : Int).toNat = l.length by omega, show ((0 : Nat) : Int).toNat = 0 from rfl, List.drop_zero, List.take_length]
/-- If all that is told side by side is good, and what is good comes of good kids alone, all below is good. -/
theorem fold_good (G : β → Prop) (hG : ∀ (x : Nd) (ks : List β), 0 ≤ ar x → ks.length = (ar x).toNat → G (f x ks) → ∀ y ∈ ks, G y) : ∀ (X : List Nd) (c i : Nat), scan c X = some X.length → (∀ y ∈ fold f X, G y) → i ≤ X.length → ∀ y ∈ fold f (X.drop i), G y
  | X, c, 0, _, hg, _ => by rw [List.drop_zero]; exact hg
  | [], c, i + 1, _, _, hi => by simp at hi
  | x :: X, 0, i + 1, h, _, _ => by rw [scan_0] at h; simp at h
  | x :: X, c + 1, i + 1, h, hg, hi => by
    by_cases hx : ar x < 0
    · rw [scan_bad hx] at h; cases h
    · rw [scan_good (by omega), Option.map_eq_some_iff] at h
      obtain ⟨m, h, hm⟩ := h
      rw [List.length_cons] at hm hi
      obtain rfl : m = X.length := by omega
      have hl := fold_len f X _ h
      rw [List.drop_succ_cons]
      refine fold_good G hG X _ i h ?_ (by omega)
      intro y hy
      rw [← List.take_append_drop (ar x).toNat (fold f X)] at hy
      rcases List.mem_append.1 hy with hy | hy
      · exact hG x _ (by omega) (by rw [List.length_take]; omega) (hg _ (by rw [fold_cons]; exact List.mem_cons_self ..)) y hy
      · exact hg y (by rw [fold_cons]; exact List.mem_cons_of_mem _ hy)
theorem val_good (G : β → Prop) (hG : ∀ (x : Nd) (ks : List β), 0 ≤ ar x → ks.length = (ar x).toNat → G (f x ks) → ∀ y ∈ ks, G y) {l : List Nd} (hw : scan 1 l = some l.length) (h0 : G (val f d l 0)) {k n : Nat} (h : scan 1 (l.drop k) = some n) : G (val f d l k) := by
  have e0 : fold f l = [val f d l 0] := by
    have := fold_part f d (l := l) (k := 0) (n := l.length) hw
    rw [show ((0 : Nat) : Int) = 0 from rfl, whole_part hw] at this
    exact this
  have hk : k ≤ l.length := by have := scan_le _ _ _ h; rw [List.length_drop] at this; omega
  have hg := fold_good f G hG l 1 k hw (by rw [e0]; intro y hy; rw [List.mem_singleton] at hy; rw [hy]; exact h0) hk
  have hp := part_scan h
  rw [← part_len h] at hp
  have hsp : l.drop k = apart l k ++ l.drop (k + n) := by
    obtain ⟨hs, ht⟩ := split3 h
    conv => lhs; rw [hs]
    rw [List.drop_left' ht]
  rw [hsp, fold_append f _ 1 _ hp, fold_part f d h] at hg
  exact hg _ (List.mem_append_left _ (List.mem_singleton.2 rfl))
end
end Go.Proofs.YtodejloonfkkmaaGreat.Arena
