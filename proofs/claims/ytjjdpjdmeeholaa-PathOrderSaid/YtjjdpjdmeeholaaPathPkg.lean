/-
  What the functions of paths come to.
-/
import Derived.Test.YtjjdpjdmeeholaaPathMath
import Derived.Test.YtjjdpjdmeeholaaArenaH
import Derived.Deep.QuietTactic
import Derived.Laws.AppendOwnNone
namespace Go.Proofs.Ytjjdpjdmeeholaa.Path
open Go.RowKit Mem _root_.Go.Proofs.Ytjjdpjdmeeholaa.Arena
set_option linter.unusedVariables false
attribute [local go_sem ↓] Go.wp_at_zero Go.wp_at_succ

/-- A node's path, or none. -/
def PathEnds (l : List Nd) (b : Int) (w : World) (e : Ending) (w' : World) : Prop :=
  Below w.heap.size w w' ∧
  ((∃ p A c, Leads l b p ∧ e = .returned (.tuple #[.slice A p.length c, .bool true]) ∧ p.length ≤ c ∧ (A = none → c = 0) ∧ IRow w' w'.heap.size A p) ∨
   ((¬ ∃ p, Leads l b p) ∧ ∃ A c, e = .returned (.tuple #[.slice A 0 c, .bool false])))
theorem PathEnds.ok {l : List Nd} {b : Int} {w w' : World} {e : Ending} (h : PathEnds l b w e w') {p : List Int} (hp : Leads l b p) : Below w.heap.size w w' ∧ ∃ A c, e = .returned (.tuple #[.slice A p.length c, .bool true]) ∧ p.length ≤ c ∧ (A = none → c = 0) ∧ IRow w' w'.heap.size A p := by
  obtain ⟨hb, ⟨q, A, c, hq, r⟩ | ⟨hn, -⟩⟩ := h
  · obtain rfl := hp.one hq
    exact ⟨hb, A, c, r⟩
  · exact absurd ⟨p, hp⟩ hn
theorem PathEnds.no {l : List Nd} {b : Int} {w w' : World} {e : Ending} (h : PathEnds l b w e w') (hn : ¬ ∃ p, Leads l b p) : Below w.heap.size w w' ∧ ∃ A c, e = .returned (.tuple #[.slice A 0 c, .bool false]) := by
  obtain ⟨hb, ⟨q, A, c, hq, -⟩ | ⟨-, r⟩⟩ := h
  · exact absurd ⟨q, hq⟩ hn
  · exact ⟨hb, r⟩
/-- What the package's functions come to. -/
structure Pkg : Prop where
  of : ∀ (A : Option Addr) (c : Nat) (l : List Nd) (b : Int) (w : World), Nodes w w.heap.size A l → l.length ≤ 1000000 → Calls Try.prog 9 #[.slice A l.length c, .int .i64 b] w (PathEnds l b w)
  find : ∀ (A : Option Addr) (c : Nat) (l : List Nd) (A' : Option Addr) (c' : Nat) (p : List Int) (w : World), Nodes w w.heap.size A l → l.length ≤ 1000000 → IRow w w.heap.size A' p → p.length ≤ 1000000 → p.length ≤ c' → (A' = none → c' = 0) →
    Calls Try.prog 12 #[.slice A l.length c, .slice A' p.length c'] w fun e w' => e = .returned (.int .i64 (pfind l p)) ∧ Below w.heap.size w w'
  compare : ∀ (A : Option Addr) (c : Nat) (p : List Int) (A' : Option Addr) (c' : Nat) (q : List Int) (w : World), IRow w w.heap.size A p → IRow w w.heap.size A' q → p.length ≤ 1000000 → q.length ≤ 1000000 → p.length ≤ c → q.length ≤ c' → (A = none → c = 0) → (A' = none → c' = 0) →
    Calls Try.prog 15 #[.slice A p.length c, .slice A' q.length c'] w fun e w' => e = .returned (.int .i64 (cmp p q)) ∧ Below w.heap.size w w'

theorem not_whole {l : List Nd} (h : ¬ Whole l) (b : Int) : ¬ ∃ p, Leads l b p := fun ⟨_, hp⟩ => h hp.1
theorem not_in {l : List Nd} {b : Int} (h : b < 0 ∨ (l.length : Int) ≤ b) : ¬ ∃ p, Leads l b p := fun ⟨_, hp⟩ => by
  have := hp.rng
  have := hp.2.1
  omega

theorem irow_cells {w : World} {B : Nat} {ad : Addr} {ks : List Int} (h : IRow w B (some ad) ks) : ∀ j u, (icells ks)[j]? = some u → w.cell? (ad.add j) = some u := by
  intro j u hu
  unfold icells at hu
  rw [List.getElem?_map] at hu
  cases hk : ks[j]? with
  | none => rw [hk] at hu; cases hu
  | some x =>
    rw [hk] at hu
    obtain ⟨ad', e, -, h3⟩ := h j x hk
    cases e
    simp at hu
    rw [← hu]; exact h3
theorem irow_empty {w : World} {B : Nat} {ks : List Int} (h : IRow w B none ks) : ks = [] := by
  cases ks with
  | nil => rfl
  | cons x l => obtain ⟨ad, e, -⟩ := h 0 x rfl; cases e
theorem icells_add (xs ys : List Int) : icells (xs ++ ys) = icells xs ++ icells ys := by simp [icells]
theorem icells_length (xs : List Int) : (icells xs).length = xs.length := by simp [icells]
/-- Numbers are put behind a row of numbers that the call owns. -/
theorem append_ints {w : World} {ops : Array Oper} {rest : List Oper} {o : Oper} {a : Act} {Q : Exit → Act → World → Prop} (hgd : o.guard = none) (s x : Operand)
    (ho : o.op = .call { callee := .builtin .append, args := #[s, x], argTypes := #[23, 23] })
    (base : Nat) (hbase : base ≤ w.heap.size) (v : Value) (ys : List Int) (hs : a.eval s = v) (hown : w.ownsRow base 3 1 v ys.length (icells ys))
    (B : Nat) (A : Option Addr) (c : Nat) (ks : List Int) (n : Nat) (hn : ks.length = n) (hx : a.eval x = .slice A n c) (hA : A = none → c = 0) (hN : IRow w B A ks) (hlen : ys.length + ks.length ≤ 100000000)
    (h : ∀ v' w', w'.ownsRow base 3 1 v' (ys ++ ks).length (icells (ys ++ ks)) → w.grownBy w' v.ownBlock → (v'.ownBlock = v.ownBlock ∨ v'.ownBlock = some w.heap.size) → wpList Try.prog ops Q rest (a.put o.dst v') w') :
    wpList Try.prog ops Q (o :: rest) a w := by
  subst hn
  obtain ⟨ig, hig, hz0, hz1, hz2⟩ := info_parts info_int
  cases A with
  | none =>
    obtain rfl := irow_empty hN
    obtain rfl := hA rfl
    refine wpList_append_own_none hgd s x 23 ho base 3 ig 1 Try.underlying23 hig v ys.length (icells ys) hs hown hx ?_
    refine h v w ?_ ⟨rfl, rfl, rfl, Nat.le_refl _, fun _ _ _ => rfl⟩ (.inl rfl)
    rw [List.append_nil]; exact hown
  | some ad =>
    refine wpList_append_own_at _ hgd s x 23 ho base 3 ig _ 1 8 Try.underlying23 hig hz0 hz1 hz2 rfl (by decide) v ys.length (icells ys) hs hown ad ks.length c (icells ks) hx (by rw [icells_length, Nat.mul_one]) (irow_cells hN) ?_ (by simp only [maxLen]; omega) (by omega) hbase ?_
    · intro u hu
      unfold icells at hu
      obtain ⟨x, -, rfl⟩ := List.mem_map.1 hu
      rfl
    · intro v' w' hown' hg _ hat
      refine h v' w' ?_ hg hat
      rw [List.length_append, icells_add]; exact hown'

end Go.Proofs.Ytjjdpjdmeeholaa.Path
